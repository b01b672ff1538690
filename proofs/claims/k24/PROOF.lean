import PyProof.Rows.All
import PySem.PyData
import Wide.All
import OpenK.AllK
import Wide.FinOn
import Lean
import PyProof.EqAt
import PyProof.EqKinds
import PyProof.TupleCall
import PyProof.SetKind
import PyProof.TupleKey
import PyProof.IsRules
import PyProof.SetRoads
import PyProof.RaisesMany
import PyProof.RulesTry
import PyProof.ExcClass2
import KE.KTryMore
import PyProof.RulesAs
import PyProof.NsDelKeeps
import KE.KDictList
import PyProof.P3In
import PyProof.Rows.SortShellK
import PyProof.TupleOfSeq
import PyProof.WalkInts
import PyProof.SeqI3
import PyProof.SumAnyB
import PyProof.Rows.SeqWords
import PyProof.ListRange
import PyProof.DictValues
import PyProof.DictWalks
import PyProof.NeKinds
import PyProof.FactsAll.list_2
import PySem.Challenge.RW_farhail_k24_all_choices_by_trying
set_option linter.all false
local macro_rules | `(tactic| ac_rfl) => `(tactic| exact⟨rfl,rfl,rfl,by decide +kernel,rfl,by decide +kernel,by decide +kernel⟩)
set_option genSizeOf false
set_option genInjectivity false
section
open PySem
abbrev Zi:=List (PyData×PyData)
abbrev Zj:=Array (Option Value)
abbrev Zk:=Value->Shared->Prop
abbrev Zl:=List Comprehension
abbrev Zm:=Str->Option Value
abbrev Zn:=List (Addr×Obj)
abbrev Zo:=List (List Nat)
abbrev Zp:=List (List Int)
abbrev Zq:=Int->Int->Bool
abbrev Zr:=List (Nat×Nat)
abbrev Zs:=List (Int×Int)
abbrev Zt:=PySem.W.Frag
abbrev Zu:=Option Value
abbrev Zv:=Array Value
abbrev Zw:=List PyData
abbrev Zx:=Option Addr
abbrev Zy:=List Value
abbrev Zz:=List Addr
abbrev A00:=List Bool
abbrev A01:=List Expr
abbrev A02:=List Stmt
abbrev A03:=List Nat
abbrev A04:=List Int
abbrev A05:=List Str
end
section
open PySem PySem.Spec PyProof.Rows PySem.W
def V0:=@wpAny_bind
def V1:=@List.mem_cons_self
def V2:=@wpAny_pure
def V3:=@Nat.le_refl
def V4:=@List.length_map
def V5:=@List.mem_cons_of_mem
def V6:=@List.mem_map
def V7:=@List.mem_cons
def V8:=@List.mem_append
def V9:=@Bool.and_eq_true
def VA:=@Heap.lt_size
def VB:=@List.mem_singleton
def VC:=@Nat.ne_of_lt
def VD:=@List.length_append
def VE:=@List.not_mem_nil
def VF:=@List.length_cons
def VG:=@wpS_bind
def VH:=@List.map_cons
def VI:=@List.length_range
def VJ:=@List.mem_filter
def VL:=@List.mem_range
def VM:=@Heap.get?_push_of_some
def VN:=@List.all_eq_true
def VO:=@List.size_toArray
def VP:=@List.all_cons
def VQ:=@List.getElem?_map
def VR:=@List.map_map
def VS:=@Nat.le_trans
def VT:=@List.map_append
def VU:=@wpS_pure
def VW:=@Nat.zero_le
def VX:=@List.getElem?_eq_getElem
def VY:=@Bool.false_ne_true
def VZ:=@List.mem_of_getElem?
def Ve:=@decide_eq_true
def Vf:=@of_decide_eq_true
def Vg:=@Nat.lt_of_lt_of_le
def Vh:=@wpAny_mono
def Vi:=@List.nodup_cons
def Vj:=@Heap.get?_push_size
def Vk:=@List.getD_eq_getElem?_getD
def Vl:=@List.mem_append_right
def Vm:=@List.append_nil
def Vn:=@PassesOwn.leaving
def Vo:=@wpAny_holding
def Vp:=@Array.getElem?_toList
def Vq:=@List.mem_flatMap
def Vr:=@List.getElem?_eq_none
def Vs:=@List.length_set
def Vt:=@Nat.lt_or_ge
def Vu:=@List.sum_cons
def Vv:=@List.nodup_append
def Vw:=@mg_none_of
def Vx:=@Nat.lt_irrefl
def Vy:=@List.filterMap_cons
def Vz:=@List.getElem?_eq_some_iff
def W0:=@Array.length_toList
def W2:=@decide_eq_true_eq
def W3:=@List.map_congr_left
def W4:=@decide_eq_false
def W5:=@List.append_assoc
def W6:=@Array.getElem?_eq_getElem
def W7:=@List.getElem?_range
def W8:=@List.nodup_nil
def W9:=@List.take_length
def WA:=@List.pairwise_cons
def WB:=@List.lookup_cons
def WC:=@List.nodup_range
def WD:=@Heap.get?_update_other
def WH:=@Nat.not_lt_zero
def WI:=@List.Sublist.nodup
def WJ:=@PySem.W.kia_one
def WK:=@List.length_take
def WM:=@Nat.lt_succ_of_lt
def WN:=@or_false
def WO:=@List.length_filter_le
def WQ:=@List.filter_cons_of_pos
def WR:=@List.filter_cons_of_neg
def WU:=@PySem.F.slot_list_append
def WV:=@PySem.F.type_list_append
def WX:=@Nat.le_of_lt
def WY:=@True.intro
def WZ:=@if_false
def Wa:=@Heap.get?_update_self
def Wb:=@List.flatten_cons
def Wc:=@List.length_singleton
def Wd:=@Option.map_eq_some_iff
def We:=@List.getElem?_of_mem
def Wf:=@wpS_mono
def Wg:=@wpS_forRange
def Wh:=@List.pairwise_map
def Wi:=@Bool.eq_iff_iff
def Wj:=@List.getElem_mem
def Wk:=@List.filter_sublist
def Wl:=@List.ext_getElem?
def Wm:=@codeAny_mono
def Wn:=@wpAny_field
def Wo:=@wpAny_newObj_type
def Wq:=@Array.getD_eq_getD_getElem?
def Wr:=@List.filter_cons
def Ws:=@Bool.false_eq_true
def Wt:=@wpAny_setState_of
def Wu:=@Heap.SameBut.update
def Wv:=@Nat.lt_succ_self
def Ww:=@codeAny_builtin
def Wx:=@Heap.size_push
def Wy:=@wpAny_rule
def Wz:=@List.mem_flatten
def X3:=@Nat.ne_of_gt
def X4:=@List.length_replicate
def X5:=@wpAny_call_entry
def X6:=@List.find?_cons
def X7:=@List.any_cons
def X8:=@Classical.byContradiction
def XA:=@PyProof.Rows.F.plain_set_update_loop
def XD:=@List.all_map
def XE:=@List.cons_ne_nil
def XF:=@Nat.mul_le_mul
def XG:=@List.flatten_append
def XI:=@List.contains_eq_mem
def XJ:=@List.getElem?_set_ne
def XM:=@wpAny_truthy_bool
def XN:=@wpAny_passesOwn
def XO:=@wpAny_typeOf
def XQ:=@eq_of_beq
def XR:=@List.replicate_succ
def XS:=@Nat.mod_lt
def XT:=@Nat.lt_trichotomy
def XU:=@Nat.not_lt
def XW:=@List.pairwise_lt_range
def XX:=@List.pairwise_iff_getElem
def XY:=@wpAny_setField
def XZ:=@Obj.data_mapFields
def Xa:=@Bool.not_eq_true'
def Xb:=@List.find?_cons_of_neg
def Xc:=@List.length_pos_of_mem
def Xd:=@Nat.min_eq_left
def Xe:=@Nat.min_eq_right
def Xf:=@List.Pairwise.imp_of_mem
def Xg:=@List.Pairwise.filter
def Xh:=@List.getElem?_set
def Xi:=@Int.ofNat_lt
def Xj:=@List.getElem?_set_self
def Xk:=@wpAny_standAt
def Xl:=@wpAny_call
def Xm:=@List.getElem?_append_right
def Xn:=@List.getElem?_append_left
def Xo:=@List.length_drop
def Xp:=@call_meets
def Xq:=@Nat.zero_lt_succ
def Xr:=@Int.emod_lt_of_pos
def Xs:=@Int.emod_nonneg
def Xu:=@Nat.zero_add
def Xv:=@Around.under_plainId
def Xw:=@wpAny_pyIter_list
def Xx:=@Nat.le_of_eq
def Xy:=@wpAny_askSetting
def Xz:=@List.nil_append
def Y0:=@List.find?_cons_of_pos
def Y3:=@Nat.le_total
def Y4:=@Heap.get?_none_of_le
def Y5:=@List.mem_append_left
def Y6:=@wpAny_execs_nil
def Y7:=@PySem.mem_of_lookup
def Y8:=@List.map_nil
def Y9:=@Nat.le_succ
def YA:=@List.filterMap_append
def YB:=@List.range_succ
def YC:=@plainId_quiet
def YD:=@Nat.le_add_right
def YE:=@wpAny_attempt
def YF:=@Obj.isFreed_of_fields
def YG:=@wpAny_of_eq
def YH:=@List.length_eq_zero_iff
def YI:=@List.any_eq_true
def YJ:=@List.take_of_length_le
def YK:=@List.cons.injEq
def YL:=@List.filter_congr
def YM:=@List.perm_ext_iff_of_nodup
def YN:=@Nat.mul_assoc
def YO:=@List.eq_nil_of_length_eq_zero
def YQ:=@List.pairwise_singleton
def YR:=@PyProof.Rows.callWith_type1
def YS:=@List.mem_filterMap
def YT:=@wpAny_Call_Name_kw
def YU:=@List.of_mem_zip
def YV:=@List.take_sublist
def YW:=@Int.toNat_natCast
def YX:=@wpAny_callSpecial?_slot
def YY:=@PyProof.Rows.slot_tuple_getitem
def YZ:=@List.eraseIdx_cons_succ
def Yb:=@List.foldl_cons
def Yc:=@List.length_nil
def Yd:=@tupleKind_room_in1
def Ye:=@Nat.le_of_not_lt
def Yg:=@Array.getElem?_eq_some_iff
def Yh:=@Array.getElem?_eq_none
def Yi:=@Bool.not_true
def Yj:=@wpAny_forIn_list
def Yk:=@wpAny_storeSet_of
def Yl:=@PyProof.Rows.F.entry_set_update_loop
def Ym:=@codeAny_of_tree
def Yn:=@wpAny_ite_split
def Yo:=@wpAny_newList
def Yp:=@listItems_at
def Yq:=@List.sum_append
def Yr:=@Nat.sub_zero
def Ys:=@decide_eq_false_iff_not
def Yt:=@List.map_eq_nil_iff
def Yu:=@Nat.le_of_ble_eq_true
def Yv:=@List.drop_length
def Yw:=@List.Pairwise.map
def Yx:=@List.filter_eq_nil_iff
def Yy:=@List.filter_map
def Yz:=@List.filter_append
def Z0:=@List.length_pos_iff
def Z1:=@List.ne_nil_of_mem
def Z2:=@List.contains_cons
def Z3:=@Array.find?_toList
def Z4:=@List.any_eq_false
def Z5:=@Array.mem_toList_iff
def Z6:=@PySem.W.kitx_list
def Z7:=@Option.isSome_iff_exists
def Z8:=@Nat.min_le_right
def Z9:=@Option.isSome_map
def ZA:=@Nat.pow_le_pow_right
def ZC:=@Nat.lt_succ_of_le
def ZD:=@Array.size_extract
def ZE:=@List.getElem_range
def ZF:=@Classical.not_not
def ZG:=@List.range_eq_range'
def ZH:=@Array.getElem?_setIfInBounds
def ZI:=@List.getElem?_toArray
def ZJ:=@Code.quiet_builtin
def ZK:=@codeAny_call_builtin
def ZL:=@Option.bind_some
def ZM:=@List.Perm.append_left
def ZN:=@List.getElem_of_mem
def ZO:=@PyProof.Rows.boot_list
def ZP:=@PySem.F.plainAttrs_list
def ZQ:=@PyProof.Rows.boot_sorted
def ZR:=@List.mem_erase_of_ne
def ZS:=@List.length_erase_of_mem
def ZT:=@List.contains_iff_mem
def ZU:=@Nat.max_eq_right
def ZV:=@List.mem_of_mem_take
def ZW:=@List.isEmpty_map
def ZX:=@List.map_singleton
def ZY:=@List.mem_iff_getElem?
def ZZ:=@List.take_append_drop
def Za:=@List.exists_mem_of_ne_nil
def Zb:=@List.pairwise_append
def Zc:=@List.getLastD_eq_getLast?
def Zd:=@List.dropLast_concat_getLast
def Ze:=@List.flatMap_append
def Zf:=@PyProof.Rows.slot_tuple_getitem.lookup
def Zg:=@List.eraseIdxIfInBounds_toArray
def Zh:=@List.length_pos_iff_exists_mem
end
noncomputable section
namespace PySem.W.Fast
def tw17648513582263832318:=Nat
def tw4634844447289006412:=Nat
def tw9025152754838532039:=Nat
def tw16880642372844119908:=Nat
def tw17010694825786359559:=Nat
def tw680422813374781153:=Nat
def tw5169201254393075317:=Nat
def tw9578317287668110929:=Nat
def tw3268786982129947011:=Nat
def tw14183267631408598840:=Nat
def tw10121970664347807097:=Nat
def tw11793845379046470929:=Nat
def tw648403260369983058:=Nat
def tw13446311894712823056:=Nat
def tw3273480052969378436:=Nat
def tw11136853289891814100:=Nat
def tw9140682976406438885:=Nat
def tw4562408858594795458:=Nat
def tw5104078852573199269:=Nat
def tw5812331076624044797:=Nat
def tw16562866338962143680:=Nat
def tw212298005830840616:=Nat
def tw3837342788204654710:=Nat
def tw7144237137018187491:=Nat
def tw12626949028768295374:=Nat
def tw5503961319640958122:=Nat
def tw10023435614677880126:=Nat
def tw11490087939256875592:=Nat
def tw14248003897812099968:=Nat
def tw1506768327578678597:=Nat
def tw7420762028969605011:=Nat
def tw9242356023977586961:=Nat
def tw1946449938463393544:=Nat
def tw12550542937587982770:=Nat
def tw12128334742783166253:=Nat
def tw8830101637107550586:=Nat
def tw15817618314481804421:=Nat
def tw4463637485956837058:=Nat
def tw8356048544253135311:=Nat
def tw9304810658658702219:=Nat
def tw1668182908476979315:=Nat
def tw3201590304967798610:=Nat
def tw12775904155600861572:=Nat
def tw17333092483600736497:=Nat
def tw14679991321299911705:=Nat
def tw3929668077343334466:=Nat
def tw6568288913375508749:=Nat
def tw10339643926421647095:=Nat
def tw17260210459411206221:=Nat
def tw14055476782356470713:=Nat
def tw2207201119109470255:=Nat
def tw14217054568951773985:=Nat
def tw14477358669634603796:=Nat
def tw336253038597889124:=Nat
def tw5841991264333916768:=Nat
def tw4443516520087527922:=Nat
def tw1451981843709598645:=Nat
def tw14058293024038660542:=Nat
def tw16594093813064219240:=Nat
def tw16911535012129370771:=Nat
def tw4107383773333984735:=Nat
def tw8643348872215075913:=Nat
def tw17620177987401765351:=Nat
def tw1027702243770425748:=Nat
def tw10902901516567103576:=Nat
def tw17442858791543625825:=Nat
def tw5860531571163018434:=Nat
def tw11573407346301141375:=Nat
def tw9671714578173186971:=Nat
def tw4753616812052703675:=Nat
def tw13511889422412537344:=Nat
def tw9972709229593600307:=Nat
def tw11623316803688131493:=Nat
def tw1656659883043638416:=Nat
def tw9592754888981507870:=Nat
def tw8533982991182333857:=Nat
def tw5896597571622521277:=Nat
def tw16853281349269647799:=Nat
def tw4343965536257959461:=Nat
def tw12648932986811924090:=Nat
def tw15542635778211786828:=Nat
def tw4841385519697286242:=Nat
def tw3174078481556324635:=Nat
def tw13898383828461147263:=Nat
def tw16827164644154237555:=Nat
def tw326582048501319566:=Nat
def tw16872753119615824807:=Nat
def tw7533861151431948437:=Nat
def tw1877491370726982818:=Nat
def tw5912014863090745977:=Nat
def tw15667593906417270825:=Nat
def tw8907874218547549176:=Nat
def tw12820331561119348405:=Nat
def tw6152299880671847137:=Nat
def tw268919286011859595:=Nat
def tw15236598358000190715:=Nat
def tw3660994339568152698:=Nat
def tw9310229912411468586:=Nat
def tw16062804718375639398:=Nat
def tw12430081063492667320:=Nat
def tw12144184676365139610:=Nat
def tw16934802161231782702:=Nat
def tw12536636156203825216:=Nat
def tw9641488233746188490:=Nat
def tw10334086828865625143:=Nat
def tw12794690508307028013:=Nat
def tw12508751533951981038:=Nat
def tw14848264821056216082:=Nat
def tw1565850584622763218:=Nat
def tw3020439750498600101:=Nat
def tw8897756747269505765:=Nat
def tw11667999684962698810:=Nat
def tw16077184974731964837:=Nat
def tw2442973002944510880:=Nat
def tw16923955390909069415:=Nat
def tw5477699013256289911:=Nat
def tw14332759280587489763:=Nat
def tw7940451278600906895:=Nat
def tw15909367583934529843:=Nat
def tw5931813055788603763:=Nat
def tw7629753427316986197:=Nat
def tw10652120776600452626:=Nat
def tw5081786368802231502:=Nat
def tw17250756339568841979:=Nat
def tw11876995337363193505:=Nat
def tw7342587916871220593:=Nat
def tw16593585522377523519:=Nat
def tw13754343701721291293:=Nat
def tw5047206966574301760:=Nat
def tw3153572880796674742:=Nat
def tw7147548805693480102:=Nat
def tw17387087467552452734:=Nat
def tw5994934343744310892:=Nat
def tw214821499444582305:=Nat
def tw1845850023239874348:=Nat
def tw2001361156458330742:=Nat
def tw15426431975049578795:=Nat
def tw2142816956053936270:=Nat
def tw13008899047872059921:=Nat
def tw1717757801598558234:=Nat
def tw7132897773608353733:=Nat
def tw10249175939661127070:=Nat
def tw12984638530052565572:=Nat
def tw14646886363365296447:=Nat
def tw6993088399596429002:=Nat
def tw10927222587363883584:=Nat
def tw15087630931498067700:=Nat
def tw16202260444311353882:=Nat
def tw11183145387706821913:=Nat
def tw2791923833335571088:=Nat
def tw611604521932471918:=Nat
def tw12843241405241547040:=Nat
def tw13720343484349475469:=Nat
def tw2266505679373277433:=Nat
def tw118946848562501586:=Nat
def tw16874378619670305637:=Nat
def tw5243820679433449620:=Nat
def tw2009519642229478514:=Nat
def tw1648062393404868460:=Nat
def tw5431194932655966476:=Nat
end PySem.W.Fast
set_option Elab.async false
set_option linter.all false
set_option maxHeartbeats 4000000
set_option maxRecDepth 100000
namespace Dv
open PySem
inductive Kd where
 |sh|ow (p:Bool)|dp (p:Bool)|dk (p:Bool)|dt (p:Bool)|st (p:Bool)
 deriving DecidableEq
def lO(n:Nat) (i:Int):Option Nat:=if 0<=i then(if i<n then some i.toNat else none)else if-(n:Int)<=i then some (i+n).toNat else none
def kG:PyData->Bool
 |.int _ | .str _=>true
 |_=>false
instance Vd:DecidableEq PyData:=λa b=>Classical.propDecidable (a=b)
def cJ(kvs:Zi)(k:PyData):Option PyData:=(kvs.find? λkv=>decide (kv.1=k)).map (·.2)
def putD(kvs:Zi)(k v:PyData):Zi:=if(kvs.any λkv=>decide (kv.1=k))=true then kvs.map (λkv=>if kv.1=k then(kv.1,v)else kv)else kvs++[(k,v)]
def hi0:Nat:=0
def hi1:Nat:=hi0
def hi2:Nat:=hi1
def UL:Nat:=hi2
def UR:Nat:=UL
def UJ:Nat:=UR
def U9:Nat:=UJ
def U3:Nat:=U9
def U5:Nat:=U3
def UM:Nat:=U5
def Uh:Nat:=UM
def Uv:Nat:=Uh
def kQ:Nat:=Uv
abbrev En:=List (Option (Kd×PyData))
abbrev A06:=En->Kd->PyData->Prop
abbrev A07:=List (Option PyData)
abbrev A08:=Option (Kd×PyData)
abbrev A09:=Kd->PyData->Prop
abbrev A0A:=En->Bool->Prop
abbrev A0B:=En->Prop
abbrev XC:=Str->PyData->Prop
abbrev xF:XC:=λ_ _=>False
abbrev DE:=XC->En->A06->Prop
abbrev DT:=XC->En->A0A->Prop
abbrev DI:=XC->En->(En->Zw->Prop)->Prop
structure gw where
 nx:A0B
 rt:A06
 xc:XC
abbrev DS:=gw->En->Prop
abbrev bF:=Zw->(Zw->Kd->PyData->Prop)->XC->Prop
def lf:PyData->Bool
 |.none | .bool _ | .int _ | .str _=>true
 |.tuple ds=>lfs ds
 |.list _ | .dict _=>false
where lfs:Zw->Bool
 |[]=>true
 |d::ds=>lf d&&lfs ds
theorem w9:∀ds:Zw,lf.lfs ds=ds.all lf
 |[]=>by rw[lf.lfs];rfl
 |d::ds=>by rw[lf.lfs,w9 ds];rfl
def Cj:PyData->Bool
 |.list _=>true
 |_=>false
def flat:Kd->PyData->Bool
 |.sh,d=>lf d
 |.ow _,.list ds=>ds.all lf
 |.dp _,.list ds=>ds.all λd=>match d with | .list es=>es.all lf|d=>lf d
 |.dk _,.dict kvs=>kvs.all λkv=>lf kv.2
 |.dt _,.dict kvs=>kvs.all λkv=>lf kv.2
 |_,_=>false
def Kd.fz:Kd->Bool
 |.sh | .ow false | .dp false | .dk false | .dt false=>true
 |_=>false
def Kd.rd:Kd->Bool
 |.st _=>false
 |_=>true
def Kd.pin:Kd->Bool
 |.ow p | .dp p | .dk p | .dt p | .st p=>p
 |.sh=>false
def dX(E:En) (i:Nat):Option En:=match E[i]? with
 |some (some (k,d))=>if k.fz then some (E.set i (some (.sh,d)))else none
 |_=>none
def eE:A03->En->Option En
 |[],E=>some E
 |i::r,E=>(dX E i).bind (eE r)
inductive Arg where
 |pk (i:Nat)|ev (d:DE)
def fM:List Arg->A03
 |[]=>[]
 |.pk i::r=>i::fM r
 |.ev _::r=>fM r
def here(E:En) (i:Nat):Bool:=match E[i]? with
 |some (some _)=>true
 |_=>false
def fill:List Arg->En->List (Option PyData)->Option (Zw)
 |[],_,[]=>some []
 |.pk i::r,E,none::os=>match E[i]? with
  |some (some (k,d))=>if k.rd then(fill r E os).map (d::·)else none
  |_=>none
 |.ev _::r,E,some v::os=>(fill r E os).map (v::·)
 |_,_,_=>none
def iS(E:En) (i:Nat):Bool:=match E[i]? with
 |some (some (.sh,_))=>true
 |_=>false
theorem A4{E:En}:∀{is:A03},is.all (iS E)=true->eE is E=some E
 |[],_=>rfl
 |i::r,h=>by
  rw[VP,V9]at h;have e:dX E i=some E:=by
   have h1:=h.1;unfold iS at h1;unfold dX;split at h1
   .rename_i d e;rw[e];show some (E.set i (some (.sh,d)))=some E;congr 1;refine Wl λj=>?_;rw[Xh];by_cases c:i=j
    .subst c;rw[if_pos rfl,e];have l:i<E.length:=by rcases Vt i E.length with z|z;{exact z};rw[Vr z]at e;cases e
     rw[if_pos l]
    rw[if_neg c]
   cases h1
  show(dX E i).bind (eE r)=some E;rw[e];exact A4 h.2
def Ow(as:List Arg)(E:En)(k:Kd)(v:PyData):Option En:=if((fM as).all (iS E)||flat k v)=true then some E else eE (fM as) E
def Aj{is:A03}{E E2:En}{b:Bool}(h:(if(is.all (iS E)||b)=true then some E else eE is E)=some E2):(if b=true then some E else eE is E)=some E2:=by
 cases hs:is.all (iS E)with
 |true=>rw[hs,Bool.true_or,if_pos rfl]at h;rw[A4 hs,h,ite_self]
 |false=>rw[hs,Bool.false_or]at h;exact h
abbrev DR:=Zw->A09->Prop
def dC(v:PyData):DE:=λ_ E Q=>(λ_:Nat=>Q E .sh v) kQ
def t9:A00->List Arg->Zw->En->Option En
 |[],[],[],E=>some E
 |false::ms,_::r,us,E=>t9 ms r us E
 |true::ms,.pk i::r,u::us,E=>match E[i]? with
  |some (some (.ow p,.list _))=>if Cj u then t9 ms r us (E.set i (some (.ow p,u)))else none
  |_=>none
 |_,_,_,_=>none
def lent:A00->List Arg->A03
 |true::ms,.pk i::r=>i::lent ms r
 |_::ms,_::r=>lent ms r
 |_,_=>[]
def kept:A00->List Arg->A03
 |false::ms,.pk i::r=>i::kept ms r
 |_::ms,_::r=>kept ms r
 |_,_=>[]
def shape:A00->List Arg->Bool
 |[],[]=>true
 |true::ms,.pk _::r=>shape ms r
 |false::ms,_::r=>shape ms r
 |_,_=>false
def A0(ms:A00)(as:List Arg)(E:En):Bool:=shape ms as&&decide (lent ms as).Nodup&&(lent ms as).all (λi=>!(kept ms as).contains i&&(match E[i]? with|some (some (.ow _,.list _))=>true|_=>false))
def Rk(ms:A00)(as:List Arg)(us:Zw)(E:En)(k:Kd)(v:PyData):Option En:=if((kept ms as).all (iS E)||(flat k v&&us.all (flat (.ow false))))=true then some E else eE (kept ms as) E
def lZ:PyData->Option Bool
 |.bool b=>some b
 |.int i=>some (!decide (i=0))
 |.none=>some false
 |.str _=>none
 |.list ds=>some !ds.isEmpty
 |.tuple ds=>some !ds.isEmpty
 |.dict _=>none
def PY(d:DE):DT:=λx E Q=>d x E λE' _ v=>∃b,lZ v=some b/\Q E' b
def sI(t:DT):DT:=λx E Q=>(λ_:Nat=>t x E λE' b=>Q E' (!b)) kQ
def Qx(a b:DE):DE:=λx E Q=>a x E λE1 _ v=>∃c,v=.bool c/\if c=true then b x E1 Q else Q E1 .sh (.bool false)
def To(a b:DE):DE:=λx E Q=>a x E λE1 _ v=>∃c,v=.bool c/\if c=true then Q E1 .sh (.bool true)else b x E1 Q
def Pn(a:DE):DE:=λx E Q=>a x E λE1 _ v=>∃c,lZ v=some c/\Q E1 .sh (.bool !c)
def Hx(f f':Zq)(a b c:DE):DE:=λx E Q=>a x E λE1 _ u=>∃i,u=.int i/\b x E1 λE2 _ v=>∃j,v=.int j/\if f i j=true then c x E2 λE3 _ w=>∃k,w=.int k/\Q E3 .sh (.bool (f' j k))else Q E2 .sh (.bool false)
def TU(c:DT)(a b:DE):DE:=λx E Q=>c x E λE1 t=>if t=true then a x E1 Q else b x E1 Q
def dJ:DS:=λD E=>(λ_:Nat=>D.nx E) kQ
def au(a b:DS):DS:=λD E=>(λ_:Nat=>a { D with nx:=b D } E) kQ
def Em(a b:DS):DS:=λD E=>∃J:A0B,a { D with nx:=J } E/\∀E',J E'->b D E'
def Rn(c:DT)(a b:DS):DS:=λD E=>c D.xc E λE1 t=>if t=true then a D E1 else b D E1
def bN(E:En) (i:Nat):Bool:=match E[i]? with
 |some (some (k,_))=>!k.pin
 |some none=>true
 |none=>false
def Qk(i:Nat)(e:DE):DS:=λD E=>e D.xc E λE' k v=>bN E' i=true/\D.nx (E'.set i (some (k,v)))
inductive Tg where
 |nm (i:Nat)|tp (is:A03)
def Tg.slots:Tg->A03
 |.nm i=>[i]
 |.tp is=>is
def b9:A03->Zw->En->Option En
 |[],[],E=>some E
 |i::is,d::ds,E=>if bN E i then b9 is ds (E.set i (some (.sh,d)))else none
 |_,_,_=>none
def cT:Tg->PyData->En->Option En
 |.nm i,d,E=>b9 [i] [d] E
 |.tp is,.tuple ds,E=>b9 is ds E
 |_,_,_=>none
def bY(e:DE):DS:=λD E=>(λ_:Nat=>e D.xc E D.rt) kQ
def jC(E:En) (i:Nat):Bool:=match E[i]? with
 |some (some (.ow _,.list _))=>true
 |_=>false
abbrev DM:=Zw->Zw->(Zw->PyData->Prop)->Prop
def iL:Zi->Bool
 | (.none,_)::_=>false
 |_=>true
def Be(most:Nat) (i:Nat)(e:DE):DS:=λD E=>jC E i=true/\e D.xc E λE1 k v=>k.fz=true/\∃p ds es,E1[i]?=some (some (.ow p,.list ds))/\v=.list es/\ds.length+es.length<=most/\D.nx (E1.set i (some (.ow p,.list (ds++es))))
def tM(f:DM) (i:Nat)(j:DE) (n:Nat):DE:=λx E Q=>here E i=true/\j x E λE1 _ w=>∃a p ds m es k d E2,w=.int a/\E1[i]?=some (some (.dp p,.list ds))/\lO ds.length a=some m/\ds[m]?=some (.list es)/\E1[n]?=some (some (k,d))/\i≠n/\dX E1 n=some E2/\f es [d] λnew v=>Q (E2.set i (some (.dp p,.list (ds.set m (.list new))))) .sh v
def oM(c:Str):DS:=λD _=>(λ_:Nat=>D.xc c .none) kQ
def eN(e:DE):DS:=λD E=>(λ_:Nat=>e D.xc E λE' _ _=>D.nx E') kQ
def eB(it:DI)(tg:Tg)(b:DS):DS:=λD E=>(λ_:Nat=>it D.xc E λE1 xs=>∃I:Nat->En->Prop,I 0 E1/\(∀i d E,xs[i]?=some d->I i E->∃E2,cT tg d E=some E2/\b { D with nx:=I (i+1) } E2)/\∀E,I xs.length E->D.nx E) kQ
def qE(c:DT)(b:DS):DS:=λD E=>∃W:Nat->En->Prop,(∃m,W m E)/\∀m E,W m E->c D.xc E λE1 t=>if t=true then b { D with nx:=λE'=>∃m',m'<m/\W m' E' } E1 else D.nx E1
def items:PyData->Option (Zw)
 |.list ds=>some ds
 |.tuple ds=>some ds
 |_=>none
def oE(e:DE):DI:=λx E Q=>e x E λE' k v=>k.fz=true/\∃ds,items v=some ds/\Q E' ds
def j8(ds:Zw):Zw:=ds.zipIdx.map λp=>.tuple [.int p.2,p.1]
def Tj(e:DE):DI:=λx E Q=>e x E λE' k v=>k.fz=true/\∃ds,v=.list ds/\Q E' (j8 ds)
def bE:A03->En->Option En
 |[],E=>some E
 |i::r,E=>if bN E i then bE r (E.set i none)else none
abbrev DC:=XC->Zw->En->(Zw->En->Prop)->Prop
def cY:DT:=λ_ E Q=>(λ_:Nat=>Q E true) kQ
def bM(most:Nat)(e:DE):DC:=λx ys E Q=>e x E λE1 k v=>k.fz=true/\ys.length<most/\Q (ys++[v]) E1
def Dt(it:DI)(tg:Tg)(c:DT)(r:DC):DC:=λx ys E Q=>(λ_:Nat=>it x E λE1 xs=>∃I:Nat->Zw->En->Prop,I 0 ys E1/\(∀i d ys E,xs[i]?=some d->I i ys E->∃E2,cT tg d E=some E2/\c x E2 λE3 b=>if b=true then r x ys E3 (I (i+1))else I (i+1) ys E3)/\∀ys E,I xs.length ys E->Q ys E) kQ
def bJ(cs:A03)(it:DI)(tg:Tg)(c:DT)(r:DC):DE:=λx E Q=>(λ_:Nat=>it x E λE1 xs=>∃(E0:En)(I:Nat->Zw->En->Prop),bE cs E1=some E0/\I 0 [] E0/\(∀i d ys E,xs[i]?=some d->I i ys E->∃E2,cT tg d E=some E2/\c xF E2 λE3 b=>if b=true then r xF ys E3 (I (i+1))else I (i+1) ys E3)/\∀ys E,I xs.length ys E->∃E2,bE cs E=some E2/\Q E2 (.ow false) (.list ys)) kQ
def oz(most:Nat)(cs:A03)(it:DI)(tg:Tg)(c:DT)(e:DE):DE:=λx E Q=>(λ_:Nat=>it x E λE1 xs=>∃(E0:En)(I:Nat->Zw->En->Prop),bE cs E1=some E0/\I 0 [] E0/\(∀i d ys E,xs[i]?=some d->I i ys E->∃E2,cT tg d E=some E2/\c xF E2 λE3 b=>if b=true then e xF E3 (λE4 k v=>(∃p,k=.ow p)/\ys.length<most/\I (i+1) (ys++[v]) E4)else I (i+1) ys E3)/\∀ys E,I xs.length ys E->∃E2,bE cs E=some E2/\Q E2 (.dp false) (.list ys)) kQ
def k8(lo:Int) (n:Nat):Zw:=(List.range n).map λi:Nat=>PyData.int (lo+i)
def aH{α:Type}(o:Option α)(Q:α->Prop):Prop:=match o with
 |some a=>Q a
 |none=>False
def dS{α:Sort u}(b:Bool)(x y:α):α:=match b with
 |true=>x
 |false=>y
def bH:A08->Bool
 |some (k,_)=>!k.pin
 |none=>true
def gA(E:En) (i:Nat):Bool:=match E[i]? with
 |some o=>bH o
 |none=>false
def bK(b:Bool)(P:Prop):Prop:=match b with
 |true=>P
 |false=>False
def jB:List Arg->XC->En->(En->List (Option PyData)->Prop)->Prop
 |[],_,E,Q=>Q E []
 |.pk i::r,x,E,Q=>bK (here E i) (jB r x E λE' os=>Q E' (none::os))
 |.ev d::r,x,E,Q=>d x E λE1 k v=>bK k.fz (jB r x E1 λE' os=>Q E' (some v::os))
def t6(E:En) (i:Nat):Option En:=match E[i]? with
 |some (some (k,d))=>dS k.fz (some (E.set i (some (.sh,d)))) none
 |_=>none
def j9:A03->En->Option En
 |[],E=>some E
 |i::r,E=>(t6 E i).bind (j9 r)
def cZ:List Arg->En->List (Option PyData)->Option (Zw)
 |[],_,[]=>some []
 |.pk i::r,E,none::os=>match E[i]? with
  |some (some (k,d))=>dS k.rd ((cZ r E os).map (d::·)) none
  |_=>none
 |.ev _::r,E,some v::os=>(cZ r E os).map (v::·)
 |_,_,_=>none
def tX(as:List Arg)(E:En)(k:Kd)(v:PyData):Option En:=dS ((fM as).all (iS E)||flat k v) (some E) (j9 (fM as) E)
def F7(E:En) (i:Nat)(Q:A06):Prop:=match E[i]? with
 |some (some (_,d))=>aH (t6 E i) λE'=>Q E' .sh d
 |_=>False
def vD(r:DR)(as:List Arg)(E:En)(os:A07)(Q:A06):Prop:=aH (cZ as E os) λds=>r ds λk v=>aH (tX as E k v) λE2=>Q E2 k v
def nO(i:Nat):A03->Bool
 |[]=>false
 |j::r=>i==j||nO i r
def qv:A03->A03->En->Bool
 |[],_,_=>true
 |i::r,ks,E=>(!nO i ks&&!nO i r&&jC E i)&&qv r ks E
def uM(ms:A00)(as:List Arg)(E:En):Bool:=shape ms as&&qv (lent ms as) (kept ms as) E
def kL:A00->List Arg->Zw->En->Option En
 |[],[],[],E=>some E
 |false::ms,_::r,us,E=>kL ms r us E
 |true::ms,.pk i::r,u::us,E=>match E[i]? with
  |some (some (.ow p,.list _))=>dS (Cj u) (kL ms r us (E.set i (some (.ow p,u)))) none
  |_=>none
 |_,_,_,_=>none
def uY(ms:A00)(as:List Arg)(us:Zw)(E:En)(k:Kd)(v:PyData):Option En:=dS ((kept ms as).all (iS E)||(flat k v&&us.all (flat (.ow false)))) (some E) (j9 (kept ms as) E)
def IF(ms:A00)(as:List Arg)(E:En)(us:Zw)(k:Kd)(v:PyData)(Q:A06):Prop:=aH (kL ms as us E) λE2=>aH (uY ms as us E2 k v) λE3=>Q E3 k v
def GQ(sp:bF)(ms:A00)(as:List Arg)(x:XC)(E:En)(os:A07)(Q:A06):Prop:=aH (cZ as E os) λds=>bK (uM ms as E) (sp ds (λus k v=>IF ms as E us k v Q) x)
def vP(v:PyData)(Q:Bool->Prop):Prop:=aH (lZ v) Q
def Ht(E:En) (i:Nat)(Q:A0A):Prop:=match E[i]? with
 |some (some (k,d))=>bK k.rd (vP d (Q E))
 |_=>False
def DG(v:PyData)(Q:Bool->Prop):Prop:=match v with
 |.bool b=>Q b
 |_=>False
def tF(v:PyData)(Q:Int->Prop):Prop:=match v with
 |.int i=>Q i
 |_=>False
def Lw(v:PyData)(Q:Zw->Prop):Prop:=aH (items v) Q
def xY(v:PyData)(Q:Zw->Prop):Prop:=match v with
 |.list xs=>Q xs
 |_=>False
def Gg(E:En) (i:Nat)(Q:A06):Prop:=match E[i]? with
 |some (some (k,d))=>bK (!k.pin) (Q (E.set i none) k d)
 |_=>False
def Fi(f:DM) (i:Nat)(as:List Arg)(E:En)(os:A07)(Q:A06):Prop:=aH (cZ as E os) λargs=>match E[i]? with
 |some (some (.ow p,.list ds))=>f ds args λnew v=>Q (E.set i (some (.ow p,.list new))) .sh v
 |_=>False
def Ge(f:Int->Int->Int)(E:En) (i:Nat)(v:PyData)(Q:A0B):Prop:=match E[i]? with
 |some (some (_,.int a))=>tF v λb=>Q (E.set i (some (.sh,.int (f a b))))
 |_=>False
def stK:A03->Zw->En->Option En
 |[],[],E=>some E
 |i::is,d::ds,E=>dS (gA E i) (stK is ds (E.set i (some (.sh,d)))) none
 |_,_,_=>none
def Lo(is:A03)(v:PyData)(E:En)(Q:A0B):Prop:=match v with
 |.tuple ds=>aH (stK is ds E) Q
 |_=>False
def Bl(n:Nat) (i:Int):Option Nat:=match i with
 |.ofNat k=>dS (Nat.blt k n) (some k) none
 |.negSucc k=>lO n (.negSucc k)
def aS(i:Nat):DE:=λ_ E Q=>F7 E i Q
def ah(r:DR)(as:List Arg):DE:=λx E Q=>jB as x E λE1 os=>vD r as E1 os Q
def aG(sp:bF)(ms:A00)(as:List Arg):DE:=λx E Q=>jB as x E λE1 os=>GQ sp ms as x E1 os Q
def bS(d:DE):DT:=λx E Q=>d x E λE' _ v=>vP v (Q E')
def CD(i:Nat):DT:=λ_ E Q=>Ht E i Q
def wX(a b:DE):DE:=λx E Q=>a x E λE1 _ v=>DG v λc=>dS c (b x E1 Q) (Q E1 .sh (.bool false))
def qc(a b:DE):DE:=λx E Q=>a x E λE1 _ v=>DG v λc=>dS c (Q E1 .sh (.bool true)) (b x E1 Q)
def mK(a:DE):DE:=λx E Q=>a x E λE1 _ v=>vP v λc=>Q E1 .sh (.bool !c)
def pC(f f':Zq)(a b c:DE):DE:=λx E Q=>a x E λE1 _ u=>tF u λi=>b x E1 λE2 _ v=>tF v λj=>dS (f i j) (c x E2 λE3 _ w=>tF w λk=>Q E3 .sh (.bool (f' j k))) (Q E2 .sh (.bool false))
def zK(c:DT)(a b:DE):DE:=λx E Q=>c x E λE1 t=>dS t (a x E1 Q) (b x E1 Q)
def cO(c:DT)(a b:DS):DS:=λD E=>c D.xc E λE1 t=>dS t (a D E1) (b D E1)
def aK(i:Nat)(e:DE):DS:=λD E=>e D.xc E λE' k v=>bK (gA E' i) (D.nx (E'.set i (some (k,v))))
def qF(is:A03)(e:DE):DS:=λD E=>e D.xc E λE' k v=>bK k.fz (Lo is v E' D.nx)
def gW(i:Nat):DS:=λD E=>Gg E i D.rt
def oU(f:DM) (i:Nat)(es:List DE):DE:=λx E Q=>bK (jC E i) (jB (es.map .ev) x E λE1 os=>Fi f i (es.map .ev) E1 os Q)
def lV(i:Nat)(j:DE)(e:DE):DS:=λD E=>e D.xc E λE1 k v=>bK k.fz (bK (here E1 i) (j D.xc E1 λE2 k2 w=>bK k2.fz (setI E2 i w v D.nx)))
where setI (E:En) (i:Nat)(w v:PyData)(Q:A0B):Prop:=match E[i]?,w with
 |some (some (.ow p,.list ds)),.int a=>aH (Bl ds.length a) λn=>Q (E.set i (some (.ow p,.list (ds.set n v))))
 |some (some (.dk p,.dict kvs)),w=>(kG w=true/\kvs.length<16777216)/\Q (E.set i (some (.dk p,.dict (putD kvs w v))))
 |some (some (.dt p,.dict (_::kvs))),.tuple ks=>(ks.all kG=true/\kvs.length<16777216)/\Q (E.set i (some (.dt p,.dict ((.none,.none)::putD kvs (.tuple ks) v))))
 |_,_=>False
def v7(f:Int->Int->Int) (i:Nat)(e:DE):DS:=λD E=>bK (here E i) (e D.xc E λE1 _ v=>Ge f E1 i v D.nx)
def iE(e:DE):DI:=λx E Q=>e x E λE' k v=>bK k.fz (Lw v λds=>Q E' ds)
def mS(g:Zw->Option (Zw))(as:List Arg):DI:=λx E Q=>jB as x E λE1 os=>aH (cZ as E1 os) λds=>aH (g ds) λxs=>Q E1 xs
def yD(e:DE):DI:=λx E Q=>e x E λE' k v=>bK k.fz (xY v λds=>Q E' (j8 ds))
def UX(a b:DE):DI:=λx E Q=>a x E λE1 k v=>bK k.fz (b x E1 λE2 k2 v2=>bK k2.fz (xY v λds=>xY v2 λes=>Q E2 ((ds.zip es).map λp=>.tuple [p.1,p.2])))
def bw{α:Type}{o:Option α}{Q:α->Prop}:(∃a,o=some a/\Q a)=aH o Q:=by
 cases o with
 |none=>exact propext ⟨λ⟨a,e,_⟩=>(by cases e),λh=>h.elim⟩
 |some a=>exact propext ⟨λ⟨b,e,q⟩=>by cases e;exact q,λh=>⟨a,rfl,h⟩⟩
def dh{b:Bool}{P:Prop}:bK b P=(b=true/\P):=by
 cases b with
 |true=>exact propext ⟨λh=>⟨rfl,h⟩,λh=>h.2⟩
 |false=>exact propext ⟨λh=>h.elim,λh=>by cases h.1⟩
universe u
def cF{α:Sort u}{b:Bool}{x y:α}:dS b x y=if b=true then x else y:=by cases b<;>rfl
def Cf{E:En}{i:Nat}:t6 E i=dX E i:=by unfold t6 dX;split;{rw[cF]};rfl
theorem uo:∀{is:A03}{E:En},j9 is E=eE is E
 |[],_=>rfl
 |i::r,E=>by rw[j9,eE,Cf];congr 1;funext E1;exact uo
theorem e7:∀{as:List Arg}{E:En}{os:A07},cZ as E os=fill as E os
 |[],_,[]=>rfl
 |[],_,_::_=>rfl
 |.pk i::r,E,none::os=>by rw[cZ,fill,e7];split;{rw[cF]};rfl
 |.ev _::r,E,some v::os=>by rw[cZ,fill,e7]
 |.pk _::_,_,[]=>rfl
 |.pk _::_,_,some _::_=>rfl
 |.ev _::_,_,[]=>rfl
 |.ev _::_,_,none::_=>rfl
def wB{as:List Arg}{E:En}{k:Kd}{v:PyData}:tX as E k v=Ow as E k v:=by unfold tX Ow;rw[cF,uo]
theorem wA{i:Nat}:∀{l:A03},nO i l=l.contains i
 |[]=>rfl
 |j::r=>by rw[nO,Z2,wA]
theorem CG{ks:A03}{E:En}:∀{l:A03},qv l ks E=(decide l.Nodup&&l.all λi=>!ks.contains i&&jC E i)
 |[]=>rfl
 |i::r=>by
  rw[qv,CG,wA,wA,VP];have:decide (i::r).Nodup=(!r.contains i&&decide r.Nodup):=by rw[Wi];simp[XI]
  rw[this];cases ks.contains i<;>cases r.contains i<;>cases jC E i<;>cases decide r.Nodup<;>rfl
def Kq{ms:A00}{as:List Arg}{E:En}:uM ms as E=A0 ms as E:=by unfold uM A0;rw[CG,Bool.and_assoc];rfl
theorem xG:∀{ms:A00}{as:List Arg}{us:Zw}{E:En},kL ms as us E=t9 ms as us E
 |[],[],[],E=>rfl
 |[],[],_::_,E=>rfl
 |[],_::_,_,E=>rfl
 |false::ms,_::r,us,E=>by rw[kL,t9,xG]
 |false::ms,[],us,E=>rfl
 |true::ms,[],us,E=>rfl
 |true::ms,.ev _::_,us,E=>rfl
 |true::ms,.pk i::r,[],E=>rfl
 |true::ms,.pk i::r,u::us,E=>by rw[kL,t9];split;{rw[cF,xG]};rfl
def KD{ms:A00}{as:List Arg}{us:Zw}{E:En}{k:Kd}{v:PyData}:uY ms as us E k v=Rk ms as us E k v:=by unfold uY Rk;rw[cF,uo]
def DV{v:PyData}{Q:Bool->Prop}:(∃b,lZ v=some b/\Q b)=vP v Q:=bw
def LZ{v:PyData}{Q:Bool->Prop}:(∃b,v=.bool b/\Q b)=DG v Q:=by
 cases v with
 |bool b=>exact propext ⟨λ⟨c,e,q⟩=>by cases e;exact q,λh=>⟨b,rfl,h⟩⟩
 |_=>exact propext ⟨λ⟨c,e,_⟩=>(by cases e),λh=>h.elim⟩
def L3{v:PyData}{Q:Int->Prop}:(∃b,v=.int b/\Q b)=tF v Q:=by
 cases v with
 |int b=>exact propext ⟨λ⟨c,e,q⟩=>by cases e;exact q,λh=>⟨b,rfl,h⟩⟩
 |_=>exact propext ⟨λ⟨c,e,_⟩=>(by cases e),λh=>h.elim⟩
def S0{v:PyData}{Q:Zw->Prop}:(∃b,v=.list b/\Q b)=xY v Q:=by
 cases v with
 |list b=>exact propext ⟨λ⟨c,e,q⟩=>by cases e;exact q,λh=>⟨b,rfl,h⟩⟩
 |_=>exact propext ⟨λ⟨c,e,_⟩=>(by cases e),λh=>h.elim⟩
def jV{E:En}{i:Nat}:gA E i=bN E i:=by unfold bN gA bH;generalize E[i]?=z;rcases z with _|_|⟨k,d⟩<;>rfl
theorem HS:∀{is:A03}{ds:Zw}{E:En},stK is ds E=b9 is ds E
 |[],[],E=>rfl
 |[],_::_,E=>rfl
 |_::_,[],E=>rfl
 |i::is,d::ds,E=>by rw[stK,b9,cF,HS,jV]
def zh{n:Nat}{i:Int}:Bl n i=lO n i:=by
 cases i with
 |ofNat k=>unfold Bl lO;show dS (Nat.blt k n) (some k) none=_;rw[if_pos (show(0:Int)<=Int.ofNat k from Int.natCast_nonneg k),cF];have:(Nat.blt k n=true)=((Int.ofNat k)<(n:Int)):=propext ⟨λh=>Xi.mpr (Nat.blt_eq.mp h),λh=>Nat.blt_eq.mpr (Xi.mp h)⟩;simp only[this];rfl
 |negSucc k=>rfl
def MU{d:DE}:bS d=PY d:=by funext x E Q;unfold bS PY;simp only[DV]
def Mi{a b:DE}:wX a b=Qx a b:=by funext x E Q;unfold wX Qx;simp only[LZ,cF]
def OS{a b:DE}:qc a b=To a b:=by funext x E Q;unfold qc To;simp only[LZ,cF]
def Dk{a:DE}:mK a=Pn a:=by funext x E Q;unfold mK Pn;simp only[DV]
def Il{f f':Zq}{a b c:DE}:pC f f' a b c=Hx f f' a b c:=by funext x E Q;unfold pC Hx;simp only[L3,cF]
def QV{c:DT}{a b:DE}:zK c a b=TU c a b:=by funext x E Q;unfold zK TU;simp only[cF]
def MO{c:DT}{a b:DS}:cO c a b=Rn c a b:=by funext D E;unfold cO Rn;simp only[cF]
def xo{i:Nat}{e:DE}:aK i e=Qk i e:=by funext D E;unfold aK Qk;simp only[dh,jV]
def Tc{e:DE}:iE e=oE e:=by funext x E Q;unfold iE oE;simp only[dh,bw];rfl
def OI{e:DE}:yD e=Tj e:=by funext x E Q;unfold yD Tj;simp only[dh,S0]
end Dv
namespace L2
open PySem PySem.Spec PyProof.Rows
abbrev Key:=Sum Int Str
def rW:Key->Value->Bool
 |.inl k,v=>Value.isInt k v
 |.inr x,v=>Value.isStrOf x v
def Ui(w:World):Key->Int
 |.inl k=>hashInt k
 |.inr x=>hashStr w x
def dg:∀{k:Key}{v:Value},rW k v=true->(∃i t,k=Sum.inl i/\v=Value.int i t)\/(∃x t,k=Sum.inr x/\v=Value.str x t)
 |.inl i,v,h=>by obtain⟨t,e⟩:=Value.isInt_shape (k:=i) (v:=v) h;exact .inl ⟨i,t,rfl,e⟩
 |.inr x,v,h=>by obtain⟨t,e⟩:=Value.isStrOf_shape (x:=x) (v:=v) h;exact .inr ⟨x,t,rfl,e⟩
def Gj(i:Int)(t:Tok):rW (.inl i) (.int i t)=true:=by simp[rW,Value.isInt]
def Hv(x:Str)(t:Tok):rW (.inr x) (.str x t)=true:=by simp[rW,Value.isStrOf]
def Pr(a b:Int):decide ((Sum.inl a:Key)=Sum.inl b)=(a==b):=by by_cases e:a=b;{subst e;simp};have h:¬(Sum.inl a:Key)=Sum.inl b:=λq=>e (Sum.inl.inj q);rw[W4 h];exact(beq_eq_false_iff_ne.mpr e).symm
def PN(a b:Str):decide ((Sum.inr a:Key)=Sum.inr b)=decide (a=b):=by by_cases e:a=b;{subst e;simp};have h:¬(Sum.inr a:Key)=Sum.inr b:=λq=>e (Sum.inr.inj q);rw[W4 h,W4 e]
def Q2(a:Int) (b:Str):decide ((Sum.inl a:Key)=Sum.inr b)=false:=W4 (λq=>nomatch q)
def OY(a:Str) (b:Int):decide ((Sum.inr a:Key)=Sum.inl b)=false:=W4 (λq=>nomatch q)
def cU(prog:Program)(w:World):PySem.KeyKind prog w Key where
 is:=rW
 hash:=Ui w
 inj:=λv a b ha hb=>by
  rcases dg ha with⟨i,t,rfl,rfl⟩|⟨x,t,rfl,rfl⟩
  .rcases dg hb with⟨j,u,rfl,e⟩|⟨y,u,rfl,e⟩
   .injection e with e1 _;rw[e1]
   .exact nomatch e
  .rcases dg hb with⟨j,u,rfl,e⟩|⟨y,u,rfl,e⟩
   .exact nomatch e
   .injection e with e1 _;rw[e1]
 byValue:=λk v h=>by
  rcases dg h with⟨i,t,rfl,rfl⟩|⟨x,t,rfl,rfl⟩<;>rfl
 pyHash:=λhv h=>by
  rcases dg hv with⟨i,t,rfl,rfl⟩|⟨x,t,rfl,rfl⟩
  .exact wpAny_pyHash_int h
  .exact wpAny_pyHash_str h
 eqBool:=λhu hv h=>by
  rcases dg hu with⟨i,t,rfl,rfl⟩|⟨x,t,rfl,rfl⟩
  .rcases dg hv with⟨j,u,rfl,rfl⟩|⟨y,u,rfl,rfl⟩
   .rw[Pr]at h;exact wpAny_eqBool_int h
   .rw[Q2]at h;exact SeqAt.EqAt.int_str i t y u _ _ _ _ h
  .rcases dg hv with⟨j,u,rfl,rfl⟩|⟨y,u,rfl,rfl⟩
   .rw[OY]at h;exact SeqAt.EqAt.str_int x t j u _ _ _ _ h
   .rw[PN]at h;exact wpAny_eqBool_str h
 «strs»:=λk x t v h=>by
  rcases dg h with⟨i,u,rfl,e⟩|⟨y,u,rfl,e⟩
  .exact nomatch e
  .injection e with e1 _
   subst e1;cases v<;>rfl
def B5(prog:Program)(w:World) (i:Int)(t:Tok):(cU prog w).is (.inl i) (.int i t)=true:=Gj i t
def BU(prog:Program)(w:World) (x:Str)(t:Tok):(cU prog w).is (.inr x) (.str x t)=true:=Hv x t
set_option genInjectivity true in
inductive V where
 |bU|bl (b:Bool)|int (i:Int)|str (x:Str)|oH (b:Array UInt8)|Cy (b:UInt64)|ref (a:Addr)|ty (n:String)
 deriving DecidableEq
def RelV:V->Value->Prop
 |.bU,u=>u=Value.none
 |.bl b,u=>u=Value.bool b
 |.int i,u=>∃t,u=Value.int i t
 |.str x,u=>∃t,u=Value.str x t
 |.oH b,u=>∃t,u=Value.bytes b t
 |.Cy b,u=>∃t,u=Value.float b t
 |.ref a,u=>u=Value.ref a
 |.ty n,u=>u=Value.type n
abbrev Vals:List V->Zy->Prop:=Paired RelV
theorem Vals.length{xs:List V}{us:Zy}(r:Vals xs us):xs.length=us.length:=Paired.length r
theorem Vals.get:∀{xs:List V}{us:Zy}{i:Nat}{x:V},Vals xs us->xs[i]?=some x->∃u,us[i]?=some u/\RelV x u
 |_,_,_,_,.nil,e=>by simp at e
 |_,_,0,_,.cons r _,e=>by simp at e;subst e;exact⟨_,rfl,r⟩
 |_,_,i+1,x,.cons _ t,e=>by obtain⟨u,h1,h2⟩:=Vals.get (i:=i) (x:=x) t (by simpa using e);exact⟨u,by simpa using h1,h2⟩
theorem Vals.set{x:V}{u:Value}(r:RelV x u):∀{xs:List V}{us:Zy} (i:Nat),Vals xs us->Vals (xs.set i x) (us.set i u)
 |_,_,_,.nil=>.nil
 |_,_,0,.cons _ t=>.cons r t
 |_,_,i+1,.cons q t=>.cons q (Vals.set r i t)
theorem Vals.append:∀{xs ys:List V}{us ws:Zy},Vals xs us->Vals ys ws->Vals (xs++ys) (us++ws)
 |_,_,_,_,.nil,s=>s
 |_,_,_,_,.cons r t,s=>.cons r (Vals.append t s)
theorem Vals.take:∀{xs:List V}{us:Zy} (n:Nat),Vals xs us->Vals (xs.take n) (us.take n)
 |_,_,0,_=>.nil
 |_,_,_+1,.nil=>.nil
 |_,_,n+1,.cons r t=>.cons r (Vals.take n t)
theorem Vals.drop:∀{xs:List V}{us:Zy} (n:Nat),Vals xs us->Vals (xs.drop n) (us.drop n)
 |_,_,0,r=>r
 |_,_,_+1,.nil=>.nil
 |_,_,n+1,.cons _ t=>Vals.drop n t
def kM:Option V->Zu->Prop
 |some v,some u=>RelV v u
 |none,none=>True
 |_,_=>False
def KV{κ:Type}:List (κ×V)->List (κ×Value)->Prop:=Paired λ(p:κ×V)(q:κ×Value)=>p.1=q.1/\RelV p.2 q.2
def kV:Key->V
 |.inl i=>.int i
 |.inr x=>.str x
inductive HO where
 |lst (xs:List V)
 |tup (xs:List V)
 |dK (kvs:List (Key×V))|dT (kvs:List (List Key×V))
 |set (S:Int->Bool) (n:Nat)
 |ins (C dx:Addr)(fs:List (Str×V))
 |own (x:Addr)
 |xd (fs:List (Str×V))
 |met (f x:Addr)
 |sX (lo hi:Int)
 |gj (o:Obj)(u:HO)
 |x8 (ps:Zv)
 |ext (φ:Heap->Prop)
abbrev Hp:=Addr->Option HO
def upd(H:Hp)(a:Addr)(o:HO):Hp:=λb=>if b=a then some o else H b
def aQ{H:Hp}{a:Addr}{o:HO}:upd H a o a=some o:=by unfold upd;rw[if_pos rfl]
def aA{H:Hp}{a b:Addr}{o:HO}(h:b≠a):upd H a o b=H b:=by unfold upd;rw[if_neg h]
def R7{H:Hp}{a b:Addr}{o u:HO}(h:H a=some o)(h':H b=some u)(d:o≠u):a≠b:=by intro e;subst e;rw[h]at h';exact d (Option.some.inj h')
def g9{H:Hp}{a b:Addr}{o:HO}(h:H a=some o)(h':H b=none):a≠b:=by intro e;subst e;rw[h]at h';cases h'
section
variable(P:Program)(w:World)
def b6(H:Hp)(h:Heap)(a:Addr):HO->Prop
 |.lst xs=>xs.length<=sizeLine/\∃(its:Zy) (n:Nat),Vals xs its/\h.get? a=some { cls:=.type "list",data:=.seq its.toArray n }
 |.tup xs=>xs.length<=sizeLine/\∃its:Zy,Vals xs its/\IsTup h a its.toArray
 |.dK kvs=>kvs.length<=sizeLine/\(a==sysModules)=false/\∃vs,KV kvs vs/\h.DictOf (cU P w) a vs
 |.dT kvs=>kvs.length<=sizeLine/\(a==sysModules)=false/\∃xs:List (List Key×Addr×Value),
   Paired (λ(p:List Key×V)(q:List Key×Addr×Value)=>p.1=q.1/\H q.2.1=some (.tup (p.1.map kV))/\RelV p.2 q.2.2) kvs xs /\
   ∃o es ep,h.get? a=some o/\o.ExactDict/\o.data=.dict es ep/\es.toList=xs.map (entryOfKey (tupleKind (cU P w)))/\(xs.map (·.1)).Nodup
 |.set S n=>h.SetOf (intKind P w) a S n
 |.ins C dx fs=>H dx=some (.own a)/\fs.length<=1000/\dx≠a/\h.get? a=some (PySem.W.instObj C dx) /\
   ∃mA,h.Ns1 dx mA/\(∀f,kM (fs.lookup f) (mA f))/\PySem.Within mA (fs.map (·.1))
 |.own _=>∃o,h.get? a=some o
 |.xd fs=>∃mA,h.Ns1 a mA/\∀f,kM (fs.lookup f) (mA f)
 |.sX lo hi=>∃t u v,h.get? a=some { cls:=.type "range",data:=.fields #[.int lo t,.int hi u,.int 1 v] }
 |.gj o u=>h.get? a=some o/\b6 H h a u
 |.x8 ps=>h.get? a=some { cls:=.none,data:=.fields ps }
 |.met f x=>h.get? a=some (PySem.W.methodObj (.ref f) (.ref x))
 |.ext φ=>φ h/\(∃o,h.get? a=some o)/\∀h1 h2:Heap,φ h1->(∀o,h1.get? a=some o->h2.get? a=some o)->φ h2
def dR(H:Hp)(h:Heap):Prop:=∀a o,H a=some o->b6 P w H h a o
end
section
variable{P:Program}{w:World}{H H':Hp}{h h':Heap}{a:Addr}{o:HO}
theorem b6.lt(x:b6 P w H h a o):a<h.objs.size:=by
 cases o with
 |lst xs=>obtain⟨_,_,_,_,e⟩:=x;exact VA e
 |tup xs=>obtain⟨_,_,_,p⟩:=x;exact p.lt
 |dK kvs=>obtain⟨_,_,_,_,o,_,_,e,_⟩:=x;exact VA e
 |dT kvs=>obtain⟨_,_,_,_,o,_,_,e,_⟩:=x;exact VA e
 |set S n=>obtain⟨o,_,_,_,e,_⟩:=x;exact VA e
 |ins C dx fs=>obtain⟨_,_,_,e,_⟩:=x;exact VA e
 |own y=>obtain⟨_,e⟩:=x;exact VA e
 |xd fs=>obtain⟨_,⟨_,_,_,e,_⟩,_⟩:=x;exact VA e
 |sX lo hi=>obtain⟨_,_,_,e⟩:=x;exact VA e
 |gj ob u=>obtain⟨e,_⟩:=x;exact VA e
 |x8 ps=>exact VA (show h.get? a=some _ from x)
 |met f y=>exact VA (show h.get? a=some _ from x)
 |ext φ=>obtain⟨_,⟨_,e⟩,_⟩:=x;exact VA e
theorem Paired.Ji{α β:Type}{F G:α->β->Prop}:∀{l₁:List α}{l₂:List β},Paired F l₁ l₂->(∀a b,F a b->G a b)->Paired G l₁ l₂
 |_,_,.nil,_=>.nil
 |_,_,.cons r t,f=>.cons (f _ _ r) (Paired.Ji t f)
def b6.stay(x:b6 P w H h a o)(k:∀b u,(b=a\/H b=some (.own a))->h.get? b=some u->h'.get? b=some u)(ho:∀b,H b=some (.own a)->H' b=some (.own a))(ht:∀b xs,H b=some (.tup xs)->H' b=some (.tup xs)):b6 P w H' h' a o:=by
 induction o with
 |lst xs=>obtain⟨z,its,n,r,e⟩:=x;exact⟨z,its,n,r,k _ _ (.inl rfl) e⟩
 |tup xs=>obtain⟨z,its,r,ob,e,c⟩:=x;exact⟨z,its,r,ob,k _ _ (.inl rfl) e,c⟩
 |dK kvs=>obtain⟨z,y,vs,r,ob,es,ep,e,c⟩:=x;exact⟨z,y,vs,r,ob,es,ep,k _ _ (.inl rfl) e,c⟩
 |dT kvs=>obtain⟨z,y,xs,r,ob,es,ep,e,c⟩:=x;exact⟨z,y,xs,Paired.Ji r λp q z=>⟨z.1,ht _ _ z.2.1,z.2.2⟩,ob,es,ep,k _ _ (.inl rfl) e,c⟩
 |set S n=>obtain⟨ob,es,ep,t,e,c⟩:=x;exact⟨ob,es,ep,t,k _ _ (.inl rfl) e,c⟩
 |ins C dx fs=>obtain⟨d,z,ne,e,mA,⟨od,es,ep,e2,c⟩,r⟩:=x;exact⟨ho _ d,z,ne,k _ _ (.inl rfl) e,mA,⟨od,es,ep,k _ _ (.inr d) e2,c⟩,r⟩
 |own y=>obtain⟨ob,e⟩:=x;exact⟨ob,k _ _ (.inl rfl) e⟩
 |xd fs=>obtain⟨mA,⟨od,es,ep,e,c⟩,r⟩:=x;exact⟨mA,⟨od,es,ep,k _ _ (.inl rfl) e,c⟩,r⟩
 |sX lo hi=>obtain⟨t,u,v,e⟩:=x;exact⟨t,u,v,k _ _ (.inl rfl) e⟩
 |gj ob u ih=>obtain⟨e,q⟩:=x;exact⟨k _ _ (.inl rfl) e,ih q⟩
 |x8 ps=>have e:h.get? a=some { cls:=.none,data:=.fields ps }:=x;show h'.get? a=some { cls:=.none,data:=.fields ps };exact k a _ (.inl rfl) e
 |met f y=>have e:h.get? a=some (PySem.W.methodObj (.ref f) (.ref y)):=x;show h'.get? a=some (PySem.W.methodObj (.ref f) (.ref y));exact k a _ (.inl rfl) e
 |ext φ=>obtain⟨p,⟨o,e⟩,st⟩:=x;exact⟨st _ _ p λo q=>k _ _ (.inl rfl) q,⟨o,k _ _ (.inl rfl) e⟩,st⟩
theorem dR.lt(x:dR P w H h)(e:H a=some o):a<h.objs.size:=(x a o e).lt
def dR.fresh(x:dR P w H h)(e:h.objs.size<=a):H a=none:=by
 cases q:H a with
 |none=>rfl
 |some u=>exact absurd (Vg (x.lt q) e) (Vx _)
def dR.kept(x:dR P w H h)(k:∀b u,h.get? b=some u->h'.get? b=some u):dR P w H h':=λa o e=>
 (x a o e).stay (λb u _ q=>k b u q) (λ_ q=>q) λ_ _ q=>q
def dR.laid(x:dR P w H h)(k:∀b u,h.get? b=some u->h'.get? b=some u)(hp:h.objs.size<=a)(new:b6 P w (upd H a o) h' a o):dR P w (upd H a o) h':=λb u e=>by have hn:=x.fresh hp;by_cases hb:b=a;{subst hb;rw[aQ]at e;cases e;exact new};rw[aA hb]at e;exact(x b u e).stay (λc v _ q=>k c v q) (λc q=>by rw[aA (g9 q hn)];exact q) λc xs q=>by rw[aA (g9 q hn)];exact q
end
def Rd(H:Hp)(a:Addr)(u:HO):Prop:=H a=some u\/∃o,H a=some (.gj o u)
def Rd.ok{P:Program}{w:World}{H:Hp}{h:Heap}{a:Addr}{u:HO}(r:Rd H a u)(x:dR P w H h):b6 P w H h a u:=by rcases r with r|⟨o,r⟩;{exact x a u r};obtain⟨_,q⟩:=x a _ r;exact q
def IM:Option HO->Prop
 |some (.lst _)=>True
 |some (.dK _)=>True
 |some (.dT _)=>True
 |some (.set _ _)=>True
 |some (.ins _ _ _)=>True
 |some (.ext _)=>True
 |_=>False
section
variable{P:Program}{w:World}{H:Hp}{h h':Heap}{x e:Addr}{o':HO}
def dR.write(ok:dR P w H h)(mu:IM (H x))(he:e=x\/H e=some (.own x))(k:∀b u,b≠e->h.get? b=some u->h'.get? b=some u)(heo:∃u,h'.get? e=some u)(new:b6 P w (upd H x o') h' x o'):dR P w (upd H x o') h':=λb u q=>by
 have nown:∀c y,H c=some (.own y)->c≠x:=λc y r z=>by subst z;rw[r]at mu;exact mu
 have ntup:∀c xs,H c=some (.tup xs)->c≠x:=λc xs r z=>by subst z;rw[r]at mu;exact mu
 by_cases hb:b=x;{subst hb;rw[aQ]at q;cases q;exact new};rw[aA hb]at q;by_cases hbe:b=e
 .have q':H b=some (.own x):=by rcases he with z|z;{exact absurd (hbe.trans z) hb};rw[hbe];exact z
  rw[q]at q';cases q';obtain⟨v,hv⟩:=heo;exact⟨v,by rw[hbe];exact hv⟩
 refine(ok b u q).stay (λc v hc r=>k c v ?_ r) (λc r=>by rw[aA (nown c b r)];exact r) λc xs r=>by rw[aA (ntup c xs r)];exact r
 rcases hc with rfl|hc;{exact hbe};rintro rfl;rcases he with z|z;{exact nown c b hc z};rw[hc]at z;cases z;exact hb rfl
end
structure Un(fs ex:Zz)(H H':Hp)(h h':Heap):Prop where
 keep:∀b o,h.get? b=some o->H b=none->b∉fs->b∉ex->h'.get? b=some o
 slot:∀b o,h.get? b=some o->H b=none->b∈fs->b∉ex->∃sl,h'.get? b=some { o with slots:=sl }
 free:∀b o,h.get? b=some o->H b=none->b∉ex->H' b=none
 there:∀b o,h.get? b=some o->b∉ex->∃o',h'.get? b=some o'
 tups:∀b xs,H b=some (.tup xs)->H' b=some (.tup xs)
 jH:∀b o u,H b=some (.gj o u)->H' b=some (.gj o u)
 kN:∀b ps,H b=some (.x8 ps)->∃more,H' b=some (.x8 (ps++more))
section
variable{fs fs' ex ex':Zz}{H H1 H2:Hp}{h h1 h2 h':Heap}{a x e:Addr}{o:HO}
def Un.any(u:Un fs ex H H1 h h1){b:Addr}{ob:Obj}(q:h.get? b=some ob)(n:H b=none)(hx:b∉ex):∃sl,h1.get? b=some { ob with slots:=sl }:=by by_cases hb:b∈fs;{exact u.slot b ob q n hb hx};exact⟨ob.slots,u.keep b ob q n hb hx⟩
def Un.kept(k:∀b u,h.get? b=some u->h'.get? b=some u):Un fs ex H H h h':=
 ⟨λb ob q _ _ _=>k b ob q,λb ob q _ _ _=>⟨ob.slots,k b ob q⟩,λ_ _ _ n _=>n,λb ob q _=>⟨ob,k b ob q⟩,λ_ _ q=>q,λ_ _ _ q=>q,λ_ ps q=>⟨#[],by rw[q];simp⟩⟩
def Un.refl:Un fs ex H H h h:=Un.kept λ_ _ q=>q
def Un.laid(k:∀b u,h.get? b=some u->h'.get? b=some u)(hp:h.objs.size<=a)(hn:H a=none):Un fs ex H (upd H a o) h h' where
 keep:=λb u q _ _ _=>k b u q
 slot:=λb u q _ _ _=>⟨u.slots,k b u q⟩
 free:=λb u q n _=>by rw[aA (VC (Vg (VA q) hp))];exact n
 there:=λb u q _=>⟨u,k b u q⟩
 tups:=λb xs q=>by rw[aA (g9 q hn)];exact q
 jH:=λb u xs q=>by rw[aA (g9 q hn)];exact q
 kN:=λb ps q=>⟨#[],by rw[aA (g9 q hn),q];simp⟩
def Un.write(mu:IM (H x))(he:e=x\/H e=some (.own x))(k:∀b u,b≠e->h.get? b=some u->h'.get? b=some u)(heo:∃u,h'.get? e=some u):Un fs ex H (upd H x o) h h':=by
 have hx:∀b,H b=none->b≠x:=λb n z=>by subst z;rw[n]at mu;exact mu
 have hb:∀b,H b=none->b≠e:=λb n z=>by subst z;rcases he with r|r;{exact hx b n r};rw[n]at r;cases r
 have hm:∀b u,H b=some u->¬IM (some u)->b≠x:=λb u q nm z=>by subst z;rw[q]at mu;exact nm mu
 refine⟨λb u q n _ _=>k b u (hb b n) q,λb u q n _ _=>⟨u.slots,k b u (hb b n) q⟩,λb u q n _=>by rw[aA (hx b n)];exact n,λb u q _=>?_,
  λb xs q=>by rw[aA (hm b _ q λz=>z)];exact q,λb u xs q=>by rw[aA (hm b _ q λz=>z)];exact q,λb ps q=>⟨#[],by rw[aA (hm b _ q λz=>z),q];simp⟩⟩
 by_cases hbe:b=e;{subst hbe;exact heo};exact⟨u,k b u hbe q⟩
end
def LO(h:Heap)(H:Hp):Zz:=(List.range h.objs.size).filter λa=>(H a).isSome
def pR(h:Heap)(H:Hp):Heap:=PySem.W.hideAll h (LO h H)
def HX(h:Heap)(H:Hp):(pR h H).objs.size=h.objs.size:=PySem.W.hideAll_size _ _
def Kl{h:Heap}{H:Hp}{b:Addr}{o:Obj}(e:h.get? b=some o)(n:H b=none):(pR h H).get? b=some o:=
 PySem.W.hideAll_get _ e λhm=>by have q:(H b).isSome=true:=(VJ.mp hm).2;rw[n]at q;simp at q
def NP{h:Heap}{H:Hp}{b:Addr}{o:Obj}(e:(pR h H).get? b=some o):h.get? b=some o/\H b=none:=by
 have e':h.get? b=some o:=PySem.W.of_hideAll (LO h H) e;refine⟨e',?_⟩;cases q:H b with
 |none=>rfl
 |some x=>have hm:b∈LO h H:=VJ.mpr ⟨VL.mpr (VA e'),by simp[q]⟩;have z:(pR h H).get? b=none:=PySem.W.hideAll_none (LO h H) hm;rw[z]at e;cases e
structure Mod(K:Zt)(mg:Zm)(base:Heap):Prop where
 AO:K.In base
 glob:base.Ns mainGlobals mg
 blt:∃mb,base.Ns builtinsNs mb/\∀x:Str,x≠"__name__"->mb x=bootBuiltins x
 nolimit:base.NoLimit
structure Cx where
 prog:Program
 w:World
 K:Zt
 mg:Zm
 base:Heap
 A:Around
 N:A05
 s₀:Shared
 H₀:Hp
 env:Env
 outer:List Env
 stack:List Env
 ex:Zz
 fn:Str->Bool
 calm:Bool
 pn:Zn
 xe:Zk
def frs(l:List Env):Zz:=l.filterMap (·.frame)
abbrev Cx.fs(X:Cx):Zz:=frs X.outer
def qb(sc:Scope) (x:Str):Prop:=sc.names.lookup x=some .local\/sc.names.lookup x=some .cell\/sc.names.lookup x=some .free
def Loc(sc:Scope) (x:Str):Prop:=sc.names.lookup x=some .local\/sc.names.lookup x=some .cell
def Look(env:Env)(h:Heap)(m:Zm) (x:Str)(u:Value):Prop:=
 (env.kindOf x=some .local/\m x=some u)\/((env.kindOf x=some .cell\/env.kindOf x=some .free)/\∃c,env.cells.lookup x=some c/\h.IsCell c (some u))
structure Cx.Ok(X:Cx):Prop where
 mod:Mod X.K X.mg X.base
 kind:X.env.scope.kind=.function
 glob:X.env.globals=mainGlobals
 blt:X.env.builtins=builtinsNs
 above:X.s₀.heap.objs.size<=X.env.locals
 inj:∀x y c,X.env.cells.lookup x=some c->X.env.cells.lookup y=some c->x=y
 has:∀x,(X.env.kindOf x=some .cell\/X.env.kindOf x=some .free)->∃c,X.env.cells.lookup x=some c
 zR:∀x c,X.fn x=true->X.env.cells.lookup x=some c->X.s₀.heap.objs.size<=c
 hd:X.calm=true->X.A.handled=none
 frames:X.A.frames=some X.stack
 stk:X.stack=X.outer\/(X.stack=X.env::X.outer/\X.env.frame=some X.env.locals)
 Ly:∀b∈X.ex,b≠X.env.locals/\∀x c,X.env.cells.lookup x=some c->c≠b
 bs:∀b o,X.base.get? b=some o->X.s₀.heap.get? b=some o/\X.H₀ b=none
 uQ:X.base.objs.size<=X.s₀.heap.objs.size
 tO:∀b o,X.base.get? b=some o->b∉X.ex
 wG:∀b∈X.ex,b∉X.fs
 jJ:X.s₀.heap.FunFrames X.base X.outer
 yg:∀b∈X.fs,X.H₀ b=none
structure Inv(X:Cx)(pins:Zn)(U:List (Option V))(H:Hp)(s:Shared):Prop where
 ok:X.Ok
 os:s.os=X.s₀.os
 bare:AllBare s.gens
 base:Un X.fs X.ex X.H₀ H X.s₀.heap s.heap
 loc:∃m,s.heap.Ns X.env.locals m/\∀(i:Nat) (x:Str) (v:V),X.N[i]?=some x->U[i]?=some (some v)->qb X.env.scope x->∃u,RelV v u/\Look X.env s.heap m x u
 cell:∀x c,X.env.cells.lookup x=some c->∃v,s.heap.IsCell c v
 free:H X.env.locals=none
 fh:∀x c,X.env.cells.lookup x=some c->H c=none
 pin:∀p∈X.pn++pins,s.heap.get? p.1=some p.2/\H p.1=none/\p.1≠X.env.locals/\p.1∉X.fs/\∀v,p.2.data≠.cell v
 hok:dR X.prog X.w H s.heap
 len:U.length=X.N.length
section
variable{X:Cx}{pins:Zn}{U:List (Option V)}{H H':Hp}{s:Shared}{h':Heap}
def Cx.Ok.Uj(ok:X.Ok){b:Addr}{o:Obj}(e:X.base.get? b=some o):b∉X.fs:=λhb=>by have:=(ok.jJ.mem hb).1;rw[e]at this;cases this
theorem Inv.bs(I:Inv X pins U H s):∀b o,X.base.get? b=some o->s.heap.get? b=some o/\H b=none:=λb o e=>
 ⟨I.base.keep b o (I.ok.bs b o e).1 (I.ok.bs b o e).2 (I.ok.Uj e) (I.ok.tO b o e),I.base.free b o (I.ok.bs b o e).1 (I.ok.bs b o e).2 (I.ok.tO b o e)⟩
def Inv.bk(I:Inv X pins U H s):∀b o,X.base.get? b=some o->s.heap.get? b=some o:=λb o e=>(I.bs b o e).1
theorem Inv.mod(I:Inv X pins U H s):Mod X.K X.mg X.base:=I.ok.mod
def Inv.f9(I:Inv X pins U H s):X.K.In s.heap:=I.ok.mod.AO.keeps I.bk
theorem Inv.lt(I:Inv X pins U H s):X.env.locals<s.heap.objs.size:=let⟨_,hn,_⟩:=I.loc;hn.lt
def Inv.sz(I:Inv X pins U H s):X.s₀.heap.objs.size<=s.heap.objs.size:=VS I.ok.above (WX I.lt)
def Inv.Rt(I:Inv X pins U H s){a:Addr}(h:s.heap.objs.size<=a):a∉X.fs:=λhb=>by obtain⟨_,o,ho,_⟩:=I.ok.jJ.mem hb;exact absurd (Vg (VA ho) (VS I.sz h)) (Vx _)
def Inv.uI(I:Inv X pins U H s):∀x c,X.env.cells.lookup x=some c->c≠X.env.locals:=λx c e z=>by obtain⟨v,o,ho,hd⟩:=I.cell x c e;obtain⟨m,⟨o',es,ep,ho',hd',_⟩,_⟩:=I.loc;rw[z,ho']at ho;cases ho;rw[hd']at hd;cases hd
theorem Inv.jJ(I:Inv X pins U H s):s.heap.FunFrames X.base X.outer:=by
 have all:∀(l:List Env),(∀b∈frs l,b∈X.fs)->X.s₀.heap.FunFrames X.base l->s.heap.FunFrames X.base l:=by
  intro l;induction l with
  |nil=>intro _ _;trivial
  |cons env r ih=>intro hs hl;obtain⟨hk,⟨L,o,hf,hn,ho,hd⟩,hr⟩:=hl;have hL:L∈X.fs:=hs L (by unfold frs;rw[Vy,hf];exact V1);obtain⟨sl,e⟩:=I.base.slot L o ho (I.ok.yg L hL) hL λz=>I.ok.wG L z hL;exact⟨hk,⟨L,_,hf,hn,e,hd⟩,ih (λb hb=>hs b (by unfold frs;rw[Vy,hf];exact V5 _ hb)) hr⟩
 exact all X.outer (λ_ hb=>hb) I.ok.jJ
theorem Inv.stack(I:Inv X pins U H s):s.heap.FunFrames X.base X.stack:=by rcases I.ok.stk with e|⟨e,hf⟩;{rw[e];exact I.jJ};rw[e];obtain⟨m,hn,_⟩:=I.loc;refine .cons (by rw[I.ok.kind];decide) hf hn ?_ I.jJ;exact Y4 (VS I.ok.uQ I.ok.above)
def Inv.oi(I:Inv X pins U H s):∀b∈frs X.stack,b∈X.env.locals::X.fs:=λb hb=>by rcases I.ok.stk with e|⟨e,hf⟩;{rw[e]at hb;exact V5 _ hb};rw[e]at hb;unfold frs at hb;rw[Vy,hf]at hb;exact hb
def Inv.rS(I:Inv X pins U H s):∀b∈frs X.stack,H b=none:=λb hb=>by rcases V7.mp (I.oi b hb)with e|hb;{rw[e];exact I.free};obtain⟨_,o,ho,_⟩:=I.ok.jJ.mem hb;exact I.base.free b o ho (I.ok.yg b hb) λz=>I.ok.wG b z hb
def Inv.step{g':Array GenState}{t':Nat}{d':Drawn}{ch:Zz}(I:Inv X pins U H s)(hch:∀b∈ch,(b∈X.ex\/X.s₀.heap.objs.size<=b)/\b≠X.env.locals/\(∀x c,X.env.cells.lookup x=some c->c≠b)/\∀p∈X.pn++pins,p.1≠b)(keep:∀b o,b≠X.env.locals->b∉X.fs->b∉ch->s.heap.get? b=some o->H b=none->h'.get? b=some o)(slot:∀b o,b≠X.env.locals->b∈X.fs->b∉ch->s.heap.get? b=some o->H b=none->∃sl,h'.get? b=some { o with slots:=sl })(free:∀b o,b∉ch->s.heap.get? b=some o->H b=none->H' b=none)(there:∀b o,b∉ch->s.heap.get? b=some o->∃o',h'.get? b=some o')(tups:∀b xs,H b=some (.tup xs)->H' b=some (.tup xs))(jH:∀b o u,H b=some (.gj o u)->H' b=some (.gj o u))(kN:∀b ps,H b=some (.x8 ps)->∃more,H' b=some (.x8 (ps++more)))(ns:∀m,s.heap.Ns X.env.locals m->h'.Ns X.env.locals m)(hok:dR X.prog X.w H' h')(hg:AllBare g') : Inv X pins U H' { s with heap:=h',gens:=g',drawn:=d',toks:=t' }:=by
 have neL:∀b o,X.s₀.heap.get? b=some o->b≠X.env.locals:=λb o e=>VC (Vg (VA e) I.ok.above);have neC:∀b o,X.s₀.heap.get? b=some o->b∉X.ex->b∉ch:=λb o e hx hb=>by rcases(hch b hb).1 with z|z;{exact hx z};exact absurd (Vg (VA e) z) (Vx _)
 have cellK:∀x c,X.env.cells.lookup x=some c->∀v,s.heap.IsCell c v->h'.IsCell c v:=λx c e v ⟨o,ho,hd⟩=>by have nch:c∉ch:=λz=>(hch c z).2.2.1 x c e rfl;by_cases hc:c∈X.fs;{obtain⟨sl,q⟩:=slot c o (I.uI x c e) hc nch ho (I.fh x c e);exact⟨_,q,hd⟩};exact⟨o,keep c o (I.uI x c e) hc nch ho (I.fh x c e),hd⟩
 refine⟨I.ok,I.os,hg,⟨λb o e n hb hx=>?_,λb o e n hb hx=>?_,λb o e n hx=>?_,λb o e hx=>?_,λb xs e=>tups b xs (I.base.tups b xs e),λb o xs e=>jH b o xs (I.base.jH b o xs e),λb ps e=>?_⟩,?_,λx c e=>?_,?_,λx c e=>?_,λp hp=>?_,hok,I.len⟩;{exact keep b o (neL b o e) hb (neC b o e hx) (I.base.keep b o e n hb hx) (I.base.free b o e n hx)};{obtain⟨sl,e1⟩:=I.base.slot b o e n hb hx;obtain⟨sl',e2⟩:=slot b _ (neL b o e) hb (neC b o e hx) e1 (I.base.free b o e n hx);exact⟨sl',e2⟩};{obtain⟨o',e1⟩:=I.base.there b o e hx;exact free b o' (neC b o e hx) e1 (I.base.free b o e n hx)};{obtain⟨o',e1⟩:=I.base.there b o e hx;exact there b o' (neC b o e hx) e1};{obtain⟨m1,e1⟩:=I.base.kN b ps e;obtain⟨m2,e2⟩:=kN b _ e1;exact⟨m1++m2,by rw[e2,Array.append_assoc]⟩};{obtain⟨m,hn,hl⟩:=I.loc;refine⟨m,ns m hn,λi x v e1 e2 e3=>?_⟩;obtain⟨u,r,l⟩:=hl i x v e1 e2 e3;refine⟨u,r,?_⟩;rcases l with l|⟨k,c,e,z⟩;{exact .inl l};exact .inr ⟨k,c,e,cellK x c e _ z⟩};{obtain⟨v,z⟩:=I.cell x c e;exact⟨v,cellK x c e v z⟩};{obtain⟨m,⟨o,_,_,ho,_⟩,_⟩:=I.loc;exact free _ o (λz=>(hch _ z).2.1 rfl) ho I.free};{obtain⟨v,o,ho,hd⟩:=I.cell x c e;exact free c o (λz=>(hch c z).2.2.1 x c e rfl) ho (I.fh x c e)};obtain⟨e,n,ne,nf,d⟩:=I.pin p hp;have nch:p.1∉ch:=λz=>(hch p.1 z).2.2.2 p hp rfl;exact⟨keep p.1 p.2 ne nf nch e n,free p.1 p.2 nch e n,ne,nf,d⟩
def Inv.un{t':Nat}(I:Inv X pins U H s)(u:Un X.fs [] H H' s.heap h')(hok:dR X.prog X.w H' h'):Inv X pins U H' { s with heap:=h',toks:=t' }:=by
 obtain⟨m,⟨o,es,ep,ho,r⟩,_⟩:=id I.loc;obtain⟨sl,hL⟩:=u.any ho I.free (by simp);exact I.step (g':=s.gens) (d':=s.drawn) (ch:=[]) (λ_ z=>nomatch z) (λb o _ hb _ e n=>u.keep b o e n hb (by simp)) (λb o _ hb _ e n=>u.slot b o e n hb (by simp)) (λb o _ e n=>u.free b o e n (by simp)) (λb o _ e=>u.there b o e (by simp)) u.tups u.jH u.kN (λm' hm=>by
  obtain⟨o',es',ep',ho',r'⟩:=hm;rw[ho]at ho';cases ho';exact⟨_,es',ep',hL,r'⟩) hok I.bare
def Inv.call{g':Array GenState}{t':Nat}{d':Drawn}{ch:Zz}(I:Inv X pins U H s)(u:Un (frs X.stack) ch H H' s.heap h')(hok:dR X.prog X.w H' h')(hg:AllBare g')(hch:∀b∈ch,(b∈X.ex\/X.s₀.heap.objs.size<=b)/\b≠X.env.locals/\(∀x c,X.env.cells.lookup x=some c->c≠b)/\∀p∈X.pn++pins,p.1≠b) : Inv X pins U H' { s with heap:=h',gens:=g',drawn:=d',toks:=t' }:=by
 obtain⟨m,⟨o,es,ep,ho,r⟩,_⟩:=id I.loc;obtain⟨sl,hL⟩:=u.any ho I.free λz=>(hch _ z).2.1 rfl;exact I.step (ch:=ch) hch (λb o hL hb hc e n=>u.keep b o e n (λz=>(V7.mp (I.oi b z)).elim hL hb) hc) (λb o _ _ hc e n=>u.any e n hc) (λb o hc e n=>u.free b o e n hc) (λb o hc e=>u.there b o e hc) u.tups u.jH u.kN (λm' hm=>by
  obtain⟨o',es',ep',ho',r'⟩:=hm;rw[ho]at ho';cases ho';exact⟨_,es',ep',hL,r'⟩) hok hg
def Inv.turned{t':Nat}{it:Addr}(I:Inv X pins U H s)(k:∀b o,b≠it->s.heap.get? b=some o->h'.get? b=some o)(hn:H it=none)(hL:it≠X.env.locals)(h1:it∈X.ex\/X.s₀.heap.objs.size<=it)(h2:∀x c,X.env.cells.lookup x=some c->c≠it)(h3:∀p∈X.pn++pins,p.1≠it):Inv X pins U H { s with heap:=h',toks:=t' }:=by
 have nit:∀b u,H b=some u->b≠it:=λb u e z=>by rw[z,hn]at e;cases e
 refine I.step (g':=s.gens) (d':=s.drawn) (ch:=[it]) (λb hb=>?_) (λb o _ _ hc e _=>k b o (λz=>hc (by simp[z])) e) (λb o _ _ hc e _=>⟨o.slots,k b o (λz=>hc (by simp[z])) e⟩) (λ_ _ _ _ n=>n)
  (λb o hc e=>⟨o,k b o (λz=>hc (by simp[z])) e⟩) (λ_ _ e=>e) (λ_ _ _ e=>e) (λb ps e=>⟨#[],by rw[e];simp⟩) (λm hm=>?_) (λb u e=>?_) I.bare
 .have e:b=it:=by simpa using hb
  subst e;exact⟨h1,hL,h2,h3⟩
 .obtain⟨o,es,ep,ho,r⟩:=hm;exact⟨o,es,ep,k _ o (Ne.symm hL) ho,r⟩
 refine(I.hok b u e).stay (λc v hc q=>k c v ?_ q) (λ_ q=>q) λ_ _ q=>q;rcases hc with z|z;{rw[z];exact nit b u e};exact nit c _ z
def Inv.tok(I:Inv X pins U H s) (t:Nat):Inv X pins U H { s with toks:=t }:=I.un (h':=s.heap) (t':=t) Un.refl I.hok
theorem Inv.kept{t':Nat}(I:Inv X pins U H s)(k:∀b u,s.heap.get? b=some u->h'.get? b=some u):Inv X pins U H { s with heap:=h',toks:=t' }:=I.un (Un.kept k) (I.hok.kept k)
theorem Inv.laid{a:Addr}{o:HO}{t':Nat}(I:Inv X pins U H s)(k:∀b u,s.heap.get? b=some u->h'.get? b=some u)(hp:s.heap.objs.size<=a)(new:b6 X.prog X.w (upd H a o) h' a o) : Inv X pins U (upd H a o) { s with heap:=h',toks:=t' }:=I.un (Un.laid k hp (I.hok.fresh hp)) (I.hok.laid k hp new)
theorem Inv.write{x e:Addr}{o:HO}{t':Nat}(I:Inv X pins U H s)(mu:IM (H x))(he:e=x\/H e=some (.own x))(k:∀b u,b≠e->s.heap.get? b=some u->h'.get? b=some u)(heo:∃u,h'.get? e=some u)(new:b6 X.prog X.w (upd H x o) h' x o):Inv X pins U (upd H x o) { s with heap:=h',toks:=t' }:=I.un (Un.write mu he k heo) (I.hok.write mu he k heo new)
def Inv.lC{pins':Zn}(I:Inv X pins U H s)(h:∀p∈pins',s.heap.get? p.1=some p.2/\H p.1=none/\p.1≠X.env.locals/\p.1∉X.fs/\∀v,p.2.data≠.cell v):Inv X pins' U H s:=
 ⟨I.ok,I.os,I.bare,I.base,I.loc,I.cell,I.free,I.fh,λp hp=>(V8.mp hp).elim (λz=>I.pin p (Y5 _ z)) (h p),I.hok,I.len⟩
def t7{N:A05}(hN:N.Nodup){i j:Nat}{x:Str}(a:N[i]?=some x)(b:N[j]?=some x):i=j:=by obtain⟨h1,e1⟩:=Vz.mp a;obtain⟨h2,e2⟩:=Vz.mp b;exact(List.getElem_inj hN).mp (e1.trans e2.symm)
def yc{M:Model}{A:Around}{E:Zk}{i:Nat}{x:Str}{v:V}{u:Value}{Q:Unit->Shared->Prop}(I:Inv X pins U H s)(hN:X.N.Nodup)(hi:X.N[i]?=some x)(hx:Loc X.env.scope x)(r:RelV v u)(h:∀s',Inv X pins (U.set i (some v)) H s'->(∃a,Heap.SameBut a s.heap s'.heap/\(a=X.env.locals\/X.env.cells.lookup x=some a))->Q () s')(hf:X.fn x=true\/X.env.scope.names.lookup x=some .local:=by first|exact .inl rfl|exact .inr rfl|assumption):wpAny M A (storeName X.env x u) Q E s:=by
 obtain⟨m,hn,hl⟩:=id I.loc;have hcls:(X.env.scope.kind == .class||(X.env.scope.kind == .module&&X.env.locals != X.env.globals))=false:=by rw[I.ok.kind];rfl
 have hiσ:i<U.length:=by rw[I.len];exact(Vz.mp hi).1
 have uI:=I.uI;have tracked:∀{a:Addr}{h':Heap},(∃o,s.heap.get? a=some o/\H a=none)->Heap.SameBut a s.heap h'->dR X.prog X.w H h':=λ{a h'} ha hs b ob e=>by obtain⟨_,_,hfree⟩:=ha;refine(I.hok b ob e).stay (λc w' hc q=>(hs.2 c ?_).trans q) (λ_ q=>q) λ_ _ q=>q;rintro rfl;rcases hc with rfl|hc;{rw[hfree]at e;cases e};rw[hfree]at hc;cases hc
 rcases hx with hk|hk;{refine wpAny_storeName_local hk hn (λh' hn' hs=>?_) hcls;obtain⟨oL,_,_,hoL,_⟩:=id hn;refine h _ ⟨I.ok,I.os,I.bare,⟨λb o e n hb hx=>?_,λb o e n hb hx=>?_,I.base.free,λb o e hx=>?_,I.base.tups,I.base.jH,I.base.kN⟩,⟨_,hn',λj y v' e1 e2 e3=>?_⟩,λy c e=>?_,I.free,I.fh,λp hp=>?_,tracked ⟨oL,hoL,I.free⟩ hs,by simpa using I.len⟩ ⟨_,hs,.inl rfl⟩;{exact(hs.2 b (VC (Vg (VA e) I.ok.above))).trans (I.base.keep b o e n hb hx)};{obtain⟨sl,e1⟩:=I.base.slot b o e n hb hx;exact⟨sl,(hs.2 b (VC (Vg (VA e) I.ok.above))).trans e1⟩};{obtain⟨o',e1⟩:=I.base.there b o e hx;exact⟨o',(hs.2 b (VC (Vg (VA e) I.ok.above))).trans e1⟩};{by_cases hj:j=i;{subst hj;rw[hi]at e1;cases e1;rw[Xj hiσ]at e2;cases e2;exact⟨u,r,.inl ⟨hk,by simp⟩⟩};rw[XJ (Ne.symm hj)]at e2;obtain⟨u',r',q⟩:=hl j y v' e1 e2 e3;refine⟨u',r',?_⟩;rcases q with⟨k,e⟩|⟨k,c,e,z⟩;{refine .inl ⟨k,?_⟩;have:y≠x:=λe=>hj (t7 hN e1 (e▸hi));simp[this,e]};exact .inr ⟨k,c,e,z.sameBut hs (uI y c e)⟩};{obtain⟨w',z⟩:=I.cell y c e;exact⟨w',z.sameBut hs (uI y c e)⟩};obtain⟨e,n,ne,nf,d⟩:=I.pin p hp;exact⟨(hs.2 p.1 ne).trans e,n,ne,nf,d⟩};have hfn:X.fn x=true:=by rcases hf with z|z;{exact z};rw[z]at hk;cases hk
 obtain⟨c,hc⟩:=I.ok.has x (.inl hk);obtain⟨w',z⟩:=I.cell x c hc;refine wpAny_storeName_cell I.ok.kind hk hc z (λh' hc' hs=>?_);obtain⟨oc,hoc,hocd⟩:=id z;refine h { s with heap:=h' } ⟨I.ok,I.os,I.bare,⟨λb o e n hb hx=>?_,λb o e n hb hx=>?_,I.base.free,λb o e hx=>?_,I.base.tups,I.base.jH,I.base.kN⟩,⟨m,hn.sameBut hs (Ne.symm (uI x c hc)),λj y v' e1 e2 e3=>?_⟩,λy c' e=>?_,I.free,I.fh,λp hp=>?_,tracked ⟨oc,hoc,I.fh x c hc⟩ hs,by simpa using I.len⟩ ⟨c,hs,.inr hc⟩;{exact(hs.2 b (VC (Vg (VA e) (I.ok.zR x c hfn hc)))).trans (I.base.keep b o e n hb hx)};{obtain⟨sl,e1⟩:=I.base.slot b o e n hb hx;exact⟨sl,(hs.2 b (VC (Vg (VA e) (I.ok.zR x c hfn hc)))).trans e1⟩};{obtain⟨o',e1⟩:=I.base.there b o e hx;exact⟨o',(hs.2 b (VC (Vg (VA e) (I.ok.zR x c hfn hc)))).trans e1⟩};{by_cases hj:j=i;{subst hj;rw[hi]at e1;cases e1;rw[Xj hiσ]at e2;cases e2;exact⟨u,r,.inr ⟨.inl hk,c,hc,hc'⟩⟩};rw[XJ (Ne.symm hj)]at e2;obtain⟨u',r',q⟩:=hl j y v' e1 e2 e3;refine⟨u',r',?_⟩;rcases q with q|⟨k,c',e,z'⟩;{exact .inl q};refine .inr ⟨k,c',e,z'.sameBut hs ?_⟩;rintro rfl;exact hj (t7 hN e1 (I.ok.inj _ _ _ e hc▸hi))};{by_cases hcc:c'=c;{subst hcc;exact⟨_,hc'⟩};obtain⟨w2,z2⟩:=I.cell y c' e;exact⟨w2,z2.sameBut hs hcc⟩};obtain⟨e,n,ne,nf,d⟩:=I.pin p hp;refine⟨(hs.2 p.1 ?_).trans e,n,ne,nf,d⟩;intro q;rw[q,hoc]at e;have q':oc=p.2:=Option.some.inj e;exact d w' (by rw[<-q'];exact hocd)
def mO{M:Model}{A:Around}{E:Zk}{i:Nat}{x:Str}{v:V}{u:Value}{Q:Unit->Shared->Prop}(I:Inv X pins U H s)(hN:X.N.Nodup)(hi:X.N[i]?=some x)(hx:Loc X.env.scope x)(r:RelV v u)(h:∀s',Inv X pins (U.set i (some v)) H s'->Q () s')(hf:X.fn x=true\/X.env.scope.names.lookup x=some .local:=by first|exact .inl rfl|exact .inr rfl|assumption):wpAny M A (storeName X.env x u) Q E s:=
 yc I hN hi hx r (λs' I' _=>h s' I') hf
def Inv.EY{s':Shared}{ch:Zz}(I:Inv X pins U H s)(ho:s'.os=s.os)(u:Un (frs X.stack) ch H H' s.heap s'.heap)(hok:dR X.prog X.w H' s'.heap)(hg:AllBare s'.gens)(hch:∀b∈ch,(b∈X.ex\/X.s₀.heap.objs.size<=b)/\b≠X.env.locals/\(∀x c,X.env.cells.lookup x=some c->c≠b)/\∀p∈X.pn++pins,p.1≠b):Inv X pins U H' s':=by obtain⟨h',g',d',t',o'⟩:=s';have e:o'=s.os:=ho;subst e;exact I.call (g':=g') (t':=t') (d':=d') u hok hg hch
end
abbrev XK:=Value->Zx->Hp->Prop
abbrev St:=List (Option V)
abbrev VK:=V->Hp->Prop
abbrev TE:=St->Hp->VK->Prop
abbrev TT:=St->Hp->(Bool->Hp->Prop)->Prop
abbrev TA:=St->Hp->(List V->Hp->Prop)->Prop
structure Ends where
 nx:St->Hp->Prop
 rt:VK
 bk:St->Hp->Prop:=λ_ _=>False
 ct:St->Hp->Prop:=λ_ _=>False
abbrev TS:=Ends->St->Hp->Prop
def EP(X:Cx)(pins:Zn)(U:St)(Q:VK)(u:Value)(s':Shared):Prop:=∃v H',Inv X pins U H' s'/\RelV v u/\Q v H'
def TP(X:Cx)(pins:Zn)(U:St)(Q:Bool->Hp->Prop)(b:Bool)(s':Shared):Prop:=∃H',Inv X pins U H' s'/\Q b H'
def AP(X:Cx)(pins:Zn)(U:St)(Q:List V->Hp->Prop)(us:Zy)(s':Shared):Prop:=∃vs H',Inv X pins U H' s'/\Vals vs us/\Q vs H'
def SP(X:Cx)(pins:Zn)(D:Ends)(f:Flow)(s':Shared):Prop:=
 match f with
 |.next=>∃σ' H',Inv X pins σ' H' s'/\D.nx σ' H'
 |.brk=>∃σ' H',Inv X pins σ' H' s'/\D.bk σ' H'
 |.cont=>∃σ' H',Inv X pins σ' H' s'/\D.ct σ' H'
 |.ret u=>∃v σ' H',Inv X pins σ' H' s'/\RelV v u/\D.rt v H'
def PE(X:Cx)(e:Expr)(t:TE):Prop:=
 ∀(pins:Zn)(s:Shared)(U:St)(H:Hp)(Q:VK),Inv X pins U H s->t U H Q->wpAny (model X.prog X.w) X.A (eval e X.env) (EP X pins U Q) X.xe s
def PT(X:Cx)(e:Expr)(t:TT):Prop:=
 ∀(pins:Zn)(s:Shared)(U:St)(H:Hp)(Q:Bool->Hp->Prop),Inv X pins U H s->t U H Q->wpAny (model X.prog X.w) X.A (isTrue e X.env (eval e X.env)) (TP X pins U Q) X.xe s
def PW(X:Cx)(e:Expr)(t:TT):Prop:=
 ∀(whole:Sem Value)(pins:Zn)(s:Shared)(U:St)(H:Hp)(Q:Bool->Hp->Prop),Inv X pins U H s->t U H Q->wpAny (model X.prog X.w) X.A (isTrue e X.env whole) (TP X pins U Q) X.xe s
def PW.pt{X:Cx}{e:Expr}{t:TT}(h:PW X e t):PT X e t:=h _
def PA(X:Cx)(es:A01)(t:TA):Prop:=
 ∀(pos:Pos)(pins:Zn)(s:Shared)(U:St)(H:Hp)(Q:List V->Hp->Prop),Inv X pins U H s->t U H Q->wpAny (model X.prog X.w) X.A (spliced (backTo pos (starEach es X.env))) (AP X pins U Q) X.xe s
def PS(X:Cx)(st:Stmt)(t:TS):Prop:=
 ∀(pins:Zn)(s:Shared)(U:St)(H:Hp)(D:Ends),Inv X pins U H s->t D U H->wpAny (model X.prog X.w) X.A (exec st X.env) (SP X pins D) X.xe s
def mW(X:Cx)(st:A02)(t:TS):Prop:=
 ∀(pins:Zn)(s:Shared)(U:St)(H:Hp)(D:Ends),Inv X pins U H s->t D U H->wpAny (model X.prog X.w) X.A (execs st X.env) (SP X pins D) X.xe s
def aT{α:Type}{t:Sem α}{Q Q':α->Shared->Prop}{M:Model}{A:Around}{E:Zk}{s:Shared}(h:wpAny M A t Q E s)(hQ:∀a s,Q a s->Q' a s):wpAny M A t Q' E s:=Vh h hQ λ_ _ x=>x
section
variable{X:Cx}
inductive LM(i:Nat)(U:St)(H:Hp)(Q:VK):Prop
 |mk:∀v,(U[i]?=some (some v))->(Q v H)->LM i U H Q
def pO(i:Nat):TE:=λU H Q=>LM i U H Q
def tC(v:V):TE:=λ_ H Q=>Q v H
def kE{i:Nat}{x:Str}{pos:Pos}(hN:X.N[i]?=some x)(hv:qb X.env.scope x)(hd:(x==("__debug__":Str))=false:=by decide)(hcd:(x==("__classdict__":Str))=false:=by decide):PE X (.Name x pos) (pO i):=by intro pins s U H Q I h;obtain⟨v,e,h⟩:=h;obtain⟨m,hn,hl⟩:=I.loc;obtain⟨u,r,l⟩:=hl i x v hN e hv;have fin:EP X pins U Q u s:=⟨v,H,I,r,h⟩;rcases l with⟨hk,hm⟩|⟨hk,c,hc,hcell⟩;{exact wpAny_Name (wpAny_loadName_local I.ok.kind hk hn hm fin) hd};rcases hk with hk|hk;{exact wpAny_Name (wpAny_loadName_cell I.ok.kind hk hc hcell fin) hd};exact wpAny_Name (wpAny_loadName_free I.ok.kind hk hc hcell fin hcd) hd
def Pe{i j pos}:PE X (.Constant (.int i) j pos) (tC (.int i)):=λ_ _ _ H _ I h=>wpAny_Constant_int ⟨.int i,H,I.tok _,⟨_,rfl⟩,h⟩
def SX{b j pos}:PE X (.Constant (.bool b) j pos) (tC (.bl b)):=λ_ _ _ H _ I h=>Constant_bool ⟨.bl b,H,I,rfl,h⟩
def Ql{j pos}:PE X (.Constant .none j pos) (tC .bU):=λ_ _ _ H _ I h=>Constant_none ⟨.bU,H,I,rfl,h⟩
def Hs{x j pos}:PE X (.Constant (.str x) j pos) (tC (.str x)):=λ_ _ _ H _ I h=>Calls.Constant_str ⟨.str x,H,I.tok _,⟨_,rfl⟩,h⟩
def Gl(X:Cx) (x:Str):Prop:=X.env.kindOf x=some .globalImplicit
def oF{E:Zk}{pins:Zn}{s:Shared}{U:St}{H:Hp}{x:Str}{u:Value}{pos:Pos}{Q:Zk}(I:Inv X pins U H s)(hg:Gl X x)(hm:X.mg x=some u)(h:Q u s)(hd:(x==("__debug__":Str))=false:=by decide):wpAny (model X.prog X.w) X.A (eval (.Name x pos) X.env) Q E s:=
 Calls.Name_function_global I.ok.kind hg (Calls.loadGlobal_global (by rw[I.ok.glob];exact I.mod.glob.keeps I.bk) hm h) hd
def oB{E:Zk}{pins:Zn}{s:Shared}{U:St}{H:Hp}{x:Str}{u:Value}{pos:Pos}{Q:Zk}(I:Inv X pins U H s)(hg:Gl X x)(hm:X.mg x=none)(hv:bootBuiltins x=some u)(h:Q u s)(hn:x≠"__name__":=by decide)(hd:(x==("__debug__":Str))=false:=by decide):wpAny (model X.prog X.w) X.A (eval (.Name x pos) X.env) Q E s:=by obtain⟨mb,h1,h2⟩:=I.mod.blt;exact Calls.Name_function_global I.ok.kind hg (Calls.loadGlobal_builtin (by rw[I.ok.glob];exact I.mod.glob.keeps I.bk) hm (by rw[I.ok.blt];exact h1.keeps I.bk) ((h2 x hn).trans hv) h) hd
def Np{x:Str}{v:V}{u:Value}{pos:Pos}(hg:Gl X x)(hm:X.mg x=some u)(r:RelV v u)(hd:(x==("__debug__":Str))=false:=by decide):PE X (.Name x pos) (tC v):=
 λ_ _ _ H _ I h=>oF I hg hm ⟨v,H,I,r,h⟩ hd
def CN{x:Str}{v:V}{u:Value}{pos:Pos}(hg:Gl X x)(hm:X.mg x=none)(hv:bootBuiltins x=some u)(r:RelV v u)(hn:x≠"__name__":=by decide)(hd:(x==("__debug__":Str))=false:=by decide):PE X (.Name x pos) (tC v):=
 λ_ _ _ H _ I h=>oB I hg hm hv ⟨v,H,I,r,h⟩ hn hd
variable{a b:Expr}{ta tb:TE}{pos:Pos}
variable{tA tB':TT}{rest:A01}
def UQ(t u:TT):TT:=λU H Q=>t U H λc H1=>if c=true then Q true H1 else u U H1 Q
def TX(t:TT):TT:=λU H Q=>t U H λc H1=>Q (!c) H1
def pw_and1(ha:PT X a tA):PW X (.BoolOp .And [a] pos) tA:=by
 intro wh pins s U H Q I h;refine isTrue_and (aT (ha pins s U H Q I h) λc s1 e=>?_);cases c with
 |true=>exact isTrue_and_nil e
 |false=>exact e
def pw_or1(ha:PT X a tA):PW X (.BoolOp .Or [a] pos) tA:=by
 intro wh pins s U H Q I h;refine isTrue_or (aT (ha pins s U H Q I h) λc s1 e=>?_);cases c with
 |false=>exact isTrue_or_nil e
 |true=>exact e
def pw_or(ha:PT X a tA)(hb:PW X (.BoolOp .Or (b::rest) pos) tB'):PW X (.BoolOp .Or (a::b::rest) pos) (UQ tA tB'):=by
 intro wh pins s U H Q I h;refine isTrue_or (aT (ha pins s U H _ I h) λc s1 ⟨H1,I1,q1⟩=>?_);cases c with
 |true=>exact⟨H1,I1,q1⟩
 |false=>exact hb wh pins s1 U H1 Q I1 q1
def FU(ha:PT X a tA):PT X (.UnaryOp .Not a pos) (TX tA):=by intro pins s U H Q I h;exact isTrue_not (ha pins s U H (λc H1=>Q (!c) H1) I h)
inductive HG(tb:TE)(U:St)(Q:VK) (x:V)(H1:Hp):Prop
 |mk:∀c,(x=.bl c)->(if c=true then tb U H1 Q else Q (.bl false) H1)->HG tb U Q x H1
def RY(ta tb:TE):TE:=λU H Q=>ta U H λx H1=>HG tb U Q x H1
def Pc{op}{t:TE}(h:PE X a t):PE X (.BoolOp op [a] pos) t:=λpins s U H Q I hw=>BoolOp_one (h pins s U H Q I hw)
def PD(ha:PE X a ta)(hb:PE X (.BoolOp .And (b::rest) pos) tb):PE X (.BoolOp .And (a::b::rest) pos) (RY ta tb):=by
 intro pins s U H Q I h;refine BoolOp_and (aT (ha pins s U H _ I h) λv s1 ⟨x,H1,I1,r1,q1⟩=>?_);obtain⟨c,rfl,q1⟩:=q1;cases r1;refine XM ?_;cases c with
 |true=>exact hb pins s1 U H1 Q I1 q1
 |false=>exact⟨.bl false,H1,I1,rfl,q1⟩
def Va(t:TT)(ta tb:TE):TE:=λU H Q=>t U H λc H1=>if c=true then ta U H1 Q else tb U H1 Q
def JO{c:Expr}(hc:PT X c tA)(ha:PE X a ta)(hb:PE X b tb):PE X (.IfExp c a b pos) (Va tA ta tb):=by
 intro pins s U H Q I h;refine wpAny_IfExp (aT (hc pins s U H _ I h) λd s1 ⟨H1,I1,q1⟩=>?_);cases d with
 |true=>exact ha pins s1 U H1 Q I1 q1
 |false=>exact hb pins s1 U H1 Q I1 q1
end
def cz(K:Zt)(H:Hp)(a:Addr)(xs:List V):Prop:=
 Rd H a (.lst xs) \/
  ∃(o:Obj)(its:Zv) (n:Nat),K.lookup a=some o/\o.cls=.type "list"/\o.dict=none/\o.data=.seq its n/\its.size<=sizeLine/\Vals xs its.toList
def cG(K:Zt)(H:Hp)(a:Addr)(xs:List V):Prop:=
 Rd H a (.tup xs) \/
  ∃(o:Obj)(its:Zv) (n:Nat),K.lookup a=some o/\o.cls=.type "tuple"/\o.data=.seq its n/\its.size<=sizeLine/\Vals xs its.toList
def Uy:Value->Option V
 |.none=>some .bU
 |.bool b=>some (.bl b)
 |.int i _=>some (.int i)
 |.str x _=>some (.str x)
 |.bytes b _=>some (.oH b)
 |.float b _=>some (.Cy b)
 |.ref a=>some (.ref a)
 |.type n=>some (.ty n)
 |_=>none
def RelV.abs{x:V}{u:Value}(r:RelV x u):Uy u=some x:=by
 cases x with
 |bU=>cases r;rfl
 |bl _=>cases r;rfl
 |int _=>obtain⟨t,rfl⟩:=r;rfl
 |str _=>obtain⟨t,rfl⟩:=r;rfl
 |oH _=>obtain⟨t,rfl⟩:=r;rfl
 |Cy _=>obtain⟨t,rfl⟩:=r;rfl
 |ref _=>cases r;rfl
 |ty _=>cases r;rfl
theorem RelV.inj{x y:V}{u:Value}(r:RelV x u)(q:RelV y u):x=y:=Option.some.inj (r.abs.symm.trans q.abs)
theorem Vals.inj{xs ys:List V}{us:Zy}(h:Vals xs us)(h':Vals ys us):xs=ys:=by
 induction h generalizing ys with
 |nil=>cases h';rfl
 |cons r t ih=>cases h' with|cons r' t'=>rw[r.inj r',ih t']
section
variable{X:Cx}{pins:Zn}{U:St}{H:Hp}{s:Shared}{a:Addr}{xs ys:List V}
def cz.of{K:Zt}(h:H a=some (.lst xs)):cz K H a xs:=.inl (.inl h)
def cG.of{K:Zt}(h:H a=some (.tup xs)):cG K H a xs:=.inl (.inl h)
def Inv.list(I:Inv X pins U H s)(h:cz X.K H a xs):∃its:Zy,Vals xs its/\PlainL s.heap a its.toArray/\xs.length<=sizeLine:=by rcases h with h|⟨o,its,n,hk,hc,hd,hs,hz,r⟩;{obtain⟨z,its,n,r,e⟩:=h.ok I.hok;exact⟨its,r,⟨_,n,e,rfl,rfl,rfl⟩,z⟩};refine⟨its.toList,r,⟨o,n,I.f9 a o hk,hc,hd,by simpa using hs⟩,?_⟩;have e:=r.length;simp only[W0]at e;lia
def Inv.tuple(I:Inv X pins U H s)(h:cG X.K H a xs):∃its:Zy,Vals xs its/\IsTup s.heap a its.toArray/\xs.length<=sizeLine:=by rcases h with h|⟨o,its,n,hk,hc,hs,hz,r⟩;{obtain⟨z,its,r,p⟩:=h.ok I.hok;exact⟨its,r,p,z⟩};refine⟨its.toList,r,⟨o,I.f9 a o hk,hc,n,by simpa using hs⟩,?_⟩;have e:=r.length;simp only[W0]at e;lia
def Inv.zN(I:Inv X pins U H s)(h:cz X.K H a xs)(h':cz X.K H a ys):xs=ys:=by
 obtain⟨its,r,⟨o,n,e,_,_,d⟩,_⟩:=I.list h;obtain⟨its',r',⟨o',n',e',_,_,d'⟩,_⟩:=I.list h';rw[e]at e';cases e';rw[d]at d';injection d' with d1 _;have:its=its':=by simpa using congrArg Array.toList d1
 subst this;exact r.inj r'
def Inv.G5(I:Inv X pins U H s)(h:cG X.K H a xs)(h':cG X.K H a ys):xs=ys:=by
 obtain⟨its,r,⟨o,e,_,n,d⟩,_⟩:=I.tuple h;obtain⟨its',r',⟨o',e',_,n',d'⟩,_⟩:=I.tuple h';rw[e]at e';cases e';rw[d]at d';injection d' with d1 _;have:its=its':=by simpa using congrArg Array.toList d1
 subst this;exact r.inj r'
end
section
variable{X:Cx}{st:Stmt}{rest:A02}{t u:TS}{e:Expr}{te:TE}{pos:Pos}
def Sy:TS:=λD U H=>D.nx U H
def Uc(t u:TS):TS:=λD U H=>t { D with nx:=u D } U H
def MZ:mW X [] Sy:=λ_ _ U H _ I h=>Y6 ⟨U,H,I,h⟩
def Ao(h1:PS X st t)(h2:mW X rest u):mW X (st::rest) (Uc t u):=by
 intro pins s U H D I h;refine wpAny_execs_cons (aT (h1 pins s U H { D with nx:=u D } I h) λf s1 q=>?_);cases f with
 |next=>obtain⟨σ',H',I',q⟩:=q;exact h2 pins s1 σ' H' D I' q
 |ret v=>exact q
 |brk=>exact q
 |cont=>exact q
def xE(h1:PS X st t):mW X [st] t:=by
 intro pins s U H D I h;refine wpAny_execs_cons (aT (h1 pins s U H D I h) λf s1 q=>?_);cases f with
 |next=>exact Y6 q
 |ret v=>exact q
 |brk=>exact q
 |cont=>exact q
def Inv.quiet{pins:Zn}{U:St}{H:Hp}{s:Shared}(I:Inv X pins U H s):interactive X.env=false:=by simp[interactive,I.ok.kind]
def Sh(te:TE):TS:=λD U H=>te U H λ_ H1=>D.nx U H1
def CW(he:PE X e te)(hs:swapsWith e none pos.line X.env=pure false:=by rfl):PS X (.Expr e pos) (Sh te):=by intro pins s U H D I h;exact wpAny_Expr_any (aT (he pins s U H _ I h) λv s1 ⟨x,H1,I1,r1,q1⟩=>⟨U,H1,I1,q1⟩) I.quiet hs
def Ur(te:TE):TS:=λD U H=>te U H D.rt
def GO(he:PE X e te):PS X (.Return (some e) pos) (Ur te):=by intro pins s U H D I h;exact wpAny_Return_some (aT (he pins s U H _ I h) λv s1 ⟨x,H1,I1,r1,q1⟩=>⟨x,U,H1,I1,r1,q1⟩)
def Us(c:TT)(t u:TS):TS:=λD U H=>c U H λb H1=>if b=true then t D U H1 else u D U H1
def K9{c:Expr}{a b:A02}{tc:TT}(hc:PT X c tc)(ha:mW X a t)(hb:mW X b u):PS X (.If c a b pos) (Us tc t u):=by
 intro pins s U H D I h;refine wpAny_If (aT (hc pins s U H _ I h) λd s1 ⟨H1,I1,q1⟩=>?_);cases d with
 |true=>exact ha pins s1 U H1 D I1 q1
 |false=>exact hb pins s1 U H1 D I1 q1
end
abbrev TG:=V->St->Hp->(St->Hp->Prop)->Prop
abbrev sL:=List V->St->Hp->(St->Hp->Prop)->Prop
def PG(X:Cx)(target:Expr)(t:TG):Prop:=
 ∀(pins:Zn)(s:Shared)(U:St)(H:Hp) (v:V)(u:Value)(Q:St->Hp->Prop),Inv X pins U H s->RelV v u->t v U H Q->
  wpAny (model X.prog X.w) X.A (assign target X.env u) (λ_ s'=>∃σ' H',Inv X pins σ' H' s'/\Q σ' H') X.xe s
def Gu(X:Cx)(ts:A01)(t:sL):Prop:=
 ∀(pins:Zn)(s:Shared)(U:St)(H:Hp)(vs:List V)(us:Zy)(Q:St->Hp->Prop),Inv X pins U H s->Vals vs us->t vs U H Q->
  wpAny (model X.prog X.w) X.A (assignInOrder ((assignEach ts X.env).map (·.2)) us) (λ_ s'=>∃σ' H',Inv X pins σ' H' s'/\Q σ' H') X.xe s
abbrev ET:=V->V->V->Hp->(Hp->Prop)->Prop
def Jm(X:Cx)(t:ET):Prop:=
 ∀(pins:Zn)(s:Shared)(U:St)(H:Hp) (o i v:V)(ov iv u:Value)(Q:Hp->Prop),Inv X pins U H s->RelV o ov->RelV i iv->RelV v u->t o i v H Q->
  wpAny (model X.prog X.w) X.A (setItem ov iv u) (λ_ s'=>∃H',Inv X pins U H' s'/\Q H') X.xe s
abbrev Hg:=V->V->Hp->VK->Prop
def HZ(X:Cx)(op:Operator)(t:Hg):Prop:=
 ∀(pins:Zn)(s:Shared)(U:St)(H:Hp) (x y:V)(v u:Value)(Q:VK),Inv X pins U H s->RelV x v->RelV y u->t x y H Q->
  wpAny (model X.prog X.w) X.A (inplaceOp op v u) (EP X pins U Q) X.xe s
section
variable{X:Cx}{pos:Pos}
def rP(i:Nat):TG:=λv U H Q=>Q (U.set i (some v)) H
def CS{i:Nat}{x:Str}(hN:X.N.Nodup)(hi:X.N[i]?=some x)(hx:Loc X.env.scope x)(hf:X.fn x=true\/X.env.scope.names.lookup x=some .local:=by first|exact .inl rfl|exact .inr rfl|assumption):PG X (.Name x pos) (rP i):=by intro pins s U H v u Q I r h;exact wpAny_assign_Name (mO I hN hi hx r (λs' I'=>⟨_,H,I',h⟩) hf)
def Rx:sL:=λvs U H Q=>vs=[]/\Q U H
inductive FE(t:TG)(u:sL)(vs:List V)(U:St)(H:Hp)(Q:(St->Hp->Prop)):Prop
 |mk:∀v r,(vs=v::r)->(t v U H λσ' H'=>u r σ' H' Q)->FE t u vs U H Q
def Ls(t:TG)(u:sL):sL:=λvs U H Q=>FE t u vs U H Q
def NG:Gu X [] Rx:=by intro pins s U H vs us Q I r h;obtain⟨e,h⟩:=h;subst e;cases r;exact assignInOrder_nil ⟨U,H,I,h⟩
def Kz{e:Expr}{es:A01}{t:TG}{u:sL}(h1:PG X e t)(h2:Gu X es u)(hs:(assignEach (e::es) X.env).map (·.2)=assign e X.env::(assignEach es X.env).map (·.2):=by rfl):Gu X (e::es) (Ls t u):=by
 intro pins s U H vs us Q I r h;obtain⟨v,vr,e1,h⟩:=h;subst e1;cases r with
 |cons r rr=>rw[hs];refine assignInOrder_cons (aT (h1 pins s U H _ _ _ I r h) λ_ s1 ⟨σ1,H1,I1,q1⟩=>?_);exact h2 pins s1 σ1 H1 _ _ Q I1 rr q1
inductive LQ(K:Zt) (n:Nat)(t:sL) (v:V)(U:St)(H:Hp)(Q:(St->Hp->Prop)):Prop
 |mk:∀a xs,(v=.ref a)->(cG K H a xs)->(xs.length=n)->(t xs U H Q)->LQ K n t v U H Q
def jF(K:Zt) (n:Nat)(t:sL):TG:=λv U H Q=>LQ K n t v U H Q
def RC{es:A01}{k:Nat}{t:sL}{n:Nat}(hc:X.calm=true)(h:Gu X es t)(hn:(assignEach es X.env).length=n:=by rfl)(hst:(assignEach es X.env).findIdx? (·.1)=none:=by rfl):PG X (.Tuple es k pos) (jF X.K n t):=by intro pins s U H v u Q I r hw;obtain⟨a,xs,e1,hq,hl,hw⟩:=hw;subst e1;cases r;obtain⟨its,rv,ht,hz⟩:=I.tuple hq;refine assign_Tuple_tuple (I.ok.hd hc) ht (by simp[hn,<-hl,rv.length]) hst λh' hx=>?_;have I1:Inv X pins U H { s with heap:=h' }:=I.kept (t':=s.toks) λb o e=>hx b o (VC (VA e)) e;exact h pins _ U H xs _ Q I1 (by simpa using rv) hw
def lT(to ti:TE)(t:ET):TG:=λv U H Q=>to U H λo H1=>ti U H1 λi H2=>t o i v H2 λH3=>Q U H3
def Qg{o i:Expr}{to ti:TE}{t:ET}(ho:PE X o to)(hi:PE X i ti)(hs:Jm X t)
  (ha:∀v,assign (.Subscript o i pos) X.env v=(do
   let ov <-holding [v] (eval o X.env)
   let iv <-holding [v,ov] (eval i X.env)
   standAt pos
   holding [v,ov,iv] (setItem ov iv v)
   release [v,ov,iv] []):=by intro _;rfl):PG X (.Subscript o i pos) (lT to ti t):=by
 intro pins s U H v u Q I r h;rw[ha];refine V0 (Vo (aT (ho pins s U H _ I h) λov s1 ⟨x,H1,I1,r1,q1⟩=>?_))
 refine V0 (Vo (aT (hi pins s1 U H1 _ I1 q1) λiv s2 ⟨y,H2,I2,r2,q2⟩=>?_))
 refine V0 (Xk (V0 (Vo (aT (hs pins s2 U H2 x y v ov iv u _ I2 r1 r2 r q2) λ_ s3 ⟨H3,I3,q3⟩=>?_))))
 exact wpAny_release ⟨U,H3,I3,q3⟩
def J7(te:TE)(g:TG):TS:=λD U H=>te U H λx H1=>g x U H1 D.nx
def HF{tg e:Expr}{te:TE}{g:TG}(he:PE X e te)(hg:PG X tg g)(hs:swapsWithSole [tg] e pos.line X.env=pure false:=by rfl)(hw:swappedStores [tg] e X.env=pure none:=by rfl)(h1:(assignEach [tg] X.env).map (·.2)=[assign tg X.env]:=by rfl):PS X (.Assign [tg] e pos) (J7 te g):=by intro pins s U H D I h;refine wpAny_Assign_stores (aT (he pins s U H _ I h) λv s1 ⟨x,H1,I1,r1,q1⟩=>?_) hs hw;rw[h1];exact aT (hg pins s1 U H1 x v _ I1 r1 q1) λ_ s2 q=>q
def RD{i:Nat}{x:Str}{e:Expr}{te:TE}{pos':Pos}(hN:X.N.Nodup)(hi:X.N[i]?=some x)(hx:Loc X.env.scope x)(he:PE X e te)(hs:swapsWith e (some (.Name x pos')) pos.line X.env=pure false:=by rfl)(hf:X.fn x=true\/X.env.scope.names.lookup x=some .local:=by first|exact .inl rfl|exact .inr rfl|assumption) : PS X (.Assign [.Name x pos'] e pos) (J7 te (rP i)):=by intro pins s U H D I h;refine wpAny_Assign_Name (aT (he pins s U H _ I h) λv s1 ⟨y,H1,I1,r1,q1⟩=>?_) hs;exact mO I1 hN hi hx r1 (λs2 I2=>⟨_,H1,I2,q1⟩) hf
def Uo(i:Nat)(te:TE)(ti:Hg):TS:=λD U H=>∃x,U[i]?=some (some x)/\te U H λy H1=>ti x y H1 λz H2=>D.nx (U.set i (some z)) H2
def HA{i:Nat}{x:Str}{e:Expr}{te:TE}{op:Operator}{ti:Hg}{pos':Pos}(hN:X.N.Nodup)(hi:X.N[i]?=some x)(hx:Loc X.env.scope x)(he:PE X e te)(ho:HZ X op ti)(hf:X.fn x=true\/X.env.scope.names.lookup x=some .local:=by first|exact .inl rfl|exact .inr rfl|assumption) : PS X (.AugAssign (.Name x pos') op e pos) (Uo i te ti):=by
 intro pins s U H D I h;obtain⟨v,e1,h⟩:=h;obtain⟨m,hn,hl⟩:=I.loc;have vis:qb X.env.scope x:=by rcases hx with k|k;exact .inl k;exact .inr (.inl k)
 obtain⟨u,r,l⟩:=hl i x v hi e1 vis;refine wpAny_AugAssign_Name ?_;have go:wpAny (model X.prog X.w) X.A (eval e X.env) (λw s₂=>wpAny (model X.prog X.w) X.A (inplaceOp op u w) (λr s₃=>wpAny (model X.prog X.w) X.A (storeName X.env x r) (λ_=>SP X pins D .next) X.xe s₃) X.xe s₂) X.xe s:=by refine aT (he pins s U H _ I h) λw s1 ⟨y,H1,I1,r1,q1⟩=>?_;refine aT (ho pins s1 U H1 v y u w _ I1 r r1 q1) λz s2 ⟨zv,H2,I2,r2,q2⟩=>?_;exact mO I2 hN hi hx r2 (λs3 I3=>⟨_,H2,I3,q2⟩) hf
 rcases l with⟨hk,hm⟩|⟨hk,c,hc,hcell⟩;{exact wpAny_loadName_local I.ok.kind hk hn hm go};rcases hk with hk|hk;{exact wpAny_loadName_cell I.ok.kind hk hc hcell go};rcases hx with k|k;{have:X.env.scope.names.lookup x=some .free:=hk;rw[k]at this;cases this};have:X.env.scope.names.lookup x=some .free:=hk;rw[k]at this;cases this
def N3(f:Int->Int->Int):Hg:=λx y H Q=>∃i j,x=.int i/\y=.int j/\Q (.int (f i j)) H
def Q6:HZ X .Add (N3 λi j=>i+j):=by intro pins s U H x y v u Q I r1 r2 h;obtain⟨i,j,e1,e2,q⟩:=h;subst e1;subst e2;obtain⟨t,rfl⟩:=r1;obtain⟨t',rfl⟩:=r2;exact iadd_int ⟨.int _,H,I.tok _,⟨_,rfl⟩,q⟩
def P6:HZ X .Sub (N3 λi j=>i-j):=by intro pins s U H x y v u Q I r1 r2 h;obtain⟨i,j,e1,e2,q⟩:=h;subst e1;subst e2;obtain⟨t,rfl⟩:=r1;obtain⟨t',rfl⟩:=r2;exact isub_int ⟨.int _,H,I.tok _,⟨_,rfl⟩,q⟩
end
section
variable{X:Cx}{pos:Pos}
def Qq(c:TT)(tb:TS):TS:=λD U H=>∃W:Nat->St->Hp->Prop,(∃m,W m U H)/\∀m U H,W m U H->
 c U H λb H1=>if b=true then ∃N:St->Hp->Prop,(∀σ' H',N σ' H'->∃m',m'<m/\W m' σ' H')/\tb { D with nx:=N,ct:=N,bk:=D.nx } U H1 else D.nx U H1
def J1{c:Expr}{body:A02}{tc:TT}{tb:TS}(hp:PassesOwn (model X.prog X.w) X.A X.env X.xe)(hc:PT X c tc)(hb:mW X body tb):PS X (.While c body [] pos) (Qq tc tb):=by
 intro pins s U H D I h;obtain⟨W,⟨m0,w0⟩,turn⟩:=h;refine wpAny_While (codeAny_whileLoop (λn s'=>∃σ' H',Inv X pins σ' H' s'/\W n σ' H') ?_ m0 ⟨U,H,I,w0⟩);rintro n s1⟨σ1,H1,I1,w1⟩;refine XN hp (aT (hc pins s1 σ1 H1 _ I1 (turn n σ1 H1 w1)) λb s2 ⟨H2,I2,q2⟩=>?_);cases b with
 |true=>
  obtain⟨N,hN,q2⟩:=q2;rw[if_pos rfl];refine XN hp (aT (hb pins s2 σ1 H2 _ I2 q2) λf s3 q3=>?_);cases f with
  |next=>obtain⟨σ3,H3,I3,n3⟩:=q3;obtain⟨m',hm,w3⟩:=hN σ3 H3 n3;exact⟨m',hm,σ3,H3,I3,w3⟩
  |cont=>obtain⟨σ3,H3,I3,n3⟩:=q3;obtain⟨m',hm,w3⟩:=hN σ3 H3 n3;exact⟨m',hm,σ3,H3,I3,w3⟩
  |brk=>exact q3
  |ret v=>exact q3
 |false=>rw[if_neg VY];exact Y6 ⟨σ1,H2,I2,q2⟩
end
structure It where
 go:Nat->Hp->Prop
 sJ:Nat->Hp->V->Hp->Prop
 stop:Nat->Hp->Prop
def ig(X:Cx)(pins:Zn)(H:Hp)(b:Addr):Prop:=
 H b=none/\b≠X.env.locals/\b∉X.fs/\(b∈X.ex\/X.s₀.heap.objs.size<=b)/\(∀x c,X.env.cells.lookup x=some c->c≠b)/\∀p∈X.pn++pins,p.1≠b
def Inv.Bw{X:Cx}{pins:Zn}{U:St}{H H':Hp}{s:Shared}{b:Addr}(I:Inv X pins U H s)(hb:s.heap.objs.size<=b)(hn:H' b=none):ig X pins H' b:=by refine⟨hn,X3 (Vg I.lt hb),I.Rt hb,.inr (VS I.sz hb),λx c e z=>?_,λp hp z=>?_⟩;{obtain⟨v,q⟩:=I.cell x c e;exact absurd (Vg q.lt (by rw[z];exact hb)) (Vx _)};exact absurd (Vg (VA (I.pin p hp).1) (by rw[z];exact hb)) (Vx _)
structure Turn(P:Program)(w:World)(K:Zt)(tg:Expr)(J:It)(fp:Zz)(it:Addr)(tn:Nat->Heap->Prop):Prop where
 mem:it∈fp
 obj:∀i h,tn i h->∀b∈fp,∃o,h.get? b=some o/\∀v,o.data≠.cell v
 keep:∀i h h',tn i h->(∀b∈fp,∀o,h.get? b=some o->h'.get? b=some o)->tn i h'
 item:∀(X:Cx),X.prog=P->X.w=w->X.K=K->X.calm=true->∀(i:Nat)(pins:Zn)(s:Shared)(U:St)(H:Hp)(E:Zk),Inv X pins U H s->(∀b∈fp,ig X pins H b)->tn i s.heap->J.go i H->
  wpAny (model P w) X.A (pyNext (.ref it)) (λr s1=>∃u,r=some u /\
   wpAny (model P w) X.A (letOwnedTupleGo tg (.ref it) u) (λ_ s2=>∃x H',Inv X pins U H' s2/\RelV x u/\J.sJ i H x H'/\tn (i+1) s2.heap/\∀b∈fp,H' b=none) E s1) E s
 done:∀(X:Cx),X.prog=P->X.w=w->X.K=K->X.calm=true->∀(i:Nat)(pins:Zn)(s:Shared)(U:St)(H:Hp)(E:Zk),Inv X pins U H s->(∀b∈fp,ig X pins H b)->tn i s.heap->J.stop i H->
  wpAny (model P w) X.A (pyNext (.ref it)) (λr s1=>r=none/\Inv X pins U H s1) E s
 self:∀(A:Around) (i:Nat)(s:Shared)(Q:Zk)(E:Zk),tn i s.heap->Q (.ref it) s->wpAny (model P w) A (pyIter (.ref it)) Q E s
abbrev TI:=St->Hp->(It->Hp->Prop)->Prop
def KR(X:Cx)(pins:Zn)(U:St)(tg:Expr)(R:It->Hp->Prop)(itv:Value)(s2:Shared):Prop:=
 ∃(it:Addr)(fp:Zz)(tn:Nat->Heap->Prop)(J:It)(H':Hp),itv=.ref it/\Inv X pins U H' s2/\Turn X.prog X.w X.K tg J fp it tn/\tn 0 s2.heap/\(∀b∈fp,ig X pins H' b)/\R J H'
def PI(X:Cx)(tg iter:Expr)(wi:TI):Prop:=
 ∀(pins:Zn)(s:Shared)(U:St)(H:Hp)(R:It->Hp->Prop),Inv X pins U H s->wi U H R->
  wpAny (model X.prog X.w) X.A (eval iter X.env) (λv s1=>wpAny (model X.prog X.w) X.A (pyIter v) (KR X pins U tg R) X.xe s1) X.xe s
def EK{M:Model}{A:Around}{E:Zk}{s:Shared}{tg:Expr}{it:Addr}{u:Value}{o:Obj}{n:String}{vs:Zv}{Q:Unit->Shared->Prop}(ho:s.heap.get? it=some o)(hc:o.cls=.type n)(hd:o.data=.fields vs)(hn:["enumerate","zip","dict_itemiterator","dict_reverseitemiterator","odict_iterator","itertools.zip_longest","itertools.pairwise"].contains n=false)(hQ:Q () s):wpAny M A (letOwnedTupleGo tg (.ref it) u) Q E s:=by
 unfold letOwnedTupleGo;cases tg<;>first
  |exact V2 hQ
  | (cases u<;>first
    |exact V2 hQ
    | (refine V0 (wpAny_load ho ?_)
       rw[hc,hd];show wpAny M A (if(["enumerate","zip","dict_itemiterator","dict_reverseitemiterator","odict_iterator","itertools.zip_longest","itertools.pairwise"].contains n&&vs[0]? == some (rawInt _))=true then _ else _) Q E s
       rw[if_neg (by intro h;rw[hn,Bool.false_and]at h;cases h)]
       exact V2 hQ))
def LS(K:Zt)(a:Addr):It:=
 ⟨λi H=>∃xs x,cz K H a xs/\xs[i]?=some x,λi H x H'=>H'=H/\∀xs,cz K H a xs->xs[i]?=some x,λi H=>∃xs,cz K H a xs/\xs.length<=i⟩
def LF(K:Zt)(a:Addr):It:=
 ⟨λi H=>∃xs x,cG K H a xs/\xs[i]?=some x,λi H x H'=>H'=H/\∀xs,cG K H a xs->xs[i]?=some x,λi H=>∃xs,cG K H a xs/\xs.length<=i⟩
def G4(lo:Int) (n:Nat):It:=⟨λi _=>i<n,λi H x H'=>H'=H/\x=.int (lo+i),λi _=>n<=i⟩
def Gn{P:Program}{w:World}{K:Zt}{tg:Expr}(a it:Addr):Turn P w K tg (LS K a) [it] it (λi h=>h.IsListIter it a i) where
 mem:=by simp
 obj:=λi h st b hb=>by
  have e:b=it:=by simpa using hb
  subst e;obtain⟨o,e,c,d⟩:=st;exact⟨o,e,λv z=>by rw[d]at z;cases z⟩
 keep:=λi h h' st k=>st.at λo e=>k it (by simp) o e
 item:=by
  intro X hP hw hK hc i pins s U H E I hf st hg;subst hP hw hK;obtain⟨xs,x,hq,hx⟩:=hg;obtain⟨its,rv,p,hz⟩:=I.list hq;obtain⟨u,hu,ru⟩:=rv.get hx;obtain⟨f0,f1,f2,f3,f4,f5⟩:=hf it (by simp)
  refine wpAny_pyNext_list_item st p.isList (x:=u) (by simpa using hu) λh' st' sb=>?_
  have I1:Inv X pins U H { s with heap:=h' }:=I.turned (t':=s.toks) (λb o hb e=>(sb.2 b hb).trans e) f0 f1 f3 f4 f5
  obtain⟨o,e,c,d⟩:=id st';exact⟨u,rfl,EK (s:={ s with heap:=h' }) e c d (by decide) ⟨x,H,I1,ru,⟨rfl,λys hy=>by rw[I.zN hy hq];exact hx⟩,st',λb hb=>(hf b hb).1⟩⟩
 done:=by
  intro X hP hw hK hc i pins s U H E I hf st hg;subst hP hw hK;obtain⟨xs,hq,hx⟩:=hg;obtain⟨its,rv,p,hz⟩:=I.list hq;obtain⟨f0,f1,f2,f3,f4,f5⟩:=hf it (by simp)
  have hl:=rv.length;exact wpAny_pyNext_list_end (I.ok.hd hc) st p.isList (by simp;lia) λh' eb=>⟨rfl,I.turned (t':=s.toks) (λb o hb e=>eb b o hb e) f0 f1 f3 f4 f5⟩
 self:=λ_ _ _ _ _ st h=>wpAny_pyIter_listiter st h
def EN{P:Program}{w:World}{K:Zt}{tg:Expr}(a it:Addr):Turn P w K tg (LF K a) [it] it (λi h=>h.IsTupleIter it a i) where
 mem:=by simp
 obj:=λi h st b hb=>by
  have e:b=it:=by simpa using hb
  subst e;obtain⟨o,e,c,d⟩:=st;exact⟨o,e,λv z=>by rw[d]at z;cases z⟩
 keep:=λi h h' st k=>st.at λo e=>k it (by simp) o e
 item:=by
  intro X hP hw hK hc i pins s U H E I hf st hg;subst hP hw hK;obtain⟨xs,x,hq,hx⟩:=hg;obtain⟨its,rv,p,hz⟩:=I.tuple hq;obtain⟨u,hu,ru⟩:=rv.get hx;obtain⟨f0,f1,f2,f3,f4,f5⟩:=hf it (by simp)
  refine wpAny_pyNext_tuple_item st (show s.heap.IsTuple a its.toArray from p) (x:=u) (by simpa using hu) λh' st' sb=>?_
  have I1:Inv X pins U H { s with heap:=h' }:=I.turned (t':=s.toks) (λb o hb e=>(sb.2 b hb).trans e) f0 f1 f3 f4 f5
  obtain⟨o,e,c,d⟩:=id st';exact⟨u,rfl,EK (s:={ s with heap:=h' }) e c d (by decide) ⟨x,H,I1,ru,⟨rfl,λys hy=>by rw[I.G5 hy hq];exact hx⟩,st',λb hb=>(hf b hb).1⟩⟩
 done:=by
  intro X hP hw hK hc i pins s U H E I hf st hg;subst hP hw hK;obtain⟨xs,hq,hx⟩:=hg;obtain⟨its,rv,p,hz⟩:=I.tuple hq;obtain⟨f0,f1,f2,f3,f4,f5⟩:=hf it (by simp)
  have hl:=rv.length;exact wpAny_pyNext_tuple_end (I.ok.hd hc) st (show s.heap.IsTuple a its.toArray from p) (by simp;lia) λh' eb=>⟨rfl,I.turned (t':=s.toks) (λb o hb e=>eb b o hb e) f0 f1 f3 f4 f5⟩
 self:=λ_ _ _ _ _ st h=>wpAny_pyIter_tupleiter st h
def Ej{P:Program}{w:World}{K:Zt}{tg:Expr}(it:Addr) (lo:Int) (n:Nat):Turn P w K tg (G4 lo n) [it] it (λi h=>IsRangeIter h it (lo+(i:Nat)*1) ((n:Int)-(i:Nat)) 1) where
 mem:=by simp
 obj:=λi h st b hb=>by
  have e:b=it:=by simpa using hb
  subst e;exact⟨_,st,λv z=>by
   have z':Data.fields _=Data.cell v:=z;cases z'⟩
 keep:=λi h h' st k=>k it (by simp) _ st
 item:=by
  intro X hP hw hK hc i pins s U H E I hf st hg;subst hP hw hK;obtain⟨f0,f1,f2,f3,f4,f5⟩:=hf it (by simp)
  have W:=Walks.range (prog:=X.prog) (w:=X.w) (I.ok.hd hc) it lo 1 n;refine W.item i s _ _ hg st λv h' tk hv st' kk=>?_
  obtain⟨t,rfl⟩:=hv;have I1:Inv X pins U H { s with heap:=h',toks:=tk }:=I.turned (λb o hb e=>kk b o (by simpa using hb) e) f0 f1 f3 f4 f5
  refine⟨_,rfl,EK (s:={ s with heap:=h',toks:=tk }) (n:="range_iterator") st' rfl rfl (by decide) ⟨.int (lo+i),H,I1,⟨t,?_⟩,⟨rfl,rfl⟩,st',λb hb=>(hf b hb).1⟩⟩
  rw[Int.mul_one]
 done:=by
  intro X hP hw hK hc i pins s U H E I hf st hg;subst hP hw hK;obtain⟨f0,f1,f2,f3,f4,f5⟩:=hf it (by simp)
  exact wpAny_pyNext_range_end (I.ok.hd hc) st (by have:n<=i:=hg;lia) λh' eb=>⟨rfl,I.turned (t':=s.toks) (λb o hb e=>eb b o hb e) f0 f1 f3 f4 f5⟩
 self:=λ_ _ _ _ _ st h=>wpAny_pyIter_rangeiter st h
section
variable{X:Cx}{tg:Expr}
def Az{pins:Zn}{U:St}{H:Hp}{s:Shared}{R:It->Hp->Prop}{E:Zk}{lo hi:Int}{t u v:Tok}{tk:Nat}(I:Inv X pins U H s)(h1:-(2^62)<=lo)(h2:lo<2^62)(h3:-(2^62)<=hi)(h4:hi<2^62)(q:R (G4 lo (hi-lo).toNat) H):wpAny (model X.prog X.w) X.A (pyIter (.ref s.heap.objs.size)) (KR X pins U tg R) E { s with heap:=s.heap.push { cls:=.type "range",data:=.fields #[.int lo t,.int hi u,.int 1 v] },toks:=tk }:=by
 refine wpAny_pyIter_range (IsRange.new ..) (small_one h1 h2 h3 h4) ?_;have I1:Inv X pins U H { s with heap:=s.heap.push { cls:=.type "range",data:=.fields #[.int lo t,.int hi u,.int 1 v] },toks:=tk }:=I.kept λb o e=>VM _ e;refine⟨(s.heap.push { cls:=.type "range",data:=.fields #[.int lo t,.int hi u,.int 1 v] }).objs.size,[(s.heap.push { cls:=.type "range",data:=.fields #[.int lo t,.int hi u,.int 1 v] }).objs.size],_,_,H,rfl,
  I1.kept (t':=tk) λb o e=>VM _ e,Ej _ lo (hi-lo).toNat,?_,λb hb=>?_,q⟩
 .have e1:lo+((0:Nat):Int)*1=lo:=by simp
  have e2:(((hi-lo).toNat:Nat):Int)-((0:Nat):Int)=Builtin.Range.rangeSize lo hi 1:=by rw[rangeSize_one];split<;>lia
  show IsRangeIter _ _ (lo+((0:Nat):Int)*1) ((((hi-lo).toNat:Nat):Int)-((0:Nat):Int)) 1;rw[e1,e2];exact Vj _ rfl
 have e:b=(s.heap.push { cls:=.type "range",data:=.fields #[.int lo t,.int hi u,.int 1 v] }).objs.size:=by simpa using hb
 subst e;exact I1.Bw (V3 _) (I1.hok.fresh (V3 _))
inductive G0(R:(It->Hp->Prop))(vs:List V)(H1:Hp):Prop
 |mk:∀j:Int,(vs=[.int j])->(-(2^62)<=j)->(j<2^62)->(R (G4 0 j.toNat) H1)->G0 R vs H1
def Se(ta:TA):TI:=λU H R=>ta U H λvs H1=>G0 R vs H1
inductive G9(R:(It->Hp->Prop))(vs:List V)(H1:Hp):Prop
 |mk:∀i j:Int,(vs=[.int i,.int j])->((-(2^62)<=i/\i<2^62/\-(2^62)<=j/\j<2^62))->(R (G4 i (j-i).toNat) H1)->G9 R vs H1
def Td(ta:TA):TI:=λU H R=>ta U H λvs H1=>G9 R vs H1
def Hi{a:Expr}{ta:TA}{p pos:Pos}(hg:Gl X "range")(hm:X.mg "range"=none)(ha:PA X [a] ta)(hs:starEach [a] X.env=[(false,eval a X.env)]:=by rfl):PI X tg (.Call (.Name "range" p) [a] [] pos) (Se ta):=by
 intro pins s U H R I h;refine Call_ (oB I hg hm boot_range (YR (aT (ha pos pins s U H _ I h) λus s1 ⟨vs,H1,I1,r1,q1⟩=>?_) hs rfl));obtain⟨j,e,q1,q2,q⟩:=q1;subst e;cases r1 with
 |cons r rr=>cases rr;obtain⟨t,rfl⟩:=r;exact call_range_1 (Az I1 (by lia) (by lia) q1 q2 (by simpa using q))
def Gx{a b:Expr}{ta:TA}{p pos:Pos}(hg:Gl X "range")(hm:X.mg "range"=none)(ha:PA X [a,b] ta)(hs:starEach [a,b] X.env=[(false,eval a X.env),(false,eval b X.env)]:=by rfl)(hs2:starEach [b] X.env=[(false,eval b X.env)]:=by rfl) : PI X tg (.Call (.Name "range" p) [a,b] [] pos) (Td ta):=by
 intro pins s U H R I h;refine Call_ (oB I hg hm boot_range (YR (aT (ha pos pins s U H _ I h) λus s1 ⟨vs,H1,I1,r1,q1⟩=>?_) (by rw[hs,hs2]) (by rw[hs2];rfl)));obtain⟨i,j,e,⟨q1,q2,q3,q4⟩,q⟩:=q1;subst e;cases r1 with
 |cons r rr=>
  cases rr with
  |cons r' rr=>cases rr;obtain⟨t,rfl⟩:=r;obtain⟨t',rfl⟩:=r';exact call_range_2 (Az I1 q1 q2 q3 q4 q)
def UA(wi:TI)(g:TG)(tb:TS):TS:=λD U H=>wi U H λJ H1=>∃W:Nat->Nat->St->Hp->Prop,(∃m,W 0 m U H1)/\∀i m U H,W i m U H->
 (J.stop i H/\D.nx U H)\/(J.go i H/\∃N:St->Hp->Prop,(∀σ' H',N σ' H'->∃m',m'<m/\W (i+1) m' σ' H')/\∀x H',J.sJ i H x H'->g x U H' λσ2 H2=>tb { D with nx:=N,ct:=N,bk:=D.nx } σ2 H2)
def ja(fp:Zz)(h:Heap):Zn:=fp.filterMap λb=>(h.get? b).map λo=>(b,o)
def gZ{fp:Zz}{h:Heap}{b:Addr}{o:Obj}(hb:b∈fp)(e:h.get? b=some o):(b,o)∈ja fp h:=YS.mpr ⟨b,hb,by rw[e];rfl⟩
def q8{fp:Zz}{h:Heap}{p:Addr×Obj}(hp:p∈ja fp h):p.1∈fp/\h.get? p.1=some p.2:=by
 obtain⟨b,hb,e⟩:=YS.mp hp;cases q:h.get? b with
 |none=>rw[q]at e;cases e
 |some o=>rw[q]at e;have e':(b,o)=p:=Option.some.inj e;subst e';exact⟨hb,q⟩
def Inv.pinned{pins:Zn}{U:St}{H:Hp}{s:Shared}{fp:Zz}(I:Inv X pins U H s)(hf:∀b∈fp,ig X pins H b)(ho:∀b∈fp,∃o,s.heap.get? b=some o/\∀v,o.data≠.cell v):Inv X (pins++ja fp s.heap) U H s:=
 I.lC λp hp=>(V8.mp hp).elim (λz=>I.pin p (Vl _ z)) λz=>by obtain⟨hb,e⟩:=q8 z;obtain⟨f0,f1,f2,_⟩:=hf p.1 hb;obtain⟨o,e',d⟩:=ho p.1 hb;rw[e]at e';cases e';exact⟨e,f0,f1,f2,d⟩
def Inv.uq{pins pl:Zn}{U:St}{H:Hp}{s:Shared}(I:Inv X (pins++pl) U H s):Inv X pins U H s:=I.lC λp hp=>I.pin p (Vl _ (Y5 _ hp))
def Rb{iter:Expr}{body:A02}{wi:TI}{g:TG}{tb:TS}{pos:Pos}(hp:PassesOwn (model X.prog X.w) X.A X.env X.xe)(hc:X.calm=true)(hi:PI X tg iter wi)(hg:PG X tg g)(hb:mW X body tb)(hs:∀x,foldedSetIterable iter X.env x=pure x:=by intro _;rfl):PS X (.For tg iter body [] pos) (UA wi g tb):=by
 intro pins s U H D I h;refine wpAny_For (aT (hi pins s U H _ I h) λv s1 h1=>aT h1 λitv s2 h2=>?_) hs
 obtain⟨it,fp,tn,J,H2,e,I2,T,st2,f2,W,⟨m0,w0⟩,turn⟩:=h2;subst e
 -- what stays true of the iterator's objects through the loop
 have stat:∀{H':Hp},(∀b∈fp,H' b=none)->∀b∈fp,ig X pins H' b:=λhn b hb=>⟨hn b hb,(f2 b hb).2⟩
 refine codeAny_forLoop_any (λn s'=>∃i σ' H',Inv X pins σ' H' s'/\tn i s'.heap/\(∀b∈fp,H' b=none)/\W i n σ' H') ?_ m0 ⟨0,U,H2,I2,st2,λb hb=>(f2 b hb).1,w0⟩
 rintro n s3⟨i,σ3,H3,I3,st3,fr3,w3⟩;rcases turn i n σ3 H3 w3 with⟨stop,qn⟩|⟨go,N,hN,step⟩
 .refine XN hp (aT (T.done X rfl rfl rfl hc i pins s3 σ3 H3 X.xe I3 (stat fr3) st3 stop) λr s4 ⟨hr,I4⟩=>?_)
  subst hr;exact Y6 ⟨σ3,H3,I4,qn⟩
 .refine XN hp (aT (T.item X rfl rfl rfl hc i pins s3 σ3 H3 X.xe I3 (stat fr3) st3 go) λr s4 ⟨u,hr,h4⟩=>?_)
  subst hr;refine XN hp (aT h4 λ_ s5 ⟨x,H5,I5,r5,y5,st5,fr5⟩=>?_)
  have I5':=I5.pinned (stat fr5) (T.obj _ _ st5);refine XN hp (aT (hg _ s5 σ3 H5 x u _ I5' r5 (step x H5 y5)) λ_ s6 ⟨σ6,H6,I6,q6⟩=>?_)
  refine XN hp (aT (hb _ s6 σ6 H6 _ I6 q6) λf s7 q7=>?_)
  have again:∀{σ7:St}{H7:Hp},Inv X (pins++ja fp s5.heap) σ7 H7 s7->N σ7 H7->∃m,m<n/\∃i σ' H',Inv X pins σ' H' s7/\tn i s7.heap/\(∀b∈fp,H' b=none)/\W i m σ' H':=λ{σ7 H7} I7 n7=>by
   obtain⟨m',hm,w7⟩:=hN σ7 H7 n7;refine⟨m',hm,i+1,σ7,H7,I7.uq,T.keep _ _ _ st5 λb hb o e=>(I7.pin (b,o) (Vl _ (Vl _ (gZ hb e)))).1,λb hb=>?_,w7⟩
   obtain⟨o,e,d⟩:=T.obj _ _ st5 b hb;exact(I7.pin (b,o) (Vl _ (Vl _ (gZ hb e)))).2.1
  cases f with
  |next=>obtain⟨σ7,H7,I7,n7⟩:=q7;exact again I7 n7
  |cont=>obtain⟨σ7,H7,I7,n7⟩:=q7;exact again I7 n7
  |brk=>obtain⟨σ7,H7,I7,q7⟩:=q7;exact⟨σ7,H7,I7.uq,q7⟩
  |ret v=>obtain⟨x7,σ7,H7,I7,r7,q7⟩:=q7;exact⟨x7,σ7,H7,I7.uq,r7,q7⟩
end
abbrev R2:=V->V->Hp->VK->Prop
def b5(X:Cx)(f:Value->Value->Sem Value)(r:R2):Prop:=
 ∀(pins:Zn)(s:Shared)(U:St)(H:Hp) (x y:V)(v u:Value)(Q:VK),Inv X pins U H s->RelV x v->RelV y u->r x y H Q->
  wpAny (model X.prog X.w) X.A (f v u) (EP X pins U Q) X.xe s
def LL(X:Cx)(f:Value->Sem Value)(r:V->Hp->VK->Prop):Prop:=
 ∀(pins:Zn)(s:Shared)(U:St)(H:Hp) (x:V)(v:Value)(Q:VK),Inv X pins U H s->RelV x v->r x H Q->
  wpAny (model X.prog X.w) X.A (f v) (EP X pins U Q) X.xe s
def cu(X:Cx)(f:Value)(r:List V->Hp->VK->Prop):Prop:=
 ∀(pins:Zn)(s:Shared)(U:St)(H:Hp)(xs:List V)(us:Zy)(Q:VK),Inv X pins U H s->Vals xs us->r xs H Q->
  wpAny (model X.prog X.w) X.A (call f us) (EP X pins U Q) X.xe s
def Uz(X:Cx)(r:V->Hp->(Bool->Hp->Prop)->Prop):Prop:=
 ∀(pins:Zn)(s:Shared)(U:St)(H:Hp) (x:V)(v:Value)(Q:Bool->Hp->Prop),Inv X pins U H s->RelV x v->r x H Q->
  wpAny (model X.prog X.w) X.A (truthy v) (TP X pins U Q) X.xe s
def OZ(r:R2)(ta tb:TE):TE:=λU H Q=>ta U H λx H1=>tb U H1 λy H2=>r x y H2 Q
def UZ(r:V->Hp->VK->Prop)(ta:TE):TE:=λU H Q=>ta U H λx H1=>r x H1 Q
inductive Tz(C:Int->Int->Prop)(g:Int->Int->V) (x:V) (y:V)(H:Hp)(Q:VK):Prop
 |mk:∀i j,(x=.int i)->(y=.int j)->(C i j)->(Q (g i j) H)->Tz C g x y H Q
def rI(C:Int->Int->Prop)(g:Int->Int->V):R2:=λx y H Q=>Tz C g x y H Q
inductive O8(g:Int->Int->V) (x:V) (y:V)(H:Hp)(Q:VK):Prop
 |mk:∀i j,(x=.int i)->(y=.int j)->(Q (g i j) H)->O8 g x y H Q
def qf(g:Int->Int->V):R2:=λx y H Q=>O8 g x y H Q
inductive TR(g:Int->V) (x:V)(H:Hp)(Q:VK):Prop
 |mk:∀i,(x=.int i)->(Q (g i) H)->TR g x H Q
def rU(g:Int->V):V->Hp->VK->Prop:=λx H Q=>TR g x H Q
section
variable{X:Cx}{a b c:Expr}{ta tb tc:TE}{pos:Pos}
def JL(ha:PE X a ta)(hb:PE X b tb){pins:Zn}{s:Shared}{U:St}{H:Hp}{R:V->V->Hp->Prop}(I:Inv X pins U H s)(h:ta U H λx H1=>tb U H1 λy H2=>R x y H2){Q:Zk}{f:Value->Value->Sem Value}(hf:∀v u s2 x y H2,Inv X pins U H2 s2->RelV x v->RelV y u->R x y H2->wpAny (model X.prog X.w) X.A (f v u) Q X.xe s2) : wpAny (model X.prog X.w) X.A (eval a X.env) (λv s₁=>wpAny (model X.prog X.w) X.A (eval b X.env) (λu s₂=>wpAny (model X.prog X.w) X.A (f v u) Q X.xe s₂) X.xe s₁) X.xe s:=by refine aT (ha pins s U H _ I h) λv s1 ⟨x,H1,I1,r1,q1⟩=>?_;refine aT (hb pins s1 U H1 _ I1 q1) λu s2 ⟨y,H2,I2,r2,q2⟩=>?_;exact hf v u s2 x y H2 I2 r1 r2 q2
def Sv{op:Operator}{r:R2}(ho:b5 X (binaryOp op) r)(ha:PE X a ta)(hb:PE X b tb):PE X (.BinOp a op b pos) (OZ r ta tb):=by intro pins s U H Q I h;exact wpAny_BinOp (JL ha hb I h λv u s2 x y H2 I2 rx ry q=>ho pins s2 U H2 x y v u Q I2 rx ry q)
def SG{op:UnaryOp}{r:V->Hp->VK->Prop}(ho:LL X (unaryOp op) r)(ha:PE X a ta):PE X (.UnaryOp op a pos) (UZ r ta):=by intro pins s U H Q I h;exact UnaryOp_ (aT (ha pins s U H _ I h) λv s1 ⟨x,H1,I1,r1,q1⟩=>ho pins s1 U H1 x v Q I1 r1 q1)
def Lg{f:Value->Value->Sem Value}{C:Int->Int->Prop}{g:Int->Int->Int}(rule:∀(i j:Int)(t u:Tok)(s:Shared)(Q:Zk)(E:Zk),C i j->Q (.int (g i j) s.toks) { s with toks:=s.toks+1 }->wpAny (model X.prog X.w) X.A (f (.int i t) (.int j u)) Q E s) : b5 X f (rI C λi j=>.int (g i j)):=by intro pins s U H x y v u Q I rx ry h;obtain⟨i,j,rfl,rfl,hc,q⟩:=h;obtain⟨t,rfl⟩:=rx;obtain⟨t',rfl⟩:=ry;exact rule i j t t' s _ _ hc ⟨.int (g i j),H,I.tok _,⟨_,rfl⟩,q⟩
def P0{f:Value->Value->Sem Value}{g:Int->Int->Int}(rule:∀(i j:Int)(t u:Tok)(s:Shared)(Q:Zk)(E:Zk),Q (.int (g i j) s.toks) { s with toks:=s.toks+1 }->wpAny (model X.prog X.w) X.A (f (.int i t) (.int j u)) Q E s) : b5 X f (qf λi j=>.int (g i j)):=by intro pins s U H x y v u Q I rx ry h;obtain⟨i,j,rfl,rfl,q⟩:=h;obtain⟨t,rfl⟩:=rx;obtain⟨t',rfl⟩:=ry;exact rule i j t t' s _ _ ⟨.int (g i j),H,I.tok _,⟨_,rfl⟩,q⟩
def DW{f:Value->Value->Sem Value}{g:Zq}(rule:∀(i j:Int)(t u:Tok)(s:Shared)(Q:Zk)(E:Zk),Q (.bool (g i j)) s->wpAny (model X.prog X.w) X.A (f (.int i t) (.int j u)) Q E s) : b5 X f (qf λi j=>.bl (g i j)):=by intro pins s U H x y v u Q I rx ry h;obtain⟨i,j,rfl,rfl,q⟩:=h;obtain⟨t,rfl⟩:=rx;obtain⟨t',rfl⟩:=ry;exact rule i j t t' s _ _ ⟨.bl (g i j),H,I,rfl,q⟩
def BB(i j:Int):Prop:=0<=j/\j<=1000000/\i.natAbs<2^64
def kY(i j:Int):Prop:=(-(2^64)<i/\i<2^64)\/(-(2^64)<j/\j<2^64)
def kY.ok{i j:Int}(h:kY i j):IntMulOk i j:=by rcases h with⟨h1,h2⟩|⟨h1,h2⟩;{exact .of_left (intBits_le_64 h1 h2)};exact .of_right (intBits_le_64 h1 h2)
def Rz:b5 X (binaryOp .Add) (qf λi j=>.int (i+j)):=P0 λ_ _ _ _ _ _ _ q=>add_int q
def N4:b5 X (binaryOp .Sub) (qf λi j=>.int (i-j)):=P0 λ_ _ _ _ _ _ _ q=>sub_int q
def O4:b5 X (binaryOp .Mult) (rI kY λi j=>.int (i*j)):=Lg λ_ _ _ _ _ _ _ hc q=>mul_int q hc.ok
def Qv:b5 X (binaryOp .Mod) (rI (λ_ j=>0<j) λi j=>.int (i%j)):=Lg λi j _ _ _ _ _ hc q=>by have h1:(0:Int)<j:=hc;exact mod_int' (by lia) (by rw[Int.fmod_eq_emod_of_nonneg i (by lia)];exact q)
def Om:b5 X (binaryOp .Pow) (rI BB λi j=>.int (i^j.toNat)):=Lg λ_ _ _ _ _ _ _ hc q=>pow_int_small hc.1 hc.2.1 hc.2.2 q
def UO{f:Value->Sem Value}{g:Int->Int}(rule:∀(i:Int)(t:Tok)(s:Shared)(Q:Zk)(E:Zk),Q (.int (g i) s.toks) { s with toks:=s.toks+1 }->wpAny (model X.prog X.w) X.A (f (.int i t)) Q E s) : LL X f (rU λi=>.int (g i)):=by intro pins s U H x v Q I rx h;obtain⟨i,rfl,q⟩:=h;obtain⟨t,rfl⟩:=rx;exact rule i t s _ _ ⟨.int (g i),H,I.tok _,⟨_,rfl⟩,q⟩
def P8:LL X (unaryOp .USub) (rU λi=>.int (-i)):=UO λ_ _ _ _ _ q=>neg_int q
end
def IZ:V->V->Bool
 |.bU,.bU=>true | .bU,.int _=>true | .int _,.bU=>true | .bU,.bl _=>true | .bl _,.bU=>true | .bU,.str _=>true | .str _,.bU=>true
 |.int _,.int _=>true | .bl _,.bl _=>true | .str _,.str _=>true | .oH _,.oH _=>true
 |.int _,.str _=>true | .str _,.int _=>true | .bl _,.str _=>true | .str _,.bl _=>true
 |_,_=>false
def Tq:R2:=λx y H Q=>IZ x y=true/\Q (.bl (decide (x=y))) H
def Tu:R2:=λx y H Q=>IZ x y=true/\Q (.bl (!decide (x=y))) H
def Di{i j:Int}:decide (V.int i=V.int j)=(i==j):=by rw[Wi];simp
def IA{i j:Bool}:decide (V.bl i=V.bl j)=(i==j):=by rw[Wi];simp
def CV{i j:Str}:decide (V.str i=V.str j)=(i==j):=by rw[Wi];simp
def CA{i j:Array UInt8}:decide (V.oH i=V.oH j)=(i.toList==j.toList):=by rw[Wi];cases i;cases j;simp
section
variable{X:Cx}{a b c:Expr}{ta tb tc:TE}{pos:Pos}
def bA{pins:Zn}{U:St}{H:Hp}{s:Shared}{Q:VK}{k k':Bool}(I:Inv X pins U H s)(q:Q (.bl k) H)(e:k=k'):EP X pins U Q (.bool k') s:=by subst e;exact⟨.bl k,H,I,rfl,q⟩
def RO:b5 X (compareOp .Eq) Tq:=by
 intro pins s U H x y v u Q I rx ry h;obtain⟨hs,q⟩:=h;cases x with
 |bU=>
  cases rx;cases y with
  |bU=>cases ry;exact PySem.EqNone.eq_none_none (bA I q (by simp))
  |bl j=>cases ry;exact PySem.EqNone.eq_none_bool (bA I q (by simp))
  |int j=>obtain⟨t',rfl⟩:=ry;exact PySem.EqNone.eq_none_int (bA I q (by simp))
  |str j=>obtain⟨t',rfl⟩:=ry;exact PySem.EqNone.eq_none_str (bA I q (by simp))
  |_=>exact absurd (show false=true from hs) VY
 |bl i=>
  cases rx;cases y with
  |bU=>cases ry;exact PySem.EqNone.eq_bool_none (bA I q (by simp))
  |bl j=>cases ry;exact eq_bool (bA I q IA)
  |str j=>obtain⟨t',rfl⟩:=ry;exact PySem.EqMixed.eq_bool_str (bA I q (by simp))
  |_=>exact absurd (show false=true from hs) VY
 |int i=>
  obtain⟨t,rfl⟩:=rx;cases y with
  |bU=>cases ry;exact PySem.EqNone.eq_int_none (bA I q (by simp))
  |int j=>obtain⟨t',rfl⟩:=ry;exact eq_int (bA I q Di)
  |str j=>obtain⟨t',rfl⟩:=ry;exact PySem.EqMixed.eq_int_str (bA I q (by simp))
  |_=>exact absurd (show false=true from hs) VY
 |str i=>
  obtain⟨t,rfl⟩:=rx;cases y with
  |bU=>cases ry;exact PySem.EqNone.eq_str_none (bA I q (by simp))
  |bl j=>cases ry;exact PySem.EqMixed.eq_str_bool (bA I q (by simp))
  |int j=>obtain⟨t',rfl⟩:=ry;exact PySem.EqMixed.eq_str_int (bA I q (by simp))
  |str j=>obtain⟨t',rfl⟩:=ry;exact eq_str (bA I q CV)
  |_=>exact absurd (show false=true from hs) VY
 |oH i=>
  obtain⟨t,rfl⟩:=rx;cases y with
  |oH j=>obtain⟨t',rfl⟩:=ry;exact PySem.W.eq_bytes (bA I q CA)
  |_=>exact absurd (show false=true from hs) VY
 |_=>cases y<;>exact absurd (show false=true from hs) VY
def Sb:b5 X (compareOp .NotEq) Tu:=by
 intro pins s U H x y v u Q I rx ry h;obtain⟨hs,q⟩:=h;cases x with
 |bU=>
  cases rx;cases y with
  |bU=>cases ry;exact PySem.EqNone.ne_none_none (bA I q (by simp))
  |bl j=>cases ry;exact PySem.EqNone.ne_none_bool (bA I q (by simp))
  |int j=>obtain⟨t',rfl⟩:=ry;exact PySem.EqNone.ne_none_int (bA I q (by simp))
  |str j=>obtain⟨t',rfl⟩:=ry;exact PySem.EqNone.ne_none_str (bA I q (by simp))
  |_=>exact absurd (show false=true from hs) VY
 |bl i=>
  cases rx;cases y with
  |bU=>cases ry;exact PySem.EqNone.ne_bool_none (bA I q (by simp))
  |bl j=>cases ry;exact ne_bool (bA I q (congrArg not IA))
  |str j=>obtain⟨t',rfl⟩:=ry;exact PySem.EqMixed.ne_bool_str (bA I q (by simp))
  |_=>exact absurd (show false=true from hs) VY
 |int i=>
  obtain⟨t,rfl⟩:=rx;cases y with
  |bU=>cases ry;exact PySem.EqNone.ne_int_none (bA I q (by simp))
  |int j=>obtain⟨t',rfl⟩:=ry;exact ne_int (bA I q (congrArg not Di))
  |str j=>obtain⟨t',rfl⟩:=ry;exact PySem.EqMixed.ne_int_str (bA I q (by simp))
  |_=>exact absurd (show false=true from hs) VY
 |str i=>
  obtain⟨t,rfl⟩:=rx;cases y with
  |bU=>cases ry;exact PySem.EqNone.ne_str_none (bA I q (by simp))
  |bl j=>cases ry;exact PySem.EqMixed.ne_str_bool (bA I q (by simp))
  |int j=>obtain⟨t',rfl⟩:=ry;exact PySem.EqMixed.ne_str_int (bA I q (by simp))
  |str j=>obtain⟨t',rfl⟩:=ry;exact ne_str (bA I q (congrArg not CV))
  |_=>exact absurd (show false=true from hs) VY
 |oH i=>
  obtain⟨t,rfl⟩:=rx;cases y with
  |oH j=>obtain⟨t',rfl⟩:=ry;exact PySem.W.ne_bytes (bA I q (congrArg not CA))
  |_=>exact absurd (show false=true from hs) VY
 |_=>cases y<;>exact absurd (show false=true from hs) VY
def Ep:b5 X (compareOp .Lt) (qf λi j=>.bl (decide (i<j))):=DW λ_ _ _ _ _ _ _ q=>lt_int q
def LC:b5 X (compareOp .LtE) (qf λi j=>.bl (decide (i<=j))):=DW λ_ _ _ _ _ _ _ q=>le_int q
def R8:b5 X (compareOp .Gt) (qf λi j=>.bl (decide (j<i))):=DW λ_ _ _ _ _ _ _ q=>gt_int q
def Sl:b5 X (compareOp .GtE) (qf λi j=>.bl (decide (j<=i))):=DW λ_ _ _ _ _ _ _ q=>ge_int q
def b5.or{f:Value->Value->Sem Value}{r r':R2}(h:b5 X f r)(h':b5 X f r'):b5 X f (λx y H Q=>r x y H Q\/r' x y H Q):=by intro pins s U H x y v u Q I rx ry q;rcases q with q|q;{exact h pins s U H x y v u Q I rx ry q};exact h' pins s U H x y v u Q I rx ry q
def oR(b:Expr){op:CmpOp}(h:op≠.In:=by decide)(h2:op≠.NotIn:=by decide):behindInMarks op b=false:=by
 have e1:(op==CmpOp.In)=false:=by cases op<;>first|rfl|exact absurd rfl h
 have e2:(op==CmpOp.NotIn)=false:=by cases op<;>first|rfl|exact absurd rfl h2
 cases b<;>simp[behindInMarks,e1,e2]
def Mh{op:CmpOp}{r:R2}(ho:b5 X (compareOp op) r)(ha:PE X a ta)(hb:PE X b tb)(hm:behindInMarks op b=false):PE X (.Compare a [op] [b] pos) (OZ r ta tb):=by intro pins s U H Q I h;exact wpAny_Compare1 (JL ha hb I h λv u s2 x y H2 I2 rx ry q=>ho pins s2 U H2 x y v u Q I2 rx ry q) hm
inductive IQ(Q:(Bool->Hp->Prop)) (x:V)(H':Hp):Prop
 |mk:∀k,(x=.bl k)->(Q k H')->IQ Q x H'
def RU(t:TE):TT:=λU H Q=>t U H λx H'=>IQ Q x H'
def PM(r r':R2)(ta tb tc:TE):TE:=λU H Q=>ta U H λx H1=>tb U H1 λy H2=>r x y H2 λz H3=>∃k,z=.bl k /\
 (if k=true then tc U H3 λw' H4=>r' y w' H4 Q else Q (.bl false) H3)
def JI{op op':CmpOp}{r r':R2}(ho:b5 X (compareOp op) r)(ho':b5 X (compareOp op') r')(ha:PE X a ta)(hb:PE X b tb)(hc:PE X c tc)(hm:lastMarks [op,op'] [b,c]=false:=by with_unfolding_all rfl):PT X (.Compare a [op,op'] [b,c] pos) (RU (PM r r' ta tb tc)):=by
 intro pins s U H Q I h;refine isTrue_chain (aT (ha pins s U H _ I h) λv s1 ⟨x,H1,I1,r1,q1⟩=>test_link (aT (hb pins s1 U H1 _ I1 q1) λu s2 ⟨y,H2,I2,r2,q2⟩=>
  aT (ho pins s2 U H2 x y v u _ I2 r1 r2 q2) λd s3 ⟨z,H3,I3,r3,k,e,q3⟩=>?_)) hm
 subst e;cases r3;refine XM ?_;cases k with
 |false=>obtain⟨k',e',q'⟩:=q3;cases e';exact ite_ff ⟨H3,I3,q'⟩
 |true=>refine ite_tt (test_last (aT (hc pins s3 U H3 _ I3 q3) λw' s4 ⟨z',H4,I4,r4,q4⟩=>aT (ho' pins s4 U H4 y z' u w' _ I4 r2 r4 q4) λd' s5 ⟨z2,H5,I5,r5,k2,e2,q5⟩=>?_));subst e2;cases r5;exact XM ⟨H5,I5,q5⟩
def uy(K:Zt) (x:V)(H:Hp)(k:Bool):Prop:=
 match x with
 |.bU=>k=false
 |.bl b=>k=b
 |.int i=>k=(i != 0)
 |.str y=>y.length<=sizeLine/\k=((y.length:Int) != 0)
 |.oH y=>y.size<=sizeLine/\k=((y.size:Int) != 0)
 |.ref p=>(∃xs,cz K H p xs/\k=!xs.isEmpty)\/(∃xs,cG K H p xs/\k=!xs.isEmpty)\/∃kvs,H p=some (.dK kvs)/\k=!kvs.isEmpty
 |_=>False
def EF{κ:Type}{kvs:List (κ×V)}{vs:List (κ×Value)}(r:KV kvs vs):(!vs.isEmpty)=!kvs.isEmpty:=by cases r<;>rfl
def vq{xs:List V}{its:Zy}(r:Vals xs its):(!its.toArray.isEmpty)=!xs.isEmpty:=by cases r<;>simp
def pA:(sizeLine:Nat)<2^63:=by rw[sizeLine_eq];decide
def zZ:Uz X (λx H Q=>∃k,uy X.K x H k/\Q k H):=by
 intro pins s U H x v Q I rx h;obtain⟨k,e,q⟩:=h;have hl:=pA;have hs:sizeLine=16777216:=sizeLine_eq;cases x with
 |bU=>cases rx;have e':k=false:=e;subst e';exact truthy_none ⟨H,I,q⟩
 |bl b=>cases rx;have e':k=b:=e;subst e';exact XM ⟨H,I,q⟩
 |int i=>obtain⟨t,rfl⟩:=rx;have e':k=(i != 0):=e;subst e';exact PySem.P.truthy_int ⟨H,I,q⟩
 |str y=>obtain⟨t,rfl⟩:=rx;obtain⟨hy,e'⟩:y.length<=sizeLine/\k=((y.length:Int) != 0):=e;subst e';exact PySem.P.truthy_str (by lia) ⟨H,I.tok _,q⟩
 |oH y=>obtain⟨t,rfl⟩:=rx;obtain⟨hy,e'⟩:y.size<=sizeLine/\k=((y.size:Int) != 0):=e;subst e';exact PySem.W.truthy_bytes (by lia) ⟨H,I.tok _,q⟩
 |ref p=>cases rx;have e':(∃xs,cz X.K H p xs/\k=!xs.isEmpty)\/(∃xs,cG X.K H p xs/\k=!xs.isEmpty)\/∃kvs,H p=some (.dK kvs)/\k=!kvs.isEmpty:=e;rcases e' with⟨xs,hx,e'⟩|⟨xs,hx,e'⟩|⟨kvs,hx,e'⟩;{subst e';obtain⟨its,r,pl,hz⟩:=I.list hx;have hlen:=r.length;exact wpAny_truthy_list pl.isList (by simp only[VO];lia) ⟨H,I.tok _,by rw[vq r];exact q⟩};{subst e';obtain⟨its,r,pl,hz⟩:=I.tuple hx;have hlen:=r.length;exact truthy_tuple pl (by simp only[VO];lia) ⟨H,I.tok _,by rw[vq r];exact q⟩};subst e';obtain⟨hz,hS,vs,r,m⟩:kvs.length<=sizeLine/\(p==sysModules)=false/\∃vs,KV kvs vs/\s.heap.DictOf (cU X.prog X.w) p vs:=I.hok p _ hx;have hlen:kvs.length=vs.length:=Paired.length r;exact wpAny_truthy_dict hS m (by lia) ⟨H,I.tok _,by rw[EF r];exact q⟩
 |_=>exact(show False from e).elim
def zD(ha:PE X a ta)(he:∀whole,isTrue a X.env whole=(do let v <-whole;standAt a.pos;holding [v] (truthy v))) :
  PT X a (λU H Q=>ta U H λx H'=>∃k,uy X.K x H' k/\Q k H'):=by
 intro pins s U H Q I h;exact isTrue_plain (aT (ha pins s U H _ I h) λv s1 ⟨x,H1,I1,r1,q1⟩=>zZ pins s1 U H1 x v Q I1 r1 q1) (he _)
def Eg:b5 X (binaryOp .Add) (λx y H Q=>∃i j,x=.str i/\y=.str j/\i.length+j.length<=sizeLine/\Q (.str (i++j)) H):=by intro pins s U H x y v u Q I rx ry h;obtain⟨i,j,rfl,rfl,hz,q⟩:=h;obtain⟨t,rfl⟩:=rx;obtain⟨t',rfl⟩:=ry;exact add_str (λt' tk=>⟨.str (i++j),H,I.tok _,⟨_,rfl⟩,q⟩) hz
def vals1{x:V}{us:Zy}(r:Vals [x] us):∃u,us=[u]/\RelV x u:=by
 cases r with
 |cons r1 r2=>cases r2;exact⟨_,rfl,r1⟩
def vals2{x y:V}{us:Zy}(r:Vals [x,y] us):∃u w',us=[u,w']/\RelV x u/\RelV y w':=by
 cases r with
 |cons r1 r2=>
  cases r2 with
  |cons r3 r4=>cases r4;exact⟨_,_,rfl,r1,r3⟩
def Ky:cu X (.builtin "abs") (λxs H Q=>∃i,xs=[.int i]/\Q (.int (if i<0 then-i else i)) H):=by intro pins s U H xs us Q I r h;obtain⟨i,rfl,q⟩:=h;obtain⟨u,rfl,t,rfl⟩:=vals1 r;exact call_abs_int λu tk=>⟨.int (if i<0 then-i else i),H,I.tok _,⟨_,rfl⟩,q⟩
def GA(hc:X.calm=true):cu X (.builtin "max") (λxs H Q=>∃i j,xs=[.int i,.int j]/\Q (.int (if j>i then j else i)) H):=by intro pins s U H xs us Q I r h;obtain⟨i,j,rfl,q⟩:=h;obtain⟨u,w',rfl,⟨t,rfl⟩,⟨t',rfl⟩⟩:=vals2 r;refine max_two_ints (I.ok.hd hc) λh' tk k=>⟨_,H,I.kept k,?_,q⟩;by_cases hj:j>i;{rw[if_pos hj,if_pos hj];exact⟨_,rfl⟩};rw[if_neg hj,if_neg hj];exact⟨_,rfl⟩
def Im(hc:X.calm=true):cu X (.builtin "min") (λxs H Q=>∃i j,xs=[.int i,.int j]/\Q (.int (if j<i then j else i)) H):=by intro pins s U H xs us Q I r h;obtain⟨i,j,rfl,q⟩:=h;obtain⟨u,w',rfl,⟨t,rfl⟩,⟨t',rfl⟩⟩:=vals2 r;refine min_two_ints (I.ok.hd hc) λh' tk k=>⟨_,H,I.kept k,?_,q⟩;by_cases hj:j<i;{rw[if_pos hj,if_pos hj];exact⟨_,rfl⟩};rw[if_neg hj,if_neg hj];exact⟨_,rfl⟩
end
structure IX(h:Heap)(x dx C:Addr)(mA:Zm):Prop where
 obj:h.get? x=some (PySem.W.instObj C dx)
 ns:h.Ns1 dx mA
 ne:dx≠x
def xO{h:Heap}{dx:Addr}{mA:Zm}(n:h.Ns1 dx mA):∃od,h.get? dx=some od/\∀name,PySem.W.lookIn name od=some (mA name):=by
 obtain⟨o,es,ep,ho,hd,hk,_,hm⟩:=n;refine⟨o,ho,λname=>?_⟩;have e:=hm name;unfold nsFind findBy at e;rw[<-Z3]at e;unfold PySem.W.lookIn;rw[hd];dsimp only;split;{rename_i y q;rw[q]at e;exact congrArg some e};rename_i q;rw[q]at e;have a:es.toList.any (·.refKey)=false:=by rw[Z4];intro y hy;obtain⟨z,t,hkey⟩:=hk y (Z5.mp hy);simp[DictEntry.refKey,hkey]
 have a':¬es.toList.any (·.refKey)=true:=by rw[a];exact VY
 rw[if_neg a'];exact congrArg some e
def IX.look{h:Heap}{x dx C:Addr}{mA:Zm}(I:IX h x dx C mA):∃od,PySem.W.InstAt h x (PySem.W.instObj C dx) C (some od)/\∀name,PySem.W.lookIn name od=some (mA name):=
 let⟨od,ho,hl⟩:=xO I.ns
 ⟨od,⟨I.obj,rfl,rfl,ho⟩,hl⟩
def kM.some_of{v:V}{o:Zu}(r:kM (some v) o):∃u,o=some u/\RelV v u:=by
 cases o with
 |none=>exact(show False from r).elim
 |some u=>exact⟨u,rfl,r⟩
section
variable{P:Program}{w:World}{H H':Hp}{h h':Heap}{a C dx:Addr}{fs fs':List (Str×V)}
def i6(hok:dR P w H h)(e:H a=some (.ins C dx fs)):∃mA,IX h a dx C mA/\(∀f,kM (fs.lookup f) (mA f))/\PySem.Within mA (fs.map (·.1))/\fs.length<=1000/\H dx=some (.own a):=by obtain⟨d,z,ne,ob,mA,n,r,q⟩:=(show b6 P w H h a (.ins C dx fs)from hok a _ e);exact⟨mA,⟨ob,n,ne⟩,r,q,z,d⟩
end
structure Qm(K:Zt)(C:Addr):Prop where
 pg:PySem.W.plainGet K C Str.empty=true
 hd:PySem.W.hasDictIn K C=true
 po:PySem.W.plainOver K C=true
 sa:PySem.W.findIn K (.ref C) "__setattr__"=some (some (.builtin "object.__setattr__"))
def Qm.get{K:Zt}{C:Addr}(c:Qm K C) (f:Str):PySem.W.plainGet K C f=true:=c.pg
section
variable{X:Cx}{pins:Zn}{U:St}{H:Hp}{s:Shared}{A:Around}{E:Zk}{Q:Zk}{c:Value}{b:Bool}
inductive iF(K:Zt)(H:Hp):V->Value->Prop where
 |bU:iF K H .bU (.type "NoneType")
 |bl (x:Bool):iF K H (.bl x) (.type "bool")
 |int (i:Int):iF K H (.int i) (.type "int")
 |str (x:Str):iF K H (.str x) (.type "str")
 |Cy (x:UInt64):iF K H (.Cy x) (.type "float")
 |lst {a:Addr}{xs:List V}(e:H a=some (.lst xs)):iF K H (.ref a) (.type "list")
 |gj {a:Addr}{o:Obj}{xs:List V}(e:H a=some (.gj o (.lst xs))):iF K H (.ref a) (.type "list")
 |kl {a:Addr}{its:Zv}{n:Nat}(e:K.lookup a=some { cls:=.type "list",data:=.seq its n }):iF K H (.ref a) (.type "list")
 |tup {a:Addr}{xs:List V}(e:H a=some (.tup xs)):iF K H (.ref a) (.type "tuple")
 |dK {a:Addr}{kvs:List (Key×V)}(e:H a=some (.dK kvs)):iF K H (.ref a) (.type "dict")
 |dT {a:Addr}{kvs:List (List Key×V)}(e:H a=some (.dT kvs)):iF K H (.ref a) (.type "dict")
 |ins {a C dx:Addr}{fs:List (Str×V)}(e:H a=some (.ins C dx fs))(cl:Qm K C)(ha:PySem.W.findIn K (.ref C) "__class__"=some (some (.builtin "object.__class__")))
   (hn:PySem.W.specialIn K (.builtin "object.__class__") "__get__"=some (some (.builtin "getset_descriptor.__get__")))(htk:PySem.W.takesIn K (.builtin "object.__class__")=some true)
   (hm:PySem.W.mroIn K C (.type "object")=some true):iF K H (.ref a) (.ref C)
def Gk{x:V}{u t:Value}(I:Inv X pins U H s)(rx:RelV x u)(ty:iF X.K H x t)(e:PySem.W.kitOne X.K t c=some b)(h:∀tk,Q (.bool b) { s with toks:=tk }) : wpAny (model X.prog X.w) A (call (.builtin "isinstance") [u,c]) Q E s:=by
 cases ty with
 |bU=>cases (show u=Value.none from rx);exact WJ PySem.W.kitx_none I.f9 WY e (λz=>nomatch z) h
 |bl y=>cases (show u=Value.bool y from rx);exact WJ PySem.W.kitx_bool I.f9 WY e (λz=>nomatch z) h
 |int i=>obtain⟨t,q⟩:=(show ∃t,u=Value.int i t from rx);cases q;exact WJ PySem.W.kitx_int I.f9 WY e (λz=>nomatch z) h
 |str y=>obtain⟨t,q⟩:=(show ∃t,u=Value.str y t from rx);cases q;exact WJ PySem.W.kitx_str I.f9 WY e (λz=>nomatch z) h
 |Cy y=>obtain⟨t,q⟩:=(show ∃t,u=Value.float y t from rx);cases q;exact WJ PySem.W.kitx_float I.f9 WY e (λz=>nomatch z) h
 |@lst a xs ea=>cases (show u=Value.ref a from rx);obtain⟨_,_,n,_,h1⟩:=(show b6 X.prog X.w H s.heap a (.lst xs)from I.hok a _ ea);exact WJ Z6 I.f9 ⟨_,h1,rfl⟩ e (λz=>nomatch z) h
 |@gj a ob xs ea=>cases (show u=Value.ref a from rx);obtain⟨_,_,_,n,_,h1⟩:=(show b6 X.prog X.w H s.heap a (.gj ob (.lst xs))from I.hok a _ ea);exact WJ Z6 I.f9 ⟨_,h1,rfl⟩ e (λz=>nomatch z) h
 |@kl a its n ea=>cases (show u=Value.ref a from rx);exact WJ Z6 I.f9 ⟨_,I.f9 a _ ea,rfl⟩ e (λz=>nomatch z) h
 |@tup a xs ea=>cases (show u=Value.ref a from rx);obtain⟨_,_,_,p⟩:=(show b6 X.prog X.w H s.heap a (.tup xs)from I.hok a _ ea);obtain⟨o,h1,h2,_⟩:=p;exact WJ PySem.W.kitx_tuple I.f9 ⟨o,h1,h2⟩ e (λz=>nomatch z) h
 |@dK a kvs ea=>cases (show u=Value.ref a from rx);obtain⟨_,_,vs,_,p⟩:=(show b6 X.prog X.w H s.heap a (.dK kvs)from I.hok a _ ea);obtain⟨o,es,ep,h1,h2,_⟩:=p;exact WJ PySem.W.kitx_dict I.f9 ⟨o,h1,h2.1⟩ e (λz=>nomatch z) h
 |@dT a kvs ea=>cases (show u=Value.ref a from rx);obtain⟨_,_,xs,_,o,es,ep,h1,h2,_⟩:=(show b6 X.prog X.w H s.heap a (.dT kvs)from I.hok a _ ea);exact WJ PySem.W.kitx_dict I.f9 ⟨o,h1,h2.1⟩ e (λz=>nomatch z) h
 |@ins a C dx fs ea cl ha hn htk hm=>cases (show u=Value.ref a from rx);obtain⟨mA,O,_⟩:=i6 I.hok ea;obtain⟨od,J,_⟩:=O.look;exact WJ (PySem.W.kitx_own (cl.get _) cl.hd ha hn htk hm) I.f9 J e (λz=>nomatch z) h
end
structure dM(k:Nat)(A:Around):Prop where
 hd:A.handled=none
 dp:A.depth+3*k+5<recursionLimit
 un:A.units+16*k+200<cLine
def dM.mono{j k:Nat}{A:Around}(r:dM k A)(h:j<=k):dM j A:=⟨r.hd,by have:=r.dp;lia,by have:=r.un;lia⟩
theorem dM.deeper{k:Nat}{A:Around}(r:dM (k+1) A)(env:Env):dM k (A.deeper env):=
 ⟨r.hd,by have:=r.dp;show A.depth+1+3*k+5<_;lia,by have:=r.un;show A.units+3+16*k+200<_;lia⟩
theorem dM.depth{k:Nat}{A:Around}(r:dM k A):A.depth<recursionLimit:=by have:=r.dp;lia
theorem dM.units{k:Nat}{A:Around}(r:dM k A):A.units+64<cLine:=by have:=r.un;lia
def Ux:TA:=λ_ H Q=>Q [] H
def Te(ta:TE)(tr:TA):TA:=λU H Q=>ta U H λx H1=>tr U H1 λxs H2=>Q (x::xs) H2
section
variable{X:Cx}{e:Expr}{es:A01}{te:TE}{t:TA}{pos:Pos}
def mF:PA X [] Ux:=λ_ _ _ _ H Q I h=>Calls.spliced_nil ⟨[],H,I,.nil,h⟩
def ia(ha:PE X e te)(hr:PA X es t)(hs:starEach (e::es) X.env=(false,eval e X.env)::starEach es X.env:=by rfl):PA X (e::es) (Te te t):=by intro pos pins s U H Q I h;rw[hs];show wpAny _ _ (spliced ((false,eval e X.env)::backTo pos (starEach es X.env))) _ _ s;refine Calls.spliced_cons (aT (ha pins s U H _ I h) λu s1 ⟨x,H1,I1,r1,q1⟩=>?_);exact aT (hr pos pins s1 U H1 _ I1 q1) λus s2 ⟨xs,H2,I2,r2,q2⟩=>⟨x::xs,H2,I2,.cons r1 r2,q2⟩
def TZ(t:TA):TE:=λU H Q=>t U H λxs H1=>xs.length<=sizeLine/\∀p,H1 p=none->Q (.ref p) (upd H1 p (.tup xs))
def UB(t:TA):TE:=λU H Q=>t U H λxs H1=>xs.length<=sizeLine/\∀p,H1 p=none->Q (.ref p) (upd H1 p (.lst xs))
def Rw{x1}(h:PA X es t):PE X (.Tuple es x1 pos) (TZ t):=by intro pins s U H Q I hq;refine wpAny_Tuple_spliced (aT (h pos pins s U H _ I hq) λus s1 ⟨xs,H1,I1,r,z,q⟩=>⟨by rw[<-r.length];exact z,?_⟩);have hf:H1 s1.heap.objs.size=none:=I1.hok.fresh (V3 _);refine⟨.ref s1.heap.objs.size,upd H1 s1.heap.objs.size (.tup xs),I1.laid (t':=s1.toks) (λb u e=>VM _ e) (V3 _) ?_,rfl,q _ hf⟩;exact⟨z,us,r,⟨_,Vj _ rfl,rfl,_,rfl⟩⟩
def OA(h:PA X es t):PE X (.List es pos) (UB t):=by intro pins s U H Q I hq;refine wpAny_List_spliced (aT (h pos pins s U H _ I hq) λus s1 ⟨xs,H1,I1,r,z,q⟩=>⟨by rw[<-r.length];exact z,?_⟩);have hf:H1 s1.heap.objs.size=none:=I1.hok.fresh (V3 _);refine⟨.ref s1.heap.objs.size,upd H1 s1.heap.objs.size (.lst xs),I1.laid (t':=s1.toks) (λb u e=>VM _ e) (V3 _) ?_,rfl,q _ hf⟩;exact⟨z,us,0,r,Vj _ rfl⟩
end
abbrev Sp:=List V->Hp->VK->XK->Prop
abbrev mZ:=List Env->Hp->Shared->XK->Value->Shared->Prop
structure DY(P:Program)(w:World)(K:Zt)(mg:Zm)(base:Heap)(A:Around)(outer:List Env)(s:Shared)(H:Hp):Prop where
 frames:A.frames=some outer
 mod:Mod K mg base
 bs:∀b o,base.get? b=some o->s.heap.get? b=some o/\H b=none
 uQ:base.objs.size<=s.heap.objs.size
 jJ:s.heap.FunFrames base outer
 yg:∀b∈frs outer,H b=none
 hok:dR P w H s.heap
 bare:AllBare s.gens
def CE(outer:List Env)(P:Program)(w:World)(H:Hp)(s:Shared)(Q:VK)(u:Value)(s':Shared):Prop:=
 ∃v H',s'.os=s.os/\AllBare s'.gens/\Un (frs outer) [] H H' s.heap s'.heap/\dR P w H' s'.heap/\RelV v u/\Q v H'
def CR(CX:mZ)(outer:List Env)(P:Program)(w:World)(H:Hp)(s:Shared)(Q:VK)(E:XK)(r:Result)(s':Shared):Prop:=
 match r with
 |.ok (.ret u)=>CE outer P w H s Q u s'
 |.ok _=>False
 |.error e=>CX outer H s E e s'
structure gM(P:Program)(w:World)(K:Zt)(mg:Zm)(base:Heap)(CX:mZ) (k:Nat)(f:Addr)(fd:FuncData)(ps:A05)(sp:Sp):Prop where
 len:∀vs H Q E,sp vs H Q E->vs.length=ps.length
 run:∀(A:Around)(outer:List Env)(s:Shared)(H:Hp)(args:Args)(us:Zy)(vs:List V)(Q:VK)(E:XK),dM k A->DY P w K mg base A outer s H->BindsTo s fd args (ps.zip us)->Vals vs us->sp vs H Q E->
  codeAny (model P w) A (.call (.ref f) args) (CR CX outer P w H s Q E) s
def gM.imp{P:Program}{w:World}{K:Zt}{mg:Zm}{base:Heap}{CX:mZ}{k:Nat}{f:Addr}{fd:FuncData}{ps:A05}{sp sp':Sp}(F:gM P w K mg base CX k f fd ps sp)(h:∀vs H Q E,sp' vs H Q E->sp vs H Q E):gM P w K mg base CX k f fd ps sp':=
 ⟨λvs H Q E q=>F.len vs H Q E (h _ _ _ _ q),λA outer s H args us vs Q E hr he hb hv hs=>F.run A outer s H args us vs Q E hr he hb hv (h _ _ _ _ hs)⟩
section
variable{X:Cx}{pins:Zn}{U:St}{H:Hp}{s s':Shared}
def Inv.OB(I:Inv X pins U H s):DY X.prog X.w X.K X.mg X.base X.A X.stack s H:=
 ⟨I.ok.frames,I.ok.mod,I.bs,VS I.ok.uQ I.sz,I.stack,I.rS,I.hok,I.bare⟩
def Inv.after{Q:VK}{u:Value}(I:Inv X pins U H s)(h:CE X.stack X.prog X.w H s Q u s'):EP X pins U Q u s':=by obtain⟨v,H',os,bare,un,hok,r,q⟩:=h;obtain⟨hh,g,d,t,os'⟩:=s';obtain rfl:os'=s.os:=os;exact⟨v,H',I.call (h':=hh) (g':=g) (d':=d) (t':=t) (ch:=[]) un hok bare (λb z=>absurd z (by simp)),r,q⟩
end
def RJ(sp:Sp)(dvs:List V)(E:XK)(t:TA):TE:=λU H Q=>t U H λvs H1=>sp (vs++dvs) H1 Q E
def Binds(K:Zt)(fd:FuncData)(ps:A05)(ds:Zy):Prop:=
 ∀(s:Shared)(us:Zy),K.In s.heap->(us++ds).length=ps.length->BindsTo s fd ⟨us,[]⟩ (ps.zip (us++ds))
def Binds.all{K:Zt}{fd:FuncData}{ps:A05}(h:∀us:Zy,us.length=ps.length->bindArgs fd ⟨us,[]⟩=pure (ps.zip us)):Binds K fd ps []:=λs us _ hl=>by rw[Vm]at hl⊢;exact .of_eq (h us hl)
def Passes(CX:mZ)(X:Cx)(E:XK):Prop:=∀(pins:Zn)(U:St)(H:Hp)(s:Shared)(e:Value)(s':Shared),Inv X pins U H s->CX X.stack H s E e s'->X.xe e s'
section
variable{X:Cx}{CX:mZ}{k:Nat}{f C:Addr}{fd:FuncData}{ps:A05}{sp:Sp}{dvs:List V}{ds:Zy}{E:XK}{x m:Str}{p pos apos:Pos}{e o:Expr}{es:A01}{ta:TE}{t:TA}
def P5{pins:Zn}{U:St}{H:Hp}{s:Shared}{Q:VK}{us:Zy}{vs:List V}(F:gM X.prog X.w X.K X.mg X.base CX k f fd ps sp)(hr:dM k X.A)(hb:Binds X.K fd ps ds)(hd:Vals dvs ds)(hx:Passes CX X E)(I:Inv X pins U H s)(r:Vals vs us)(h:sp (vs++dvs) H Q E):wpAny (model X.prog X.w) X.A (call (.ref f) us) (EP X pins U Q) X.xe s:=by
 have r2:Vals (vs++dvs) (us++ds):=r.append hd;have hl:(us++ds).length=ps.length:=by rw[<-r2.length];exact F.len _ _ _ _ h
 refine Xl (Wm (F.run X.A X.stack s H ⟨us,[]⟩ (us++ds) (vs++dvs) Q E hr I.OB (hb s us I.f9 hl) r2 h) λr s' hq=>?_);cases r with
 |error e=>exact hx pins U H s e s' I hq
 |ok fl=>
  cases fl with
  |ret u=>exact I.after hq
  |next=>exact False.elim hq
  |brk=>exact False.elim hq
  |cont=>exact False.elim hq
def Nb(F:gM X.prog X.w X.K X.mg X.base CX k f fd ps sp)(hr:dM k X.A)(hg:Gl X x)(hm:X.mg x=some (.ref f))(hk:PySem.W.keepIn X.K (.ref f)=true)(hb:Binds X.K fd ps ds)(hd:Vals dvs ds)(hx:Passes CX X E)(ha:PA X (e::es) t)(hdb:(x==("__debug__":Str))=false:=by decide)(he:starEach (e::es) X.env=(false,eval e X.env)::starEach es X.env:=by rfl)(hpl:(backTo pos (starEach es X.env)).any (·.1)=false:=by rfl) : PE X (.Call (.Name x p) (e::es) [] pos) (RJ sp dvs E t):=by intro pins s U H Q I h;refine YT (oF I hg hm ?_ hdb);refine PySem.W.callWith_K (h₀:=X.base) I.ok.mod.AO hk (aT (ha pos pins s U H _ I h) λus s1 ⟨vs,H1,I1,r,q⟩=>⟨I1.f9,?_⟩) he hpl;exact P5 F hr hb hd hx I1 r q
end
structure aL(N P:A05)(sc:Scope):Prop where
 kind:sc.kind=.function
 co:sc.isCoroutine=false
 gen:sc.isGenerator=false
 nd:N.Nodup
 pre:N.take P.length=P
 par:∀x∈P,sc.names.lookup x=some .local\/sc.names.lookup x=some .cell
 Ri:∀y∈sc.names,y.2≠.free
theorem yq{kindOf:Str->Option NameKind}{x:Str}:∀{binds:List (Str×Value)}{m:Zm},(∀v,(x,v)∉binds)->bindL kindOf binds m x=m x
 |[],_,_=>rfl
 | (n,v)::r,m,h=>by
  unfold bindL;rw[yq λw hw=>h w (V5 _ hw)];split
  .have:x≠n:=by rintro rfl;exact h v V1
   simp[this]
  rfl
theorem yf{kindOf:Str->Option NameKind}{x:Str}:∀{binds:List (Str×Value)}{m:Zm},(∀v,(x,v)∉binds)->bindC kindOf binds m x=m x
 |[],_,_=>rfl
 | (n,v)::r,m,h=>by
  unfold bindC;rw[yf λw hw=>h w (V5 _ hw)];split;{rfl};have:x≠n:=by rintro rfl;exact h v V1
  simp[this]
theorem yI{kindOf:Str->Option NameKind}{x:Str}{v:Value}:∀{P:A05}{vs:Zy}{i:Nat}{m:Zm},P.Nodup->P[i]?=some x->vs[i]?=some v->kindOf x=some .local-> bindL kindOf (P.zip vs) m x=some v
 |[],_,_,_,_,h,_,_=>by simp at h
 |_::_,[],_,_,_,_,h,_=>by simp at h
 |p::P,w::vs,0,m,nd,h1,h2,hk=>by simp at h1 h2;subst h1;subst h2;show bindL kindOf ((p,w)::P.zip vs) m p=_;unfold bindL;rw[yq λv hv=>(Vi.mp nd).1 (YU hv).1,if_pos hk];simp
 |p::P,w::vs,i+1,m,nd,h1,h2,hk=>by show bindL kindOf ((p,w)::P.zip vs) m x=_;unfold bindL;exact yI (i:=i) (Vi.mp nd).2 (by simpa using h1) (by simpa using h2) hk
theorem xU{kindOf:Str->Option NameKind}{x:Str}{v:Value}:∀{P:A05}{vs:Zy}{i:Nat}{m:Zm},P.Nodup->P[i]?=some x->vs[i]?=some v->kindOf x≠some .local-> bindC kindOf (P.zip vs) m x=some v
 |[],_,_,_,_,h,_,_=>by simp at h
 |_::_,[],_,_,_,_,h,_=>by simp at h
 |p::P,w::vs,0,m,nd,h1,h2,hk=>by simp at h1 h2;subst h1;subst h2;show bindC kindOf ((p,w)::P.zip vs) m p=_;unfold bindC;rw[yf λv hv=>(Vi.mp nd).1 (YU hv).1,if_neg hk];simp
 |p::P,w::vs,i+1,m,nd,h1,h2,hk=>by show bindC kindOf ((p,w)::P.zip vs) m x=_;unfold bindC;exact xU (i:=i) (Vi.mp nd).2 (by simpa using h1) (by simpa using h2) hk
def start(N:A05)(vs:List V):St:=vs.map some++List.replicate (N.length-vs.length) none
def ir(CX:mZ)(P:Program)(w:World)(K:Zt)(mg:Zm)(base:Heap)(N:A05) (qual:Str)(scope:Scope)(f:Addr)(cd:Value)(A:Around)(outer:List Env)(s:Shared)(H:Hp)(E:XK):Cx where
 prog:=P
 w:=w
 K:=K
 mg:=mg
 base:=base
 A:=A.deeper (envOfC qual scope s.heap.objs.size f cd)
 N:=N
 s₀:=s
 H₀:=H
 env:=envOfC qual scope s.heap.objs.size f cd
 outer:=outer
 stack:=envOfC qual scope s.heap.objs.size f cd::outer
 ex:=[]
 calm:=true
 fn:=λ_=>true
 pn:=[]
 xe:=λe s'=>wpAny (model P w) (A.deeper (envOfC qual scope s.heap.objs.size f cd)) (leaving (envOfC qual scope s.heap.objs.size f cd) e) (λ_ s''=>CX outer H s E e s'') (λe' s''=>CX outer H s E e' s'') s'
def zj{sc:Scope}{n:Nat}{x:Str}(h:sc.names.lookup x=some .cell):∃c,(cellsFrom n sc.names []).lookup x=some c:=by have q:=PySem.W.cellsFrom_some sc.names n [] (.inl h);exact Z7.mp q
def FZ{CX:mZ}{P:Program}{w:World}{K:Zt}{mg:Zm}{base:Heap}{N ps:A05}{qual:Str}{scope:Scope}{f:Addr}{cd:Value}{A:Around}{outer:List Env}{s s1:Shared}{H:Hp}{E:XK}{us:Zy}{vs:List V}(S:aL N ps scope)(hd:A.handled=none)(e0:DY P w K mg base A outer s H)(hl:vs.length=ps.length)(r:Vals vs us)(x:InCallC s s.heap.objs.size (bindL (envOfC qual scope s.heap.objs.size f cd).kindOf (ps.zip us) λ_=>none) (cellsFrom (s.heap.objs.size+1) scope.names []) (bindC (envOfC qual scope s.heap.objs.size f cd).kindOf (ps.zip us) λ_=>none) s1) : Inv (ir CX P w K mg base N qual scope f cd A outer s H E) [] (start N vs) H s1:=by
 have hpl:ps.length<=N.length:=by have:=congrArg List.length S.pre;rw[WK]at this;lia
 obtain⟨h1,tk,rfl,hk⟩:=x.done;have noA:∀b:Addr,b∉(ir CX P w K mg base N qual scope f cd A outer s H E).ex:=λb z=>absurd (show b∈([]:Zz)from z) (by simp);refine⟨⟨e0.mod,S.kind,rfl,rfl,V3 _,λy z c h1 h2=>?_,λy hy=>?_,λy c _ h=>?_,λ_=>hd,Around.frames_deeper e0.frames,.inr ⟨rfl,rfl⟩,λb z=>absurd z (noA b),e0.bs,e0.uQ,λb _ _=>noA b,λb z=>absurd z (noA b),e0.jJ,e0.yg⟩,
  rfl,e0.bare,Un.kept hk,⟨_,x.toInCall.ns,λi y v h1 h2 h3=>?_⟩,λy c h=>⟨_,x.cell y c h⟩,e0.hok.fresh (V3 _),λy c h=>?_,λp hp=>absurd (show p∈([]:Zn)from hp) (by simp),e0.hok.kept hk,?_⟩
 .exact name_of_addr x.apart (Y7 h1) (Y7 h2)
 .have hy:scope.names.lookup y=some .cell\/scope.names.lookup y=some .free:=hy;rcases hy with hy|hy;{exact zj hy};exact absurd rfl (S.Ri _ (Y7 hy))
 .exact WX (x.above y c (Y7 h))
 .have hi:i<vs.length:=by unfold start at h2;by_cases hi:i<vs.length;{exact hi};rw[Xm (by simpa using hi)]at h2;rw[List.getElem?_replicate]at h2;split at h2<;>cases h2
  have ha:vs[i]?=some v:=by
   unfold start at h2;rw[Xn (by simpa using hi),VQ]at h2;cases e:vs[i]? with
   |none=>rw[e]at h2;cases h2
   |some a=>rw[e]at h2;cases h2;rfl
  obtain⟨u,hu,rv⟩:=r.get ha;have hp:ps[i]?=some y:=by rw[<-S.pre,List.getElem?_take_of_lt (by lia)];exact h1
  have ndP:ps.Nodup:=by rw[<-S.pre];exact S.nd.sublist (YV _ _)
  refine⟨u,rv,?_⟩;rcases S.par y (VZ hp)with k|k;{exact .inl ⟨k,yI ndP hp hu k⟩};obtain⟨c,e⟩:=zj (n:=s.heap.objs.size+1) k;refine .inr ⟨.inl k,c,e,?_⟩;have q:=x.cell y c e;rw[xU ndP hp hu (by show scope.names.lookup y≠_;rw[k];decide)]at q;exact q
 .exact e0.hok.fresh (WX (x.above y c (Y7 h)))
 unfold start;show _=N.length;rw[VD,V4,X4];lia
def RK{CX:mZ}{P:Program}{w:World}{K:Zt}{mg:Zm}{base:Heap}{k:Nat}{f:Addr}{name qual:Str}{params:Arguments}{body:A02}{scope:Scope}{dV kV doc pm cdv ct oc:Value}{an od:Zx}{osl:Zj}{N ps:A05}{sp:Sp}(lk:K.lookup f=some ⟨oc,od,.func (PySem.W.fnOf name qual params body scope dV kV doc pm an cdv ct),osl⟩)(hcd:PySem.W.codeIn K cdv qual=true)(S:aL N ps scope)(len:∀vs H Q E,sp vs H Q E->vs.length=ps.length)(hbody:∀(A:Around)(outer:List Env)(s:Shared)(H:Hp)(vs:List V)(Q:VK)(E:XK),dM k (A.deeper (envOfC qual scope s.heap.objs.size f cdv))->sp vs H Q E-> ∃t,mW (ir CX P w K mg base N qual scope f cdv A outer s H E) body t/\t { nx:=λ_ H'=>Q .bU H',rt:=Q } (start N vs) H) : gM P w K mg base CX (k+1) f (PySem.W.fnOf name qual params body scope dV kV doc pm an cdv ct) ps sp:=by
 refine⟨len,λA outer s H args us vs Q E hr e0 hb r hsp=>?_⟩;have hl:=len _ _ _ _ hsp;have KX:K.In s.heap:=e0.mod.AO.keeps λb o e=>(e0.bs b o e).1;have lim:s.heap.NoLimit:=e0.mod.nolimit.keeps λb o e=>(e0.bs b o e).1;have hkind:∀y∈ps.zip us,scope.names.lookup y.1=some .local\/(scope.names.lookup y.1=some .cell/\((cellsFrom (s.heap.objs.size+1) scope.names []).lookup y.1).isSome=true):=λ⟨n,v⟩ hy=>by rcases S.par n (YU hy).1 with q|q;{exact .inl q};exact .inr ⟨q,PySem.W.cellsFrom_some _ _ _ (.inl q)⟩
 refine codeAny_call_function hr.depth (KX _ _ lk) rfl S.co S.gen rfl (PySem.W.codeRec_of KX hcd) (hb _ _ _ _ ?_);refine wpAny_newFunctionEnv_cells S.kind hkind λenv he s1 x=>?_;subst he;refine⟨lim.keeps x.toInCall.keep,codeAny_func ?_⟩;obtain⟨t,ht,hq⟩:=hbody A outer s H vs Q E (hr.deeper _) hsp;have I:Inv (ir CX P w K mg base N qual scope f cdv A outer s H E) [] (start N vs) H s1:=FZ S hr.hd e0 hl r x;refine Vh (ht [] s1 (start N vs) H _ I hq) (λfl s' hs=>?_) λe s' hs=>hs;have fin:∀{σ':St}{H':Hp}{v:V}{u:Value},Inv (ir CX P w K mg base N qual scope f cdv A outer s H E) [] σ' H' s'->RelV v u->Q v H'->CE outer P w H s Q u s':=
  λ{σ' H' v u} J rv q=>⟨v,H',J.os,J.bare,J.base,J.hok,rv,q⟩
 cases fl with
 |ret u=>obtain⟨v,σ',H',J,rv,q⟩:=hs;exact fin J rv q
 |next=>obtain⟨σ',H',J,q⟩:=hs;exact fin (v:=V.bU) (u:=Value.none) J rfl q
 |brk=>obtain⟨_,_,_,q⟩:=hs;exact False.elim q
 |cont=>obtain⟨_,_,_,q⟩:=hs;exact False.elim q
section
variable{X:Cx}{x:Str}{p pos:Pos}{e:Expr}{es:A01}{t:TA}{id T:String}{r:List V->Hp->VK->Prop}
def Tv(r:List V->Hp->VK->Prop)(t:TA):TE:=λU H Q=>t U H λvs H1=>r vs H1 Q
def mQ(hc:cu X (.builtin id) r)(hg:Gl X x)(hm:X.mg x=none)(hv:bootBuiltins x=some (.builtin id))(ha:PA X (e::es) t)(hn:x≠"__name__":=by decide)(hdb:(x==("__debug__":Str))=false:=by decide)(he:starEach (e::es) X.env=(false,eval e X.env)::starEach es X.env:=by rfl)(hpl:(backTo pos (starEach es X.env)).any (·.1)=false:=by rfl):PE X (.Call (.Name x p) (e::es) [] pos) (Tv r t):=by intro pins s U H Q I h;refine YT (oB I hg hm hv ?_ hn hdb);exact PyProof.Rows.callWith_builtin1 (aT (ha pos pins s U H _ I h) λus s1 ⟨vs,H1,I1,r1,q1⟩=>hc pins s1 U H1 vs us Q I1 r1 q1) he hpl
def kB(hc:cu X (.type T) r)(hg:Gl X x)(hm:X.mg x=none)(hv:bootBuiltins x=some (.type T))(ha:PA X (e::es) t)(hn:x≠"__name__":=by decide)(hdb:(x==("__debug__":Str))=false:=by decide)(he:starEach (e::es) X.env=(false,eval e X.env)::starEach es X.env:=by rfl)(hpl:(backTo pos (starEach es X.env)).any (·.1)=false:=by rfl):PE X (.Call (.Name x p) (e::es) [] pos) (Tv r t):=by intro pins s U H Q I h;refine YT (oB I hg hm hv ?_ hn hdb);exact YR (aT (ha pos pins s U H _ I h) λus s1 ⟨vs,H1,I1,r1,q1⟩=>hc pins s1 U H1 vs us Q I1 r1 q1) he hpl
end
end L2
namespace HT
open PySem PyProof.Rows
section
variable{prog:Program}{w:World}{A:Around}{E:Zk}{s:Shared}
def NF{t b:Addr}{vs ws:Zy}{Q:Zk}(ht:IsTup s.heap t vs.toArray)(hb:IsTup s.heap b ws.toArray)(hv:vs≠[])(h1:ws=[]->Q (.ref t) s)(h2:ws≠[]->Q (.ref s.heap.objs.size) { s with heap:=s.heap.push { cls:=.type "tuple",data:=.seq (vs++ws).toArray } })(hsz:vs.length+ws.length<=sizeLine):wpAny (model prog w) A (binaryOp .Add (.ref t) (.ref b)) Q E s:=by
 obtain⟨⟨cls,dd,data,sl⟩,ho,hc,n,hd⟩:=id ht;obtain⟨⟨cls2,dd2,data2,sl2⟩,ho2,hc2,n2,hd2⟩:=id hb;simp only at hc hd hc2 hd2;subst hc hd hc2 hd2;have e:vs.toArray++ws.toArray=(vs++ws).toArray:=by simp
 by_cases hw:ws=[]
 .exact concat_meets ⟨_,ho,rfl⟩ ⟨_,ho2,rfl⟩ noFill_tuple_add seq_tuple_add PySem.F.slot_tuple_add PySem.F.entry_tuple_add (PySem.F.args_tuple_add_2 _ _)
   (tuple_addW1 t b vs.toArray ws.toArray n n2 dd dd2 sl sl2 (by simpa using hv) (by simp[hw])) ⟨ho,ho2,h1 hw⟩
 refine concat_meets ⟨_,ho,rfl⟩ ⟨_,ho2,rfl⟩ noFill_tuple_add seq_tuple_add PySem.F.slot_tuple_add PySem.F.entry_tuple_add (PySem.F.args_tuple_add_2 _ _)
  (tuple_addW2 t b vs.toArray ws.toArray n n2 dd dd2 sl sl2 (by simpa using hv) (by simpa using hw) (by rw[VO,VO];exact hsz)) ⟨ho,ho2,?_⟩
 rw[e];exact h2 hw
def aU(n d:Nat):Option Int->Nat
 |none=>d
 |some v=>if v<0 then(v+(n:Int)).toNat else min v.toNat n
def sd(n d k:Nat):aU n d (some (k:Int))=min k n:=by show(if(k:Int)<0 then((k:Int)+(n:Int)).toNat else min (k:Int).toNat n)=min k n;rw[if_neg (by lia),YW]
def P9(n d:Nat)(hd:d<=n)(o:Option Int):aU n d o<=n:=by
 cases o with
 |none=>exact hd
 |some v=>show(if v<0 then(v+(n:Int)).toNat else min v.toNat n)<=n;by_cases hv:v<0;{rw[if_pos hv];lia};rw[if_neg hv];exact Z8 _ _
def Cs(v:Int) (n d:Nat):(if v<0 then max (v+(n:Int)) 0 else min v (n:Int))=((aU n d (some v):Nat):Int):=by show(if v<0 then max (v+(n:Int)) 0 else min v (n:Int))=(((if v<0 then(v+(n:Int)).toNat else min v.toNat n):Nat):Int);by_cases hv:v<0;{simp only[if_pos hv];lia};simp only[if_neg hv];lia
def DL(lo hi:Option Int) (n:Nat):Builtin.Slice.sliceAdjust lo hi 1 (n:Int)=(((aU n 0 lo:Nat):Int),((aU n n hi:Nat):Int)):=by
 have h1:¬((1:Int)<0):=by lia
 unfold Builtin.Slice.sliceAdjust;simp only[h1,WZ];refine Prod.ext ?_ ?_
 .cases lo with
  |none=>rfl
  |some v=>exact Cs v n 0
 cases hi with
 |none=>rfl
 |some v=>exact Cs v n n
def Et(i j:Nat):Builtin.Slice.slicePlaces (i:Int) (j:Int) 1=j-i:=by
 unfold Builtin.Slice.slicePlaces;have h1:(1:Int)>0:=by lia
 simp only[h1,if_true,Int.ediv_one];split<;>lia
def uZ{v:Value}{o:Option Int}{Q:Option Int->Shared->Prop}(p:IsPart v o)(h:Q o s):wpAny (model prog w) A (Builtin.Slice.slicePartIndex v) Q E s:=by
 cases p with
 |none=>exact slicePart_none h
 |int i t=>exact slicePart_int h
def mj{sl:Addr}{vl vu:Value}{lo hi:Option Int}{n:Nat}{Q:Int×Int×Nat->Shared->Prop}(hs:s.heap.IsSliceOf sl vl vu .none)(pl:IsPart vl lo)(pu:IsPart vu hi)(h:Q (((aU n 0 lo:Nat):Int),1,aU n n hi-aU n 0 lo) s):wpAny (model prog w) A (Builtin.Slice.sliceApplied (.ref sl) (pure (n:Int))) Q E s:=by obtain⟨os,hos,hcs,hds⟩:=id hs;unfold Builtin.Slice.sliceApplied Builtin.Slice.sliceFields;refine V0 (V0 (Wn hos hds (x:=vl) rfl (V0 (Wn hos hds (x:=vu) rfl (V0 (Wn hos hds (x:=.none) rfl (V2 ?_)))))));refine V0 (slicePart_none ?_);show wpAny _ _ (if((1:Int)==0)=true then _ else _) _ _ s;rw[if_neg (by decide)];refine V0 (uZ pl (V0 (uZ pu (V0 (V2 ?_)))));show wpAny _ _ (match Builtin.Slice.sliceAdjust lo hi 1 (n:Int)with|(lo,hi)=>pure (lo,(1:Int),Builtin.Slice.slicePlaces lo hi 1)) _ _ s;rw[DL lo hi n];show wpAny _ _ (pure (((aU n 0 lo:Nat):Int),(1:Int),Builtin.Slice.slicePlaces ((aU n 0 lo:Nat):Int) ((aU n n hi:Nat):Int) 1)) _ _ s;rw[Et];exact V2 h
def Jd(xs:Zv) (i k:Nat):((List.range k).filterMap λ(m:Nat)=>xs[((i:Int)+(m:Int)*1).toNat]?).toArray=((xs.toList.drop i).take k).toArray:=by
 have e:(λ(m:Nat)=>xs[((i:Int)+(m:Int)*1).toNat]?)=λm=>xs[i+m]?:=by
  funext m;have:((i:Int)+(m:Int)*1).toNat=i+m:=by lia
  rw[this]
 rw[e];have:=pick_run xs i k;rw[List.filterMap_map]at this;have e2:((λx=>xs[x]?)∘λx=>i+x)=λm=>xs[i+m]?:=rfl;rw[e2]at this;rw[this]
def su{t sl:Addr}{items:Zv}{vl vu:Value}{lo hi:Option Int}{Q:Zk}(ht:IsTup s.heap t items)(hs:s.heap.IsSliceOf sl vl vu .none)(pl:IsPart vl lo)(pu:IsPart vu hi)(hw:¬(aU items.size 0 lo=0/\aU items.size items.size hi=items.size))(h:Q (.ref s.heap.objs.size) { s with heap:=s.heap.push { cls:=.type "tuple",data:=.seq ((items.toList.drop (aU items.size 0 lo)).take (aU items.size items.size hi-aU items.size 0 lo)).toArray } })(hsz:items.size<=sizeLine):wpAny (model prog w) A (getItem (.ref t) (.ref sl)) Q E s:=by
 have htake:sizeOk (.seq ((items.toList.drop (aU items.size 0 lo)).take (aU items.size items.size hi-aU items.size 0 lo)).toArray):=by show((items.toList.drop (aU items.size 0 lo)).take (aU items.size items.size hi-aU items.size 0 lo)).toArray.size<=sizeLine;rw[VO,WK,Xo,W0];exact VS (Z8 _ _) (VS (Nat.sub_le _ _) hsz)
 have hj:aU items.size items.size hi<=items.size:=P9 _ _ (V3 _) hi;obtain⟨os,hos,hcs,hds⟩:=id hs;have hTs:s.TypeIs (.ref sl) "slice":=⟨os,hos,hcs⟩;unfold getItem;try with_reducible refine Vo ?_
 first|refine V0 (V2 ?_)|skip
 refine V0 (wpAny_sequenceKey ht.typeIs (by decide) ?_);refine V0 (YX (name:=Str.ofString "__getitem__") ht.typeIs YY
  (X5 YY ht.typeIs entry_tuple_getitem ?_ (args_tuple_getitem _ _)))
 show wpAny _ _ (Builtin.Tuple.tupleItemsOf (.ref t)>>=_) _ _ s;refine V0 (tupleItemsOf_ ht ?_);refine V0 (XO hTs ?_);rw[if_pos (by decide)];refine V0 (mj hs pl pu ?_);have hno:¬((((aU items.size 0 lo:Nat):Int)==0&&(1:Int)==1&&(aU items.size items.size hi-aU items.size 0 lo)==items.size)=true):=by intro q;rw[V9,V9]at q;have q1:((aU items.size 0 lo:Nat):Int)=0:=XQ q.1.1;have q2:aU items.size items.size hi-aU items.size 0 lo=items.size:=XQ q.2;exact hw ⟨by lia,by lia⟩
 show wpAny _ _ (if(((aU items.size 0 lo:Nat):Int)==0&&(1:Int)==1&&(aU items.size items.size hi-aU items.size 0 lo)==items.size)=true then _ else _) _ _ s;rw[if_neg hno,Jd];first
  |exact V0 (m:=Builtin.Tuple.tupleExact _) (Wo (V2 ⟨_,rfl,V2 h⟩) htake)
  |exact V0 (m:=Builtin.Tuple.tupleExact _) (Wo (V0 (V2 (V2 ⟨_,rfl,V2 h⟩))) htake)
  |exact V0 (V0 (m:=Builtin.Tuple.tupleExact _) (Wo (V2 (V2 ⟨_,rfl,V2 h⟩)) htake))
  |exact V0 (V0 (m:=Builtin.Tuple.tupleExact _) (Wo (V2 ⟨_,rfl,V2 h⟩) htake))
end
end HT
namespace L2
open PySem PySem.Spec PyProof.Rows
abbrev TO:=St->Hp->(Option Int->Hp->Prop)->Prop
def PO(X:Cx)(e:Option Expr)(t:TO):Prop:=
 ∀(pins:Zn)(s:Shared)(U:St)(H:Hp)(Q:Option Int->Hp->Prop),Inv X pins U H s->t U H Q->
  wpAny (model X.prog X.w) X.A (evalPart e X.env) (λu s'=>∃o H',Inv X pins U H' s'/\IsPart u o/\Q o H') X.xe s
def NS:TO:=λ_ H Q=>Q none H
def RI(t:TE):TO:=λU H Q=>t U H λx H1=>∃i,x=.int i/\Q (some i) H1
def intsAre_of{ns:A04}:∀{us:Zy},Vals (ns.map V.int) us->IntsAre us ns:=by
 induction ns with
 |nil=>intro us r;rw[Y8]at r;cases r;exact .nil
 |cons n ns ih=>
  intro us r;rw[VH]at r;cases r with
  |cons r1 r2=>obtain⟨t,e⟩:=r1;subst e;exact .cons n t (ih r2)
section
variable{X:Cx}{e:Expr}{te:TE}{lo hi:Option Expr}{tl th:TO}{pos p2:Pos}
def MI:PO X none NS:=by intro pins s U H Q I h;rw[evalPart_none];exact V2 ⟨none,H,I,.none,h⟩
def Nm(h:PE X e te):PO X (some e) (RI te):=by intro pins s U H Q I hw;rw[evalPart_some];refine aT (h pins s U H _ I hw) λu s1 ⟨x,H1,I1,r1,q1⟩=>?_;obtain⟨i,rfl,q⟩:=q1;obtain⟨t,rfl⟩:=r1;exact⟨some i,H1,I1,.int i t,q⟩
def FD(X:Cx)(r:V->Option Int->Option Int->Hp->VK->Prop):Prop:=
 ∀(pins:Zn)(s:Shared)(U:St)(H:Hp) (x:V)(v vl vu:Value)(lo hi:Option Int)(sl:Addr)(Q:VK),Inv X pins U H s->RelV x v->s.heap.IsSliceOf sl vl vu .none->IsPart vl lo->IsPart vu hi->r x lo hi H Q->
  ∃T id,typeLookup (.type T) "__getitem__"=pure (some (.builtin id))/\s.TypeIs v T/\wpAny (model X.prog X.w) X.A (getItem v (.ref sl)) (EP X pins U Q) X.xe s
def UE(r:V->Option Int->Option Int->Hp->VK->Prop)(te:TE)(tl th:TO):TE:=λU H Q=>te U H λx H1=>tl U H1 λl H2=>th U H2 λu H3=>r x l u H3 Q
def KC{r:V->Option Int->Option Int->Hp->VK->Prop}(hr:FD X r)(he:PE X e te)(hl:PO X lo tl)(hu:PO X hi th):PE X (.Subscript e (.Slice lo hi none p2) pos) (UE r te tl th):=by intro pins s U H Q I h;refine Subscript_ (aT (he pins s U H _ I h) λv s1 ⟨x,H1,I1,r1,q1⟩=>?_);refine wpAny_Slice (aT (hl pins s1 U H1 _ I1 q1) λvl s2 ⟨l,H2,I2,pl,q2⟩=>aT (hu pins s2 U H2 _ I2 q2) λvu s3 ⟨u,H3,I3,pu,q3⟩=>?_);rw[evalPart_none];refine V2 ?_;have I4:Inv X pins U H3 { s3 with heap:=s3.heap.push { cls:=.type "slice",data:=.fields #[vl,vu,.none] } }:=I3.kept (t':=s3.toks) λb ob q=>VM _ q;obtain⟨T,id,hT,ht,hg⟩:=hr pins { s3 with heap:=s3.heap.push { cls:=.type "slice",data:=.fields #[vl,vu,.none] } } U H3 x v vl vu l u s3.heap.objs.size Q I4 r1 (Heap.IsSliceOf.new ..) pl pu q3;show wpAny (model X.prog X.w) X.A (subscriptTail e (.Slice lo hi none p2) v (.ref s3.heap.objs.size)) (EP X pins U Q) X.xe { s3 with heap:=s3.heap.push { cls:=.type "slice",data:=.fields #[vl,vu,.none] } };exact tail_any (ops:=[.ref s3.heap.objs.size,v]) ht hT hg (by with_unfolding_all rfl)
def pS(xs:List V)(lo hi:Option Int):List V:=(xs.drop (HT.aU xs.length 0 lo)).take (HT.aU xs.length xs.length hi-HT.aU xs.length 0 lo)
def sN(xs:List V)(lo hi:Option Int):(pS xs lo hi).length<=xs.length:=by unfold pS;rw[WK,Xo];exact VS (Z8 _ _) (Nat.sub_le _ _)
def Um(K:Zt):V->Option Int->Option Int->Hp->VK->Prop:=λx lo hi H Q=>∃a xs,x=.ref a/\cG K H a xs /\
 ¬(HT.aU xs.length 0 lo=0/\HT.aU xs.length xs.length hi=xs.length)/\∀p,H p=none->Q (.ref p) (upd H p (.tup (pS xs lo hi)))
def RB:FD X (Um X.K):=by
 intro pins s U H x v vl vu lo hi sl Q I rx hs pl pu h;obtain⟨a,xs,rfl,hx,hw,q⟩:=h;cases rx;obtain⟨its,r,ht,hz⟩:=I.tuple hx;have hlen:its.toArray.size=xs.length:=by rw[VO];exact r.length.symm
 refine⟨"tuple",_,Zf,ht.typeIs,?_⟩;refine HT.su ht hs pl pu (by rw[hlen];exact hw) ?_ (by rw[hlen];exact hz);rw[hlen];refine⟨.ref s.heap.objs.size,_,I.laid (t':=s.toks) (o:=.tup (pS xs lo hi)) (λb ob q=>VM _ q) (V3 _) ?_,rfl,q _ (I.hok.fresh (V3 _))⟩;exact⟨VS (sN xs lo hi) hz,_,(r.drop (HT.aU xs.length 0 lo)).take (HT.aU xs.length xs.length hi-HT.aU xs.length 0 lo),IsTup.new _ _⟩
def LU(K:Zt):R2:=λx y H Q=>∃a b xs ys,x=.ref a/\y=.ref b/\cG K H a xs/\cG K H b ys/\xs≠[]/\xs.length+ys.length<=sizeLine /\
 (ys=[]->Q (.ref a) H)/\(ys≠[]->∀p,H p=none->Q (.ref p) (upd H p (.tup (xs++ys))))
def Vals.wz{xs:List V}{us:Zy}(r:Vals xs us):us=[]↔xs=[]:=by
 cases r with
 |nil=>simp
 |cons _ _=>simp
def NR:b5 X (binaryOp .Add) (LU X.K):=by intro pins s U H x y v u Q I rx ry h;obtain⟨a,b,xs,ys,rfl,rfl,ha,hb,hx,hz,q1,q2⟩:=h;cases rx;cases ry;obtain⟨its,r1,p1,_⟩:=I.tuple ha;obtain⟨its2,r2,p2,_⟩:=I.tuple hb;refine HT.NF p1 p2 (λz=>hx (r1.wz.mp z)) (λz=>⟨.ref a,H,I,rfl,q1 (r2.wz.mp z)⟩) (λz=>?_) (by rw[<-r1.length,<-r2.length];exact hz);refine⟨.ref s.heap.objs.size,_,I.laid (t':=s.toks) (o:=.tup (xs++ys)) (λb ob q=>VM _ q) (V3 _) ?_,rfl,q2 (λw=>z (r2.wz.mpr w)) _ (I.hok.fresh (V3 _))⟩;exact⟨by rw[VD];exact hz,_,r1.append r2,IsTup.new _ _⟩
end
def oA(n:Nat) (i:Int):Option Nat:=if 0<=i then(if i<n then some i.toNat else none)else if-(n:Int)<=i then some (i+n).toNat else none
def eZ{α:Type}(xs:List α) (i:Int):Option α:=(oA xs.length i).bind λj=>xs[j]?
def CM{n:Nat}{i:Int}{j:Nat}(h:oA n i=some j):seqIndex? i n=some j/\j<n/\-(n:Int)<=i/\i<n:=by unfold oA at h;by_cases h0:0<=i;{rw[if_pos h0]at h;by_cases h1:i<n;{rw[if_pos h1]at h;have e:i.toNat=j:=Option.some.inj h;exact⟨by rw[seqIndex_of h0 h1,e],by lia,by lia,h1⟩};rw[if_neg h1]at h;cases h};rw[if_neg h0]at h;by_cases h1:-(n:Int)<=i;{rw[if_pos h1]at h;have e:(i+n).toNat=j:=Option.some.inj h;exact⟨by rw[seqIndex_neg (by lia) h1,e],by lia,h1,by lia⟩};rw[if_neg h1]at h;cases h
def v9{α:Type}{xs:List α}{i:Int}{v:α}(h:eZ xs i=some v):∃j,seqIndex? i xs.length=some j/\xs[j]?=some v/\j<xs.length/\-(xs.length:Int)<=i/\i<xs.length:=by
 unfold eZ at h;cases e:oA xs.length i with
 |none=>rw[e]at h;cases h
 |some j=>rw[e]at h;obtain⟨h1,h2,h3,h4⟩:=CM e;exact⟨j,h1,h,h2,h3,h4⟩
def oN(b:Expr):Prop:=∀o i,subscripted b false o i=operate [o,i] (getItem o i)
def qk(X:Cx)(r:R2):Prop:=
 ∀(value slice:Expr)(pins:Zn)(s:Shared)(U:St)(H:Hp) (x y:V)(v u:Value)(Q:VK),Inv X pins U H s->RelV x v->RelV y u->r x y H Q->
  subscripted slice false v u=operate [v,u] (getItem v u)->wpAny (model X.prog X.w) X.A (subscriptTail value slice v u) (EP X pins U Q) X.xe s
def TJ(X:Cx)(id:String)(r:V->List V->Hp->VK->Prop):Prop:=
 ∀(pins:Zn)(s:Shared)(U:St)(H:Hp) (x:V)(xs:List V)(v:Value)(us:Zy)(Q:VK),Inv X pins U H s->RelV x v->Vals xs us->r x xs H Q->
  wpAny (model X.prog X.w) X.A (call (.builtin id) (v::us)) (EP X pins U Q) X.xe s
section
variable{X:Cx}{a b:Expr}{ta tb:TE}{pos:Pos}
def qk.or{r r':R2}(h:qk X r)(h':qk X r'):qk X (λx y H Q=>r x y H Q\/r' x y H Q):=by intro value slice pins s U H x y v u Q I rx ry q hs;rcases q with q|q;{exact h value slice pins s U H x y v u Q I rx ry q hs};exact h' value slice pins s U H x y v u Q I rx ry q hs
def Lb{r:R2}(hr:qk X r)(ha:PE X a ta)(hb:PE X b tb)(hs:oN b):PE X (.Subscript a b pos) (OZ r ta tb):=by intro pins s U H Q I h;exact Subscript_ (JL ha hb I h λv u s2 x y H2 I2 rx ry q=>hr a b pins s2 U H2 x y v u Q I2 rx ry q (hs _ _))
inductive La(K:Zt) (x:V) (y:V)(H:Hp)(Q:VK):Prop
 |mk:∀p xs i v,(x=.ref p)->(y=.int i)->(cz K H p xs)->(eZ xs i=some v)->(Q v H)->La K x y H Q
def Pk(K:Zt):R2:=λx y H Q=>La K x y H Q
inductive Ld(K:Zt) (x:V) (y:V)(H:Hp)(Q:VK):Prop
 |mk:∀p xs i v,(x=.ref p)->(y=.int i)->(cG K H p xs)->(eZ xs i=some v)->(Q v H)->Ld K x y H Q
def Oi(K:Zt):R2:=λx y H Q=>Ld K x y H Q
inductive Lv(x:V) (y:V)(H:Hp)(Q:VK):Prop
 |mk:∀z i c,(x=.str z)->(y=.int i)->(z.length<=sizeLine)->(eZ z.cps.toList i=some c)->(Q (.str ⟨#[c]⟩) H)->Lv x y H Q
def Oh:R2:=λx y H Q=>Lv x y H Q
def L4:qk X (Pk X.K):=by
 intro value slice pins s U H x y v u Q I rx ry h hs;obtain⟨p,xs,i,z,rfl,rfl,hq,he,q⟩:=h;cases rx;obtain⟨t,rfl⟩:=ry;obtain⟨its,r,pl,hz⟩:=I.list hq;obtain⟨j,h1,h2,h3,h4,h5⟩:=v9 he;obtain⟨w,ew,rw'⟩:=r.get h2;have hl:=r.length;have hn:=pA;have fin:EP X pins U Q w s:=⟨z,H,I,rw',q⟩;by_cases h0:0<=i
 .have hj:i.toNat=j:=by rw[seqIndex_of h0 h5]at h1;exact Option.some.inj h1
  exact item_listR pl.isList h0 (by lia) (by rw[hj];simpa using ew) fin hs
 have hj:(i+(its.toArray.size:Int)).toNat=j:=by rw[seqIndex_neg (by lia) h4]at h1;rw[VO,<-hl];exact Option.some.inj h1
 exact subscriptTail_builtinR (x:=w) pl.isList.typeIs slot_list_getitem.lookup
  (wpAny_getItem_list_neg (Q:=λr s'=>r=w/\EP X pins U Q r s') pl.isList (by lia) (by rw[VO]<;>lia) (by lia) (by rw[hj];simpa using ew) ⟨rfl,fin⟩) hs
def QT:qk X (Oi X.K):=by
 intro value slice pins s U H x y v u Q I rx ry h hs;obtain⟨p,xs,i,z,rfl,rfl,hq,he,q⟩:=h;cases rx;obtain⟨t,rfl⟩:=ry;obtain⟨its,r,pl,hz⟩:=I.tuple hq;obtain⟨j,h1,h2,h3,h4,h5⟩:=v9 he;obtain⟨w,ew,rw'⟩:=r.get h2;have hl:=r.length;have hn:=pA;have fin:EP X pins U Q w s:=⟨z,H,I,rw',q⟩;exact subscriptTail_builtinR (x:=w) pl.typeIs slot_tuple_getitem.lookup
  (getItem_tuple (j:=j) (Q:=λr s'=>r=w/\EP X pins U Q r s') pl (by lia) (by lia) (by rw[VO,<-hl];exact h1) (by simpa using ew) ⟨rfl,fin⟩) hs
def Ry:qk X Oh:=by
 intro value slice pins s U H x y v u Q I rx ry h hs;obtain⟨z,i,c,rfl,rfl,hz,he,q⟩:=h;obtain⟨t,rfl⟩:=rx;obtain⟨t',rfl⟩:=ry;obtain⟨j,h1,h2,h3,h4,h5⟩:=v9 he;have hl:z.cps.toList.length=z.length:=by simp[Str.length]
 rw[hl]at h1 h4 h5;have hn:=pA;exact tail_any (typeIs_str s z t) slot_str_getitem.lookup (getItem_str (c:=c) (by
  have e1:decide (i < -(2^63:Int))=false:=W4 (by lia)
  have e2:decide (i >= 2^63)=false:=W4 (by lia)
  rw[e1,e2,Bool.or_false]) (by rw[h1];simpa using h2) ⟨.str ⟨#[c]⟩,H,I.tok _,⟨_,rfl⟩,q⟩) hs
def QD(K:Zt):R2:=λx y H Q=>Pk K x y H Q\/Oi K x y H Q\/Oh x y H Q
def IS:qk X (QD X.K):=L4.or (QT.or Ry)
def EL(its:Zy) (n j:Nat)(u:Value):Obj.mapSeq (·.setIfInBounds j u) { cls:=.type "list",data:=.seq its.toArray n }={ cls:=.type "list",data:=.seq (its.set j u).toArray n }:=by simp[Obj.mapSeq]
theorem Inv.lst{pins:Zn}{U:St}{H:Hp}{s:Shared}{p:Addr}{xs:List V}(I:Inv X pins U H s)(h:H p=some (.lst xs)) : ∃(its:Zy) (n:Nat),Vals xs its/\s.heap.get? p=some { cls:=.type "list",data:=.seq its.toArray n }/\xs.length<=sizeLine:=by obtain⟨z,its,n,r,e⟩:=I.hok p _ h;exact⟨its,n,r,e,z⟩
def Inv.Rm{pins:Zn}{U:St}{H:Hp}{s:Shared}{p:Addr}{xs ys:List V}{its its':Zy}{n n':Nat}{f:Obj->Obj}(I:Inv X pins U H s)(h:H p=some (.lst xs))(ho:s.heap.get? p=some { cls:=.type "list",data:=.seq its.toArray n })(hf:f { cls:=.type "list",data:=.seq its.toArray n }={ cls:=.type "list",data:=.seq its'.toArray n' })(r:Vals ys its')(hz:ys.length<=sizeLine) (t:Nat) : Inv X pins U (upd H p (.lst ys)) { s with heap:=s.heap.update p f,toks:=t }:=by
 have e:(s.heap.update p f).get? p=some { cls:=.type "list",data:=.seq its'.toArray n' }:=by rw[Wa f ho (by rw[hf]<;>rfl),hf]
 refine I.write (x:=p) (e:=p) (by rw[h];trivial) (.inl rfl) (λb u hb q=>(WD _ _ (Ne.symm hb)).trans q) ⟨_,e⟩ ?_;exact⟨hz,its',n',r,e⟩
inductive HC(o:V) (i:V) (v:V)(H:Hp)(Q:(Hp->Prop)):Prop
 |mk:∀p xs k j,(o=.ref p)->(i=.int k)->(H p=some (.lst xs))->(oA xs.length k=some j)->(Q (upd H p (.lst (xs.set j v))))->HC o i v H Q
def K4:V->V->V->Hp->(Hp->Prop)->Prop:=λo i v H Q=>HC o i v H Q
def set_list:Jm X K4:=by
 intro pins s U H o i v ov iv u Q I ro ri rv h;obtain⟨p,xs,k,j,rfl,rfl,hp,hj,q⟩:=h;cases ro;obtain⟨t,rfl⟩:=ri;obtain⟨its,n,r,ho,hz⟩:=I.lst hp;obtain⟨h1,h2,h3,h4⟩:=CM hj;have hl:=r.length;have hn:=pA;have I':Inv X pins U (upd H p (.lst (xs.set j v))) { s with heap:=s.heap.update p (Obj.mapSeq (·.setIfInBounds j u)) }:=
  I.Rm hp ho (EL its n j u) (r.set rv j) (by rw[Vs];exact hz) s.toks
 by_cases h0:0<=k
 .have hk:k.toNat=j:=by rw[seqIndex_of h0 h4]at h1;exact Option.some.inj h1
  exact PySem.W.ki_setAt ho h0 (by lia) (by rw[VO,<-hl];exact h4) (by rw[hk];exact⟨_,I',q⟩)
 have hk:(k+(its.toArray.size:Int)).toNat=j:=by rw[seqIndex_neg (by lia) h3]at h1;rw[VO,<-hl];exact Option.some.inj h1
 exact PySem.W.ki_setBack ho (by lia) (by rw[VO,<-hl];exact h3) (by lia) (by rw[hk];exact⟨_,I',q⟩)
def zG(lo hi:Option Int) (n:Nat):(sliceBounds lo hi none n).1=((HT.aU n 0 lo:Nat):Int)/\(sliceBounds lo hi none n).2.1=((HT.aU n n hi:Nat):Int)/\(sliceBounds lo hi none n).2.2=1:=by
 have one:∀i:Int,(sliceBounds (some i) none none n).1=((HT.aU n 0 (some i):Nat):Int):=λi=>by simp only[sliceBounds,HT.aU,Option.getD_none,show(1:Int)>0 by decide,if_true];by_cases h:i<0;{simp only[h,if_true]<;>lia};simp only[h,WZ]<;>lia
 refine⟨?_,?_,rfl⟩
 .cases lo with
  |none=>simp[sliceBounds,HT.aU]
  |some i=>exact one i
 cases hi with
 |none=>simp[sliceBounds,HT.aU]
 |some i=>exact one i
def yM(its:Zy)(lo hi:Option Int):slicePick its.toArray lo hi none=((its.drop (HT.aU its.length 0 lo)).take (HT.aU its.length its.length hi-HT.aU its.length 0 lo)).toArray:=by obtain⟨h1,h2,h3⟩:=zG lo hi its.toArray.size;unfold slicePick;rw[h1,h2,h3];simp only[sliceRange_one,pick_run,VO]<;>rfl
inductive KQ(K:Zt) (x:V)(lo:Option Int)(hi:Option Int)(H:Hp)(Q:VK):Prop
 |mk:∀a xs,(x=.ref a)->(cz K H a xs)->(∀p,H p=none->Q (.ref p) (upd H p (.lst (pS xs lo hi))))->KQ K x lo hi H Q
def OQ(K:Zt):V->Option Int->Option Int->Hp->VK->Prop:=λx lo hi H Q=>KQ K x lo hi H Q
def NU:FD X (OQ X.K):=by intro pins s U H x v vl vu lo hi sl Q I rx hs pl pu h;obtain⟨a,xs,rfl,hx,q⟩:=h;cases rx;obtain⟨its,r,ht,hz⟩:=I.list hx;have hlen:=r.length;refine⟨"list",_,slot_list_getitem.lookup,ht.isList.typeIs,?_⟩;refine wpAny_getItem_list_slice ht.isList hs pl pu .none (by simp) ?_ (by rw[VO]<;>lia);rw[yM,<-hlen];refine⟨.ref s.heap.objs.size,_,I.laid (t':=s.toks) (o:=.lst (pS xs lo hi)) (λb ob q=>VM _ q) (V3 _) ?_,rfl,q _ (I.hok.fresh (V3 _))⟩;exact⟨VS (sN xs lo hi) hz,_,0,(r.drop (HT.aU xs.length 0 lo)).take (HT.aU xs.length xs.length hi-HT.aU xs.length 0 lo),Vj _ rfl⟩
def Aa:cu X (.builtin "len") (λxs H Q=>∃p ys,xs=[.ref p]/\(cz X.K H p ys\/cG X.K H p ys)/\Q (.int ys.length) H):=by intro pins s U H xs us Q I r h;obtain⟨p,ys,rfl,hq,q⟩:=h;obtain⟨u,rfl,rx⟩:=vals1 r;cases rx;have hn:=pA;rcases hq with hq|hq;{obtain⟨its,r',pl,hz⟩:=I.list hq;have hlen:=r'.length;exact Calls.call_len_list pl.isList (by simp only[VO]<;>lia) ⟨.int ys.length,H,I.tok _,⟨s.toks+1,by rw[VO,hlen]⟩,q⟩};obtain⟨its,r',pl,hz⟩:=I.tuple hq;have hlen:=r'.length;exact len_tuple pl (by simp only[VO]<;>lia) ⟨.int ys.length,H,I.tok _,⟨s.toks+1,by rw[VO,hlen]⟩,q⟩
def cu.or{f:Value}{r r':List V->Hp->VK->Prop}(h:cu X f r)(h':cu X f r'):cu X f (λxs H Q=>r xs H Q\/r' xs H Q):=by intro pins s U H xs us Q I rs q;rcases q with q|q;{exact h pins s U H xs us Q I rs q};exact h' pins s U H xs us Q I rs q
def Ax:cu X (.type "list") (λxs H Q=>∃p ys,xs=[.ref p]/\(cz X.K H p ys\/cG X.K H p ys)/\∀l,H l=none->Q (.ref l) (upd H l (.lst ys))):=by
 intro pins s U H xs us Q I r h;obtain⟨p,ys,rfl,hq,q⟩:=h;obtain⟨u,rfl,rx⟩:=vals1 r;cases rx;have fin:∀(its:Zy),Vals ys its->ys.length<=sizeLine->∀(h':Heap) (c':Nat),(∀b o',s.heap.get? b=some o'->h'.get? b=some o')->
   h'.get? s.heap.objs.size=some { cls:=.type "list",dict:=none,data:=.seq its.toArray c',slots:=#[] }->EP X pins U Q (.ref s.heap.objs.size) { s with heap:=h' }:=λits r' hz h' c' kp e=>
  ⟨.ref s.heap.objs.size,_,I.laid (t':=s.toks) kp (V3 _) (show b6 X.prog X.w _ h' _ (.lst ys)from⟨hz,its,c',r',e⟩),rfl,q _ (I.hok.fresh (V3 _))⟩
 rcases hq with hq|hq;{obtain⟨its,r',pl,hz⟩:=I.list hq;have hlen:=r'.length;obtain⟨o,ho,hc,n,hd⟩:=pl.isList;exact call_list_seq p (.inl rfl) ho hc hd (λh' c' kp e=>fin its r' hz h' c' kp e) (by simp only[VO]<;>lia)};obtain⟨its,r',pl,hz⟩:=I.tuple hq;have hlen:=r'.length;obtain⟨o,ho,hc,n,hd⟩:=pl;exact call_list_seq p (.inr rfl) ho hc hd (λh' c' kp e=>fin its r' hz h' c' kp e) (by simp only[VO]<;>lia)
def yS:cu X (.type "tuple") (λxs H Q=>∃p ys,xs=[.ref p]/\((cz X.K H p ys/\∀l,H l=none->Q (.ref l) (upd H l (.tup ys)))\/(cG X.K H p ys/\Q (.ref p) H))):=by
 intro pins s U H xs us Q I r h;obtain⟨p,ys,rfl,h⟩:=h;obtain⟨u,rfl,rx⟩:=vals1 r;cases rx;rcases h with⟨hq,q⟩|⟨hq,q⟩
 .obtain⟨its,r',pl,hz⟩:=I.list hq;have hlen:=r'.length;refine call_tuple_list pl.isList (λh' kp=>?_) (by simp only[VO]<;>lia);have I1:Inv X pins U H { s with heap:=h' }:=I.kept (t':=s.toks) kp;have I2:Inv X pins U (upd H h'.objs.size (.tup ys)) { s with heap:=h'.push { cls:=.type "tuple",data:=.seq its.toArray } }:=
   I1.laid (t':=s.toks) (λb o e=>VM _ e) (V3 _) (show b6 X.prog X.w _ _ _ (.tup ys)from⟨hz,its,r',IsTup.new _ _⟩)
  exact⟨.ref h'.objs.size,_,I2,rfl,q _ (I1.hok.fresh (V3 _))⟩
 obtain⟨its,r',pl,hz⟩:=I.tuple hq;exact call_tuple_same pl ⟨.ref p,H,I,rfl,q⟩
def Pq(K:Zt)(T:String) (x:V)(H:Hp):Prop:=match x with
 |.str _=>T="str"
 |.int _=>T="int"
 |.ref p=>(T="list"/\∃xs,cz K H p xs)\/(T="tuple"/\∃o,K.lookup p=some o/\o.cls=.type "tuple"/\o.dict=none) \/
   (T="dict"/\((∃kvs,H p=some (.dK kvs))\/∃kvs,H p=some (.dT kvs)))\/(T="set"/\∃S n,H p=some (.set S n))
 |_=>False
def II{pins:Zn}{U:St}{H:Hp}{s:Shared}{T:String}{x:V}{v:Value}(I:Inv X pins U H s)(r:RelV x v)(ty:Pq X.K T x H) : s.TypeIs v T/\∀a,v=.ref a->∃ob,s.heap.get? a=some ob/\ob.dict=none:=by
 cases x with
 |str z=>obtain⟨t,rfl⟩:=r;cases (show T="str" from ty);exact⟨typeIs_str s z t,λ_ e=>nomatch e⟩
 |int i=>obtain⟨t,rfl⟩:=r;cases (show T="int" from ty);exact⟨typeIs_int s i t,λ_ e=>nomatch e⟩
 |ref p=>
  cases r;rcases ty with⟨rfl,xs,hq⟩|⟨rfl,o,hk,hc,hd⟩|⟨rfl,hk⟩|⟨rfl,S,n,hk⟩;{obtain⟨its,_,pl,_⟩:=I.list hq;refine⟨pl.isList.typeIs,λa e=>?_⟩;cases e;obtain⟨o,n,e,c,hd,_⟩:=pl;exact⟨o,e,hd⟩};{refine⟨⟨o,I.f9 p o hk,hc⟩,λa e=>?_⟩;cases e;exact⟨o,I.f9 _ o hk,hd⟩}
  .have z:∃o,s.heap.get? p=some o/\o.ExactDict:=by rcases hk with⟨kvs,hk⟩|⟨kvs,hk⟩;{obtain⟨_,_,_,_,o,_,_,e,ex,_⟩:=I.hok p _ hk;exact⟨o,e,ex⟩};obtain⟨_,_,_,_,o,_,_,e,ex,_⟩:=I.hok p _ hk;exact⟨o,e,ex⟩
   obtain⟨o,e,ex⟩:=z;refine⟨⟨o,e,ex.1⟩,λa e2=>?_⟩;cases e2;exact⟨o,e,ex.2.1⟩
  obtain⟨o,_,_,_,e,ex,_⟩:=I.hok p _ hk;refine⟨⟨o,e,ex.1⟩,λa e2=>?_⟩;cases e2;exact⟨o,e,ex.2.1⟩
 |_=>exact False.elim ty
def T9(K:Zt)(T:String)(r:V->List V->Hp->VK->Prop)(to:TE):TE:=λU H Q=>to U H λx H1=>Pq K T x H1/\r x [] H1 Q
def UU(K:Zt)(T:String)(r:V->List V->Hp->VK->Prop)(to:TE)(t:TA):TE:=λU H Q=>to U H λx H1=>Pq K T x H1/\t U H1 λxs H2=>r x xs H2 Q
variable{o e:Expr}{es:A01}{to:TE}{t:TA}{name:Str}{apos cpos:Pos}{T id:String}{r:V->List V->Hp->VK->Prop}
def Ol(pa:PlainAttrs T)(slot:Slot T name id)(hty:typeOf (.builtin id)=pure (.type "method_descriptor"))(hm:TJ X id r)(ho:PE X o to)(hbase:attributeBase o name X.env (eval o X.env)=eval o X.env:=by rfl)(hline:(apos.endLine==cpos.line)=true:=by rfl):PE X (.Call (.Attribute o name apos) [] [] cpos) (T9 X.K T r to):=by intro pins s U H Q I h;refine wpAny_Call_method0_late hbase hline (aT (ho pins s U H _ I h) λv s1 ⟨x,H1,I1,r1,ty,q1⟩=>?_);obtain⟨h1,h2⟩:=II I1 r1 ty;exact⟨T,id,pa,slot,hty,h1,h2,Calls.callWith_builtin rfl (PySem.evalArgs_none (hm pins s1 U H1 x [] v [] Q I1 r1 .nil q1))⟩
def K2(pa:PlainAttrs T)(slot:Slot T name id)(hty:typeOf (.builtin id)=pure (.type "method_descriptor"))(hm:TJ X id r)(ho:PE X o to)(ha:PA X (e::es) t)(hbase:attributeBase o name X.env (eval o X.env)=eval o X.env:=by rfl)(hfew:((backTo cpos (starEach (e::es) X.env)).all (λx=>!x.1)&&(backToKw cpos (keywordEach [] X.env)).all (λx=>x.1.isSome) && decide ((e::es).length+([]:List Keyword).length+(if([]:List Keyword).isEmpty then 0 else 1)<30))=true:=by rfl)(hline:(apos.endLine==cpos.line)=true:=by rfl)(hs:starEach (e::es) X.env=(false,eval e X.env)::starEach es X.env:=by rfl)(hplain:(backTo cpos (starEach es X.env)).any (·.1)=false:=by rfl) : PE X (.Call (.Attribute o name apos) (e::es) [] cpos) (UU X.K T r to t):=by intro pins s U H Q I h;refine wpAny_Call_method_late hbase hfew hline rfl (aT (ho pins s U H _ I h) λv s1 ⟨x,H1,I1,r1,ty,q1⟩=>?_);obtain⟨h1,h2⟩:=II I1 r1 ty;refine⟨T,id,pa,slot,hty,h1,h2,?_⟩;have hA:=ha cpos pins s1 U H1 _ I1 q1;rw[hs]at hA⊢;refine Calls.callWith_builtin (by show(false||(backTo cpos (starEach es X.env)).any (·.1))=false;rw[hplain]<;>rfl) (Calls.evalArgs_plain ?_);exact aT hA λus s2 ⟨vs,H2,I2,r2,q2⟩=>hm pins s2 U H2 x vs v us Q I2 r1 r2 q2
end
def yu(X:Cx)(id:String)(r:V->List V->Hp->VK->Prop):Prop:=
 ∀(pins:Zn)(s:Shared)(U:St)(H:Hp) (x:V)(xs:List V)(v:Value)(us:Zy)(Q:VK),Inv X pins U H s->RelV x v->Vals xs us->r x xs H Q->
  wpAny (model X.prog X.w) X.A (call (.builtin id) (v::us)) (EP X pins U Q) X.xe s
def Vals.one{x:V}{us:Zy}(h:Vals [x] us):∃u,us=[u]/\RelV x u:=by cases h with|cons r t=>cases t;exact⟨_,rfl,r⟩
def Vals.two{x y:V}{us:Zy}(h:Vals [x,y] us):∃u v,us=[u,v]/\RelV x u/\RelV y v:=by cases h with|cons r t=>cases t with|cons q t=>cases t;exact⟨_,_,rfl,r,q⟩
def Vals.zero:∀{us:Zy},Vals [] us->us=[]
 |_,.nil=>rfl
theorem Vals.dropLast{xs:List V}{us:Zy}(h:Vals xs us):Vals xs.dropLast us.dropLast:=by
 induction h with
 |nil=>exact .nil
 |cons r t ih=>
  cases t with
  |nil=>exact .nil
  |cons q t'=>exact .cons r ih
theorem Vals.eraseIdx:∀{xs:List V}{us:Zy} (i:Nat),Vals xs us->Vals (xs.eraseIdx i) (us.eraseIdx i)
 |_,_,_,.nil=>.nil
 |_,_,0,.cons _ t=>t
 |_,_,i+1,.cons r t=>.cons r (Vals.eraseIdx i t)
theorem Vals.rep{xs:List V}{us:Zy}(h:Vals xs us):∀k:Nat,Vals (List.replicate k xs).flatten (List.replicate k us).flatten
 |0=>.nil
 |k+1=>by rw[XR,XR,Wb,Wb];exact Vals.append h (Vals.rep h k)
def EI{α:Type}(l:List α):l.eraseIdx (l.length-1)=l.dropLast:=by
 induction l with
 |nil=>rfl
 |cons a r ih=>
  cases r with
  |nil=>rfl
  |cons b r=>
   have e:(a::b::r).length-1=((b::r).length-1)+1:=by have h1:(a::b::r).length=r.length+2:=rfl;have h2:(b::r).length=r.length+1:=rfl;lia
   rw[e,YZ,ih];all_goals rfl
theorem xQ{α:Type}:∀(l:List α) (i:Nat),(l.eraseIdx i).length<=l.length
 |[],_=>V3 _
 |_::_,0=>Y9 _
 |_::r,i+1=>Nat.succ_le_succ (xQ r i)
theorem foldl_rep(its:Zy):∀(k:Nat)(acc:Zy), List.foldl (λx1 x2=>x1++x2) acc.toArray (List.replicate k its.toArray)=(acc++(List.replicate k its).flatten).toArray
 |0,acc=>by simp
 |k+1,acc=>by
  have e:acc.toArray++its.toArray=(acc++its).toArray:=by simp
  have e2:(acc++its)++(List.replicate k its).flatten=acc++(List.replicate (k+1) its).flatten:=by rw[XR,Wb,W5]
  rw[<-e2,<-foldl_rep its k (acc++its),<-e,XR,Yb]
section
variable{X:Cx}{pins:Zn}{U:St}{H:Hp}{s:Shared}{l b:Addr}{xs ys zs:List V}
def Inv.E8{its its':Zy}{n:Nat}{f:Zv->Zv}{t':Nat}(I:Inv X pins U H s)(hH:H l=some (.lst xs))(e:s.heap.get? l=some { cls:=.type "list",data:=.seq its.toArray n })(hf:f its.toArray=its'.toArray)(hv:Vals ys its')(hz:ys.length<=sizeLine) : Inv X pins U (upd H l (.lst ys)) { s with heap:=s.heap.update l (Obj.mapSeq f),toks:=t' }:=by have q:=PySem.IsL.update e f;rw[hf]at q;refine I.write (x:=l) (e:=l) (by rw[hH];exact trivial) (.inl rfl) (λb' u hb hu=>(WD s.heap (Obj.mapSeq f) (Ne.symm hb)).trans hu) ⟨_,q⟩ ?_;exact⟨hz,its',_,hv,q⟩
def Inv.Rr{its:Zy}{t':Nat}(I:Inv X pins U H s)(hv:Vals ys its)(hz:ys.length<=sizeLine) : Inv X pins U (upd H s.heap.objs.size (.lst ys)) { s with heap:=s.heap.push { cls:=.type "list",data:=.seq its.toArray },toks:=t' }:=
 I.laid (λ_ _ q=>VM _ q) (V3 _) ⟨hz,its,0,hv,Vj _ rfl⟩
theorem Inv.fresh(I:Inv X pins U H s):H s.heap.objs.size=none:=I.hok.fresh (V3 _)
def Inv.EU(I:Inv X pins U H s)(hH:H l=some (.lst xs)):xs.length<=sizeLine/\∃(its:Zy) (n:Nat),Vals xs its/\xs.length=its.length/\s.heap.get? l=some { cls:=.type "list",data:=.seq its.toArray n }:=by obtain⟨z,its,n,r,e⟩:=I.hok l _ hH;exact⟨z,its,n,r,r.length,e⟩
def By{n:Nat}(h:n<=sizeLine):Builtin.List.listTooLong n=false:=by unfold Builtin.List.listTooLong;exact W4 (by lia)
end
section
variable{X:Cx}
def Dw:V->List V->Hp->VK->Prop:=λx vs H Q=>∃l xs y,x=.ref l/\vs=[y]/\H l=some (.lst xs)/\xs.length<sizeLine/\Q .bU (upd H l (.lst (xs++[y])))
def cW:yu X "list.append" Dw:=by intro pins s U H x vs v us Q I rx rv h;obtain⟨l,xs,y,rfl,rfl,hH,hz,q⟩:=h;cases rx;obtain⟨u,rfl,ru⟩:=rv.one;obtain⟨z,its,n,r,hl,e⟩:=I.EU hH;refine Xp F.slot_list_append ⟨_,e,rfl⟩ F.entry_list_append (F.args_list_append_2 _ _) (PySem.list_append l its.toArray n u (by rw[VO];lia)) ⟨e,?_⟩;refine⟨.bU,_,I.E8 (its':=its++[u]) hH e (by simp) (r.append (.cons ru .nil)) ?_,rfl,q⟩;rw[VD,Wc];lia
inductive Lq(x:V)(vs:List V)(H:Hp)(Q:VK):Prop
 |mk:∀l xs y,(x=.ref l)->(vs=[])->(H l=some (.lst xs))->(xs[xs.length-1]?=some y)->(Q y (upd H l (.lst xs.dropLast)))->Lq x vs H Q
def Kw:V->List V->Hp->VK->Prop:=λx vs H Q=>Lq x vs H Q
def OX:yu X "list.pop" Kw:=by
 intro pins s U H x vs v us Q I rx rv h;obtain⟨l,xs,y,rfl,rfl,hH,hy,q⟩:=h;cases rx;have hus:=rv.zero;subst hus;obtain⟨z,its,n,r,hl,e⟩:=I.EU hH;obtain⟨u,hu,ru⟩:=r.get hy;have hy':its.toArray[its.toArray.size-1]?=some u:=by show its.toArray[its.length-1]?=some u;rw[<-Vp,<-hl];exact hu
 refine Xp F.slot_list_pop ⟨_,e,rfl⟩ F.entry_list_pop (F.args_list_pop_1 _) (MeetsSeq.list_pop_last l its.toArray n u hy' (by rw[VO];lia)) ⟨e,?_⟩;refine⟨y,_,I.E8 (its':=its.dropLast) hH e ?_ r.dropLast ?_,ru,q⟩;{show its.toArray.eraseIdxIfInBounds (its.toArray.size-1)=its.dropLast.toArray;rw[VO,Zg,EI]};rw[List.length_dropLast];lia
inductive DF(x:V)(vs:List V)(H:Hp)(Q:VK):Prop
 |mk:∀l xs i k y,(x=.ref l)->(vs=[.int i])->(H l=some (.lst xs))->(-(2^63)<=i)->(i<2^63)->(seqIndex? i xs.length=some k)->(xs[k]?=some y)->(Q y (upd H l (.lst (xs.eraseIdx k))))->DF x vs H Q
def AN:V->List V->Hp->VK->Prop:=λx vs H Q=>DF x vs H Q
def JH:yu X "list.pop" AN:=by
 intro pins s U H x vs v us Q I rx rv h;obtain⟨l,xs,i,k,y,rfl,rfl,hH,h1,h2,hk,hy,q⟩:=h;cases rx;obtain⟨u,rfl,ru⟩:=rv.one;obtain⟨t,rfl⟩:=ru;obtain⟨z,its,n,r,hl,e⟩:=I.EU hH;obtain⟨w,hw,rw'⟩:=r.get hy;refine Xp F.slot_list_pop ⟨_,e,rfl⟩ F.entry_list_pop (F.args_list_pop_2 _ _)
  (MeetsSeq.list_pop_at l its.toArray n i t k w (fitsIndex_both h1 h2) (by rw[VO,<-hl];exact hk) (by rw[<-Vp];exact hw) (by rw[VO];lia)) ⟨e,?_⟩
 refine⟨y,_,I.E8 (its':=its.eraseIdx k) hH e ?_ (r.eraseIdx k) ?_,rw',q⟩;{show its.toArray.eraseIdxIfInBounds k=(its.eraseIdx k).toArray;rw[Zg]};have:=xQ xs k;lia
def len_rep{α:Type}(xs:List α) (k:Nat):(List.replicate k xs).flatten.length=k*xs.length:=by
 induction k with
 |zero=>simp
 |succ k ih=>rw[XR,Wb,VD,ih,Nat.succ_mul,Nat.add_comm]
end
section
variable{κ:Type} [DecidableEq κ]
def dD(kvs:List (κ×V))(k:κ):Option V:=(kvs.find? λkv=>decide (kv.1=k)).map (·.2)
def putK(kvs:List (κ×V))(k:κ) (v:V):List (κ×V):=
 if(kvs.any λkv=>decide (kv.1=k))=true then kvs.map (λkv=>if kv.1=k then(kv.1,v)else kv)else kvs++[(k,v)]
def uv{p:κ×V}{r:List (κ×V)}{k:κ}(e:p.1=k):dD (p::r) k=some p.2:=by simp[dD,X6,e]
def tH{p:κ×V}{r:List (κ×V)}{k:κ}(e:¬p.1=k):dD (p::r) k=dD r k:=by simp[dD,X6,e]
theorem Bu(k:κ):∀kvs:List (κ×V),(kvs.any λkv=>decide (kv.1=k))=(dD kvs k).isSome
 |[]=>rfl
 |p::r=>by rw[X7];by_cases e:p.1=k;{simp only[uv e,Ve e,Bool.true_or,Option.isSome_some]};rw[tH e,W4 e,Bool.false_or];exact Bu k r
def ni(kvs:List (κ×V))(k:κ) (v:V):(putK kvs k v).length<=kvs.length+1:=by unfold putK;split;{rw[V4];lia};rw[VD,VF,Yc];lia
def kM.ku{o:Option V}{u:Zu}(r:kM o u):o.isSome=u.isSome:=by
 cases o with
 |none=>cases u with
  |none=>rfl
  |some _=>exact(show False from r).elim
 |some _=>cases u with
  |none=>exact(show False from r).elim
  |some _=>rfl
def KV.val{kvs:List (κ×V)}{vs:List (κ×Value)}(r:KV kvs vs)(k:κ):kM (dD kvs k) (valueAt vs k):=by
 unfold KV at r;induction r with
 |nil=>exact WY
 |@cons p q ps qs h t ih=>
  obtain⟨h1,h2⟩:=h;by_cases e:p.1=k
  .have e':q.1=k:=h1.symm.trans e;have b:valueAt (q::qs) k=some q.2:=by simp[valueAt,X6,e']
   rw[uv e,b];exact h2
  have e':¬q.1=k:=λz=>e (h1.trans z);have b:valueAt (q::qs) k=valueAt qs k:=by simp[valueAt,X6,e']
  rw[tH e,b];exact ih
theorem KV.any{kvs:List (κ×V)}{vs:List (κ×Value)}(r:KV kvs vs)(k:κ):(kvs.any λkv=>decide (kv.1=k))=vs.any λkv=>decide (kv.1=k):=by
 unfold KV at r;induction r with
 |nil=>rfl
 |cons h t ih=>rw[X7,X7,ih,h.1]
def KV.repl{kvs:List (κ×V)}{vs:List (κ×Value)}(r:KV kvs vs)(k:κ){y:V}{u:Value}(ry:RelV y u) : KV (kvs.map λkv=>if kv.1=k then(kv.1,y)else kv) (vs.map λkv=>if kv.1=k then(kv.1,u)else kv):=by
 unfold KV at r⊢;induction r with
 |nil=>exact .nil
 |@cons p q ps qs h t ih=>rw[VH,VH];refine .cons ?_ ih;obtain⟨h1,h2⟩:=h;by_cases e:p.1=k;{rw[if_pos e,if_pos (h1.symm.trans e)];exact⟨h1,ry⟩};rw[if_neg e,if_neg (λz=>e (h1.trans z))];exact⟨h1,h2⟩
def KV.put{kvs:List (κ×V)}{vs:List (κ×Value)}(r:KV kvs vs)(k:κ){y:V}{u:Value}(ry:RelV y u):KV (putK kvs k y) (stored vs k u):=by unfold putK stored;rw[r.any k];by_cases e:(vs.any λkv=>decide (kv.1=k))=true;{rw[if_pos e,if_pos e];exact r.repl k ry};rw[if_neg e,if_neg e];exact Paired.snoc r ⟨rfl,ry⟩
theorem KV.length{kvs:List (κ×V)}{vs:List (κ×Value)}(r:KV kvs vs):kvs.length=vs.length:=Paired.length r
end
def sj{P:Program}{w:World}{k:Key}{u:Value}(r:RelV (kV k) u):(cU P w).is k u=true:=by
 cases k with
 |inl i=>obtain⟨t,e⟩:=(show ∃t,u=Value.int i t from r);subst e;exact B5 P w i t
 |inr x=>obtain⟨t,e⟩:=(show ∃t,u=Value.str x t from r);subst e;exact BU P w x t
theorem yl{P:Program}{w:World}:∀{ks:List Key}{us:Zy},Vals (ks.map kV) us->ItemsAre (cU P w) ks us
 |[],_,r=>by rw[Y8]at r;cases r;exact .nil
 |k::ks,_,r=>by
  rw[VH]at r;cases r with
  |cons h t=>exact .cons (sj h) (yl t)
abbrev KT(H:Hp):List (List Key×V)->List (List Key×Addr×Value)->Prop:=Paired λp q=>p.1=q.1/\H q.2.1=some (.tup (p.1.map kV))/\RelV p.2 q.2.2
def KT.val{H:Hp}{kvs:List (List Key×V)}{xs:List (List Key×Addr×Value)}(r:KT H kvs xs)(k:List Key):kM (dD kvs k) ((atKey xs k).map (·.2)):=by
 induction r with
 |nil=>exact WY
 |@cons p q ps qs h t ih=>
  obtain⟨h1,_,h2⟩:=h;by_cases e:p.1=k
  .have e':q.1=k:=h1.symm.trans e;have b:atKey (q::qs) k=some q.2:=by simp[atKey,X6,e']
   rw[uv e,b];exact h2
  have e':¬q.1=k:=λz=>e (h1.trans z);have b:atKey (q::qs) k=atKey qs k:=by simp[atKey,X6,e']
  rw[tH e,b];exact ih
def KT.repl{H:Hp}{kvs:List (List Key×V)}{xs:List (List Key×Addr×Value)}(r:KT H kvs xs)(k:List Key){y:V}{u:Value}(ry:RelV y u) : KT H (kvs.map λkv=>if kv.1=k then(kv.1,y)else kv) (xs.map (putAt k u)):=by
 induction r with
 |nil=>exact .nil
 |@cons p q ps qs h t ih=>rw[VH,VH];refine .cons ?_ ih;obtain⟨h1,h2,h3⟩:=h;unfold putAt;by_cases e:p.1=k;{rw[if_pos e,if_pos (h1.symm.trans e)];exact⟨h1,h2,ry⟩};rw[if_neg e,if_neg (λz=>e (h1.trans z))];exact⟨h1,h2,h3⟩
def KT.put{H:Hp}{kvs:List (List Key×V)}{xs:List (List Key×Addr×Value)}(r:KT H kvs xs)(k:List Key){b:Addr}{y:V}{u:Value}(hb:H b=some (.tup (k.map kV)))(ry:RelV y u) : KT H (putK kvs k y) (storedH xs k b u):=by
 have e:(kvs.any λkv=>decide (kv.1=k))=(atKey xs k).isSome:=by rw[Bu,(r.val k).ku,Z9]
 unfold putK storedH;rw[e];by_cases q:(atKey xs k).isSome=true;{rw[if_pos q,if_pos q];exact r.repl k ry};rw[if_neg q,if_neg q];exact Paired.snoc r ⟨rfl,hb,ry⟩
def KT.keeps{H H':Hp}{kvs:List (List Key×V)}{xs:List (List Key×Addr×Value)}(r:KT H kvs xs)(ht:∀b ys,H b=some (.tup ys)->H' b=some (.tup ys)):KT H' kvs xs:=
 Paired.Ji r λ_ _ z=>⟨z.1,ht _ _ z.2.1,z.2.2⟩
section
variable{P:Program}{w:World}{H:Hp}{h:Heap}{a:Addr}
def Lu{u:HO}(ok:dR P w H h)(e:Rd H a u):b6 P w H h a u:=e.ok ok
def rM{kvs:List (Key×V)}(ok:dR P w H h)(e:Rd H a (.dK kvs)):kvs.length<=sizeLine/\(a==sysModules)=false/\∃vs,KV kvs vs/\h.DictOf (cU P w) a vs:=
 show b6 P w H h a (.dK kvs)from Lu ok e
def K1{kvs:List (Key×V)}(ok:dR P w H h)(e:H a=some (.dK kvs)):kvs.length<=sizeLine/\(a==sysModules)=false/\∃vs,KV kvs vs/\h.DictOf (cU P w) a vs:=rM ok (.inl e)
def qz{ks:List Key}(ok:dR P w H h)(e:H a=some (.tup (ks.map kV))):(tupleKind (cU P w)).is h ks a:=by obtain⟨_,its,r,o,h1,h2,n,h3⟩:=(show b6 P w H h a (.tup (ks.map kV))from ok a _ e);exact⟨o,its.toArray,n,h1,h2,h3,by simpa using yl r⟩
def uP{kvs:List (List Key×V)}(ok:dR P w H h)(e:Rd H a (.dT kvs)):kvs.length<=sizeLine/\(a==sysModules)=false /\ ∃xs,KT H kvs xs/\h.DictOfH (tupleKind (cU P w)) a xs:=by
 obtain⟨z,y,xs,r,o,es,ep,h1,h2,h3,h4,h5⟩:=(show b6 P w H h a (.dT kvs)from Lu ok e);refine⟨z,y,xs,r,o,es,ep,h1,h2,h3,h4,λx hx=>?_,h5⟩;have all:∀{l:List (List Key×V)}{m:List (List Key×Addr×Value)},KT H l m->∀x∈m,(tupleKind (cU P w)).is h x.1 x.2.1:=by
  intro l m q;induction q with
  |nil=>intro x hx;exact nomatch hx
  |@cons p q ps qs hq t ih=>intro x hx;rcases V7.mp hx with e|hx;{subst e;exact qz ok (by rw[<-hq.1];exact hq.2.1)};exact ih x hx
 exact all r x hx
def Sg{kvs:List (List Key×V)}(ok:dR P w H h)(e:H a=some (.dT kvs)):kvs.length<=sizeLine/\(a==sysModules)=false /\ ∃xs,KT H kvs xs/\h.DictOfH (tupleKind (cU P w)) a xs:=uP ok (.inl e)
end
def jl(H:Hp)(a:Addr) (y:V)(r:Option V):Prop:=
 (∃kvs k,Rd H a (.dK kvs)/\y=kV k/\r=dD kvs k)\/∃kvs k b,Rd H a (.dT kvs)/\y=.ref b/\H b=some (.tup (k.map kV))/\r=dD kvs k
def qZ(H:Hp)(a:Addr) (y v:V)(H':Hp):Prop:=
 (∃kvs k,H a=some (.dK kvs)/\y=kV k/\kvs.length<sizeLine/\H'=upd H a (.dK (putK kvs k v))) \/
 ∃kvs k b,H a=some (.dT kvs)/\y=.ref b/\H b=some (.tup (k.map kV))/\kvs.length<sizeLine/\H'=upd H a (.dT (putK kvs k v))
theorem jl.k{H:Hp}{a:Addr}{kvs:List (Key×V)}{k:Key}(e:H a=some (.dK kvs)):jl H a (kV k) (dD kvs k):=.inl ⟨kvs,k,.inl e,rfl,rfl⟩
def jl.t{H:Hp}{a b:Addr}{kvs:List (List Key×V)}{k:List Key}(e:H a=some (.dT kvs))(eb:H b=some (.tup (k.map kV))):jl H a (.ref b) (dD kvs k):=.inr ⟨kvs,k,b,.inl e,rfl,eb,rfl⟩
theorem qZ.k{H:Hp}{a:Addr}{kvs:List (Key×V)}{k:Key}{v:V}(e:H a=some (.dK kvs))(hl:kvs.length<sizeLine):qZ H a (kV k) v (upd H a (.dK (putK kvs k v))):=.inl ⟨kvs,k,e,rfl,hl,rfl⟩
def qZ.t{H:Hp}{a b:Addr}{kvs:List (List Key×V)}{k:List Key}{v:V}(e:H a=some (.dT kvs))(eb:H b=some (.tup (k.map kV)))(hl:kvs.length<sizeLine) : qZ H a (.ref b) v (upd H a (.dT (putK kvs k v))):=.inr ⟨kvs,k,b,e,rfl,eb,hl,rfl⟩
section
variable{X:Cx}{pins:Zn}{U:St}{H:Hp}{s:Shared}{a:Addr}{y v:V}{u r:Value}{o:Option V}{A:Around}{E:Zk}
def Inv.big(I:Inv X pins U H s):sysModules<s.heap.objs.size:=by have h:mainGlobals<s.heap.objs.size:=(I.mod.glob.keeps I.bk).lt;exact Nat.lt_trans (by decide) h
def FJ{Q:Zk}(hu:A.units+1<cLine)(I:Inv X pins U H s)(g:jl H a y (some v))(ry:RelV y u)(h:∀w' s',Inv X pins U H s'->RelV v w'->Q w' s') : wpAny (model X.prog X.w) A (getItem (.ref a) u) Q E s:=by rcases g with⟨kvs,k,e,ey,l⟩|⟨kvs,k,b,e,ey,eb,l⟩;{subst ey;obtain⟨z,hd,vs,rel,dd⟩:=rM I.hok e;obtain⟨w',hw,rw'⟩:=kM.some_of (v:=v) (o:=valueAt vs k) (by rw[l];exact rel.val k);exact wpAny_getItem_of (sj ry) dd.mapOf hw (h w' _ (I.tok _) rw')};subst ey;cases (show u=Value.ref b from ry);obtain⟨z,hd,xs,rel,dd⟩:=uP I.hok e;obtain⟨w',hw,rw'⟩:=kM.some_of (v:=v) (o:=(atKey xs k).map (·.2)) (by rw[l];exact rel.val k);obtain⟨p,hp,hp2⟩:=Wd.mp hw;refine wpAny_getItem_heap (Yd hu) (qz I.hok eb) dd hp ?_;rw[hp2];exact h w' _ (I.tok _) rw'
def Uw{Q:Zk}(hu:A.units+1<cLine)(I:Inv X pins U H s)(g:jl H a y o)(ry:RelV y u)(h:∀s',Inv X pins U H s'->Q (.bool o.isSome) s') : wpAny (model X.prog X.w) A (compareOp .In u (.ref a)) Q E s:=by rcases g with⟨kvs,k,e,ey,l⟩|⟨kvs,k,b,e,ey,eb,l⟩;{subst ey;obtain⟨z,hd,vs,rel,dd⟩:=rM I.hok e;refine wpAny_in_of (sj ry) hd dd.mapOf ?_;rw[<-(rel.val k).ku,<-l];exact h _ (I.tok _)};subst ey;cases (show u=Value.ref b from ry);obtain⟨z,hd,xs,rel,dd⟩:=uP I.hok e;refine wpAny_in_heap (Yd hu) (qz I.hok eb) hd dd ?_;have q:=(rel.val k).ku;rw[Z9]at q;rw[<-q,<-l];exact h _ (I.tok _)
def Na{Q:Zk}(hu:A.units+1<cLine)(I:Inv X pins U H s)(g:jl H a y o)(ry:RelV y u)(h:∀s',Inv X pins U H s'->Q (.bool (!o.isSome)) s') : wpAny (model X.prog X.w) A (compareOp .NotIn u (.ref a)) Q E s:=by rcases g with⟨kvs,k,e,ey,l⟩|⟨kvs,k,b,e,ey,eb,l⟩;{subst ey;obtain⟨z,hd,vs,rel,dd⟩:=rM I.hok e;refine wpAny_notIn_of (sj ry) hd dd.mapOf ?_;rw[<-(rel.val k).ku,<-l];exact h _ (I.tok _)};subst ey;cases (show u=Value.ref b from ry);obtain⟨z,hd,xs,rel,dd⟩:=uP I.hok e;refine wpAny_notIn_heap (Yd hu) (qz I.hok eb) hd dd ?_;have q:=(rel.val k).ku;rw[Z9]at q;rw[<-q,<-l];exact h _ (I.tok _)
def wV{h':Heap}{t':Nat}{ob:HO}(I:Inv X pins U H s)(mu:IM (H a))(hs:Heap.SameBut a s.heap h')(he:∃q,h'.get? a=some q)(new:b6 X.prog X.w (upd H a ob) h' a ob) : Inv X pins U (upd H a ob) { s with heap:=h',toks:=t' }:=
 I.write (x:=a) (e:=a) mu (.inl rfl) (λb q hb z=>(hs.2 b hb).trans z) he new
def HM{P:Program}{w:World}{H':Hp}{h':Heap}{kvs:List (Key×V)}{vs:List (Key×Value)}(z:kvs.length<=sizeLine)(hd:(a==sysModules)=false)(rel:KV kvs vs)(dd:h'.DictOf (cU P w) a vs) : b6 P w H' h' a (.dK kvs):=⟨z,hd,vs,rel,dd⟩
def F8{H':Hp}{Q:Unit->Shared->Prop}(hu:A.units+1<cLine)(I:Inv X pins U H s)(g:qZ H a y v H')(ry:RelV y u)(rv:RelV v r)(h:∀s',Inv X pins U H' s'->Q () s') : wpAny (model X.prog X.w) A (setItem (.ref a) u r) Q E s:=by
 rcases g with⟨kvs,k,e,ey,l,eH⟩|⟨kvs,k,b,e,ey,eb,l,eH⟩
 .subst ey eH;obtain⟨z,hd,vs,rel,dd⟩:=K1 I.hok e;have hz:vs.length<=sizeLine:=by rw[<-rel.length];exact z
  have hl:(putK kvs k v).length<=sizeLine:=by have:=ni kvs k v;lia
  refine wpAny_setItem_pairs (hsz:=hz) (sj ry) dd λh' dd' hs=>h _ ?_;have he:∃q,h'.get? a=some q:=let⟨q,_,_,hq,_⟩:=dd';⟨q,hq⟩;exact wV I (by rw[e];exact WY) hs he (HM hl hd (rel.put k rv) dd')
 subst ey eH;cases (show u=Value.ref b from ry);obtain⟨z,hd,xs,rel,dd⟩:=Sg I.hok e;have hz:xs.length<=sizeLine:=by rw[<-Paired.length rel];exact z
 have hl:(putK kvs k v).length<=sizeLine:=by have:=ni kvs k v;lia
 refine wpAny_setItem_heap (hsz:=hz) (Yd hu) (qz I.hok eb) dd λh' dd' hs=>h _ ?_;obtain⟨q,es,ep,hq,h2,h3,h4,_,h5⟩:=dd';refine wV I (by rw[e];exact WY) hs ⟨q,hq⟩ ⟨hl,hd,_,(rel.put k eb rv).keeps λc ys ec=>?_,q,es,ep,hq,h2,h3,h4,h5⟩;rw[aA (R7 ec e (λz=>nomatch z))];exact ec
end
section
variable{X:Cx}{pins:Zn}{U:St}{H:Hp}{s:Shared}{a:Addr}{kvs:List (Key×V)}{k:Key}{u:Value}{A:Around}{E:Zk}
def S9{Q:Zk}(I:Inv X pins U H s)(e:Rd H a (.dK kvs))(h:∀t s',Inv X pins U H s'->Q (.int kvs.length t) s'):wpAny (model X.prog X.w) A (call (.builtin "len") [.ref a]) Q E s:=by obtain⟨z,hd,vs,rel,dd⟩:=rM I.hok e;refine call_len_dict hd dd (by rw[<-rel.length];rw[sizeLine_eq]at z;lia) ?_;rw[<-rel.length];exact h _ _ (I.tok _)
end
def BP{X:Cx}{pins:Zn}{U:St}{H:Hp}{s:Shared}{a:Addr}{y:V}{o:Option V}(I:Inv X pins U H s)(g:jl H a y o):s.TypeIs (.ref a) "dict":=by rcases g with⟨kvs,k,e,_,_⟩|⟨kvs,k,b,e,_,_,_⟩;{obtain⟨_,_,vs,_,dd⟩:=rM I.hok e;exact dd.typeIs};obtain⟨_,_,xs,_,dd⟩:=uP I.hok e;exact dd.typeIs
def Je{P:Program}{w:World}{H:Hp}(h:Heap)(hb:sysModules<h.objs.size):b6 P w H (h.push { cls:=.type "dict",data:=.dict #[] }) h.objs.size (.dK []):=
 ⟨VW _,beq_eq_false_iff_ne.mpr (Ne.symm (VC hb)),[],.nil,Heap.DictOf.new h⟩
def oG:List (TE×TE)->St->Hp->(List (V×V)->Hp->Prop)->Prop
 |[],_,H,Q=>Q [] H
 | (tk,tv)::r,U,H,Q=>tk U H λx H1=>tv U H1 λy H2=>oG r U H2 λps H3=>Q ((x,y)::ps) H3
abbrev VV:List (V×V)->List (Value×Value)->Prop:=Paired λp q=>RelV p.1 q.1/\RelV p.2 q.2
def FO(X:Cx)(pos:Pos)(keys:List (Option Expr))(values:A01)(trs:List (TE×TE)):Prop:=
 ∀(pins:Zn)(s:Shared)(U:St)(H:Hp)(Q:List (V×V)->Hp->Prop),Inv X pins U H s->oG trs U H Q->
  wpAny (model X.prog X.w) X.A (evalPairs (pairTrees keys values X.env pos)) (λvs s'=>∃ps H',Inv X pins U H' s'/\VV ps vs/\Q ps H') X.xe s
def NO{X:Cx}{pos:Pos}:FO X pos [] [] []:=λpins s U H Q I h=>pairTrees_nil_walk ⟨[],H,I,.nil,h⟩
def IW{X:Cx}{pos:Pos}{k v:Expr}{ks:List (Option Expr)}{vs:A01}{tk tv:TE}{trs:List (TE×TE)}(hk:PE X k tk)(hv:PE X v tv)(hr:FO X pos ks vs trs) : FO X pos (some k::ks) (v::vs) ((tk,tv)::trs):=λpins s U H Q I h=>
 pairTrees_cons_walk (aT (hk pins s U H _ I h) λu s1 ⟨x,H1,I1,rx,q1⟩=>aT (hv pins s1 U H1 _ I1 q1) λw2 s2 ⟨y,H2,I2,ry,q2⟩=>
  aT (hr pins s2 U H2 _ I2 q2) λws s3 ⟨ps,H3,I3,rel,q3⟩=>⟨(x,y)::ps,H3,I3,.cons ⟨rx,ry⟩ rel,q3⟩)
def lQ(kvs more:List (Key×V)):List (Key×V):=more.foldl (λacc kv=>putK acc kv.1 kv.2) kvs
def KV.merge:∀{more:List (Key×V)}{rs:List (Key×Value)}{kvs:List (Key×V)}{vs:List (Key×Value)},KV more rs->KV kvs vs->KV (lQ kvs more) (merged vs rs):=by
 intro more rs kvs vs r;unfold KV at r;induction r generalizing kvs vs with
 |nil=>intro q;exact q
 |@cons p q ps qs h t ih=>
  intro r0;have e:KV (putK kvs p.1 p.2) (stored vs q.1 q.2):=by have:=r0.put p.1 h.2;rw[<-h.1];exact this
  exact ih e
theorem qg:∀(more kvs:List (Key×V)),(lQ kvs more).length<=kvs.length+more.length
 |[],kvs=>by show kvs.length<=kvs.length+0;lia
 |p::r,kvs=>by have h1:=qg r (putK kvs p.1 p.2);have h2:=ni kvs p.1 p.2;show(lQ (putK kvs p.1 p.2) r).length<=_;rw[VF];lia
theorem uN{P:Program}{w:World}:∀{kvs:List (Key×V)}{ws:List (Value×Value)},VV (kvs.map λkv=>(kV kv.1,kv.2)) ws->∃rs,Carries (cU P w) ws rs/\KV kvs rs
 |[],_,r=>by rw[Y8]at r;cases r;exact⟨[],WY,.nil⟩
 |p::kvs,_,r=>by
  rw[VH]at r;cases r with
  |@cons a b as bs h t=>obtain⟨rs,c,q⟩:=uN (P:=P) (w:=w) t;obtain⟨b1,b2⟩:=b;exact⟨(p.1,b2)::rs,⟨sj h.1,rfl,c⟩,.cons ⟨rfl,h.2⟩ q⟩
def SJ(trs:List (TE×TE)):TE:=λU H Q=>∀p,H p=none->oG trs U (upd H p (.dK [])) λps H2=>H2 p=some (.dK [])/\∃kvs:List (Key×V),ps=kvs.map (λkv=>(kV kv.1,kv.2))/\kvs.length<=15/\Q (.ref p) (upd H2 p (.dK (lQ [] kvs)))
def NK{X:Cx}{pos:Pos}{keys:List (Option Expr)}{values:A01}{trs:List (TE×TE)}(h:FO X pos keys values trs)(hall:keys.all (·.isSome)=true)(hl:keys.length=values.length)(h0:keys≠[])(h15:keys.length<=15):PE X (.Dict keys values pos) (SJ trs):=by
 intro pins s U H Q I q;have hn:=I.hok.fresh (V3 s.heap.objs.size);have I1:=I.laid (a:=s.heap.objs.size) (o:=.dK []) (h':=s.heap.push { cls:=.type "dict",data:=.dict #[] }) (t':=s.toks) (λ_ _ q=>VM _ q) (V3 _) (Je s.heap I.big);refine wpAny_Dict_walk (knd:=cU X.prog X.w) hall hl h0 h15 (aT (h pins _ U _ _ I1 (q _ hn)) λws s2 ⟨ps,H2,I2,rel,e,kvs,ep,lk,q2⟩=>?_);subst ep;obtain⟨rs,c,rk⟩:=uN (P:=X.prog) (w:=X.w) rel;obtain⟨z,hd,vs0,r0,dd⟩:=K1 I2.hok e;cases r0;refine⟨rs,c,dd,λh' dd' hs=>⟨.ref s.heap.objs.size,_,?_,rfl,q2⟩⟩;have hz:(lQ [] kvs).length<=sizeLine:=by have h1:=qg kvs [];rw[Yc]at h1;rw[sizeLine_eq];lia
 have he:∃q,h'.get? s.heap.objs.size=some q:=let⟨q,_,_,hq,_⟩:=dd';⟨q,hq⟩;exact wV I2 (by rw[e];exact WY) hs he (HM hz hd (rk.merge .nil) dd')
end L2
namespace TN
open PySem PySem.W PySem.Calls PyProof.Rows
def uX{P:Params}{h:Heap}:∀(ns:A04)(vs:Zy),WellAll P h vs (ns.map WData.int)->IntsAre vs ns:=by
 intro ns;induction ns with
 |nil=>intro vs w;rw[Y8]at w;cases w;exact .nil
 |cons n ns ih=>
  intro vs w;rw[VH]at w;cases w with
  |cons a b=>cases a;exact .cons _ _ (ih _ b)
def FA{l:OpenLaw}{n:Nat}(hn:l.most=some n){P:Params}{h:Heap}{args:List WData}{vals:Zy}(hpre:l.row.toRowW.claim.pre args=true)(hwl:WellAll P h vals args) : ∃a vs ns,vals=[Value.ref a]/\args=[WData.list (ns.map WData.int)]/\h.get? a=some { cls:=.type "list",data:=.seq vs.toArray }/\IntsAre vs ns/\ns.length<=n:=by
 have hsh:WShape.hasAll [] args [.list .int]=true:=(pre_splitW hpre).1;have hc:l.pre.holds [] { args:=args }=true:=(pre_splitW hpre).2;obtain⟨d,r,rfl,h1,h2⟩:=hasAllW_cons hsh;obtain rfl:=hasAllW_nil h2;obtain⟨xs,rfl,h3⟩:=hasW_list h1;obtain⟨ns,rfl⟩:=items_int h3;have hlen:ns.length<=n:=by
  unfold OpenLaw.pre at hc;have h4:(WTm.not (.lt (.lit (.int (n:Int))) (.len (.arg 0)))).holds [] { args:=[.list (ns.map .int)] }=true:=by have h4:=(holds_andW hc).1;rw[hn]at h4;exact h4
  have h5:=condW_of h4 (w_not (w_lt w_lit (w_len_list (w_arg rfl))));rw[V4]at h5;refine Ye λq=>?_;have q':(n:Int)<((ns.length:Nat):Int):=by lia
  first
   | (rw[Ve q']at h5;exact absurd h5 (by decide))
   | (simp at h5;lia)
 cases hwl with
 |cons w1 w2=>
  cases w2;cases w1 with
  |list ho hall=>exact⟨_,_,ns,rfl,rfl,ho,uX ns _ hall,hlen⟩
def HN(l:OpenLaw)(args:List WData):l.row.toRowW.claim.post args (.bool true) args=true:=
 postW_of (r:=l.row.toRowW) (X:=(true==true))
  (show WShape.has [] (.bool true) .bool=true by first|rfl|decide|simp[WShape.has,WShape.arms,WShape.armsAll])
  (show(WTm.eq .res (.lit (.bool true))).value [] { args:=args,res:=some (.bool true),after:=args }=some (.bool (true==true))from w_eq_bool (w_res rfl) w_lit) rfl
def BG{l:OpenLaw}{n:Nat}{q:Program}{loose:A05}{XP:(Zm)->Heap->Prop}{YP:World->Heap->Prop}{d:DefRec}(hn:l.most=some n)(hdf:d.params.defaults=[])(call:∀(w:World)(s₀ s₁:Shared)(mg mb:Zm)(fa:Addr)(o:Obj)(pm cd doc:Value)(a:Addr)(vs:Zy)(ns:A04), Ground q loose [] XP w s₀ mg mb s₁.heap->YP w s₁.heap-> s₁.heap.get? fa=some o->o.data=.func (docDef d.name d.params d.body d.scope pm cd doc)->s₁.heap.CodeRec cd d.name->mg d.name=some (.ref fa)-> s₁.heap.get? a=some { cls:=.type "list",data:=.seq vs.toArray }->IntsAre vs ns->ns.length<=n->s₁.gens=#[]-> codeAny (model l.prog w) callerA (.call (.ref fa) ⟨[.ref a],[]⟩) (λr s'=>r=.ok (.ret (.bool true))/\OldK s₁.heap s'.heap/\s'.os=s₁.os/\AllBare s'.gens) s₁) : WalkO q loose XP YP l.row.toRowW d [] (λf vs=>PySem.call f vs):=by intro w s₀ s₁ mg mb G AAB fa o pm cd doc dV kV ho hd hcd hD hmg hg args vals as hpre hlay hrd hwl hlo;obtain rfl:dV=.none:=Dflts.none hD hdf;obtain rfl:kV=.none:=Dflts.noKw hD;obtain⟨a,vs,ns,rfl,rfl,hobj,hints,hlen⟩:=FA hn hpre hwl;refine enter_call (Wm (call w s₀ s₁ mg mb fa o pm cd doc a vs ns G AAB ho (fd_plain hd) hcd hmg hobj hints hlen hg) λr s' hq=>?_);obtain⟨rfl,h2,h3,h4⟩:=hq;exact⟨.inl ⟨.bool true,.bool true,[],rfl,λ_=>rfl,.bool true,HN l _,λ_=>⟨List.Pairwise.nil,λ_ hm=>(nomatch hm)⟩⟩,h2,h3,h4⟩
end TN
namespace L2
open PySem PySem.Spec PyProof.Rows
theorem xK:∀{vs:Zy}{ns:A04},IntsAre vs ns->Vals (ns.map V.int) vs
 |_,_,.nil=>.nil
 |_,_,.cons n t h=>.cons ⟨t,rfl⟩ (xK h)
def J8(H:Hp):Prop:=∀b,H b=none\/∃o xs,H b=some (.gj o (.lst xs))
end L2
namespace L2
open PySem PySem.Spec PyProof.Rows
def lJ(s:Stmt):Arguments:=match s with
 |.FunctionDef _ a _ _ _ _ _ _ _ _=>a
 |_=>{ posonlyargs:=[],args:=[],vararg:=none,kwonlyargs:=[],kw_defaults:=[],kwarg:=none,defaults:=[] }
def i7(s:Stmt):A02:=match s with
 |.FunctionDef _ _ b _ _ _ _ _ _ _=>b
 |_=>[]
def ay(s:Stmt):Scope:=match s with
 |.FunctionDef _ _ _ _ _ _ sc _ _ _=>sc
 |_=>{ kind:=.function,names:=[],isGenerator:=false,isCoroutine:=false }
abbrev E0:XK:=λ_ _ _=>False
structure vL(K:Zt) (x qual:Str)(st:Stmt)(f:Addr)(fd:FuncData):Prop where
 ex:∃(oc:Value)(od:Zx)(kV doc pm:Value)(an:Zx)(cdv ct:Value)(osl:Zj),
  fd=PySem.W.fnOf x qual (lJ st) (i7 st) (ay st) .none kV doc pm an cdv ct/\K.lookup f=some ⟨oc,od,.func fd,osl⟩/\PySem.W.codeIn K cdv qual=true
 kp:PySem.W.keepIn K (.ref f)=true
section
variable{P:Program}{w:World}{K:Zt}{mg:Zm}{base:Heap}
def vL.binds{x qual:Str}{st:Stmt}{f:Addr}{fd:FuncData}{ps:A05}(F:vL K x qual st f fd)(h:∀(kV doc pm:Value)(an:Zx)(cdv ct:Value)(us:Zy),us.length=ps.length->bindArgs (PySem.W.fnOf x qual (lJ st) (i7 st) (ay st) .none kV doc pm an cdv ct) ⟨us,[]⟩=pure (ps.zip us)):Binds K fd ps []:=by obtain⟨oc,od,kV,doc,pm,an,cdv,ct,osl,rfl,lk,hcd⟩:=F.ex;exact .all (h kV doc pm an cdv ct)
def Qa{x qual:Str}{st:Stmt}{f:Addr}{oc:Value}{od an:Zx}{osl:Zj}{kV doc pm cdv ct:Value}(l:K.lookup f=some ⟨oc,od,.func (PySem.W.fnOf x qual (lJ st) (i7 st) (ay st) .none kV doc pm an cdv ct),osl⟩)(c:PySem.W.codeIn K cdv qual=true)(k:PySem.W.keepIn K (.ref f)=true):vL K x qual st f (PySem.W.fnOf x qual (lJ st) (i7 st) (ay st) .none kV doc pm an cdv ct):=⟨⟨oc,od,kV,doc,pm,an,cdv,ct,osl,rfl,l,c⟩,k⟩
end
section
variable{X:Cx}
def GH:cu X (.builtin "len") (λxs H Q=>∃a kvs,xs=[V.ref a]/\H a=some (.dK kvs)/\Q (.int kvs.length) H):=by intro pins s U H xs us Q I r h;obtain⟨a,kvs,rfl,ha,q⟩:=h;obtain⟨u,rfl,ru⟩:=vals1 r;cases ru;exact S9 I (.inl ha) λt s' I'=>⟨.int kvs.length,H,I',⟨t,rfl⟩,q⟩
end
def qy{A B:Prop}(h:B):if false=true then A else B:=by rw[if_neg VY];exact h
def qY{A B:Prop}(h:A):if true=true then A else B:=by rw[if_pos rfl];exact h
def aj(H H':Hp):Prop:=∀b o,H b=some o->H' b=some o
def aj.refl(H:Hp):aj H H:=λ_ _ h=>h
def aj.trans{H H1 H2:Hp}(a:aj H H1)(b:aj H1 H2):aj H H2:=λc o h=>b c o (a c o h)
def aj.free{H H':Hp}(e:aj H H'){l:Addr}(h:H' l=Option.none):H l=Option.none:=by
 cases q:H l with
 |none=>rfl
 |some o=>rw[e l o q]at h;cases h
def fj(cells:List (Str×Addr)):List (Str×NameKind)->List (Str×Addr)->List (Str×Addr)
 |[],acc=>acc
 | (n,k)::r,acc=>fj cells r (if(k==NameKind.free)=true then(n,(cells.lookup n).getD 0)::acc else acc)
theorem tG{c:Addr}:∀(names:List (Str×NameKind))(acc:List (Str×Addr)),(fj cells names acc).lookup y=some c->((y,NameKind.free)∈names/\(cells.lookup y).getD 0=c)\/acc.lookup y=some c
 |[],_,h=>.inr h
 | (n,k)::r,acc,h=>by
  rcases tG r _ h with⟨a,b⟩|z;{exact .inl ⟨V5 _ a,b⟩};clear h;by_cases e:(k==NameKind.free)=true
  .rw[if_pos e]at z;rw[WB]at z;cases q:(y==n)with
   |true=>
    rw[q]at z;have ek:k=NameKind.free:=by simpa using e
    have en:y=n:=by simpa using q
    subst ek en;exact .inl ⟨V1,Option.some.inj z⟩
   |false=>rw[q]at z;exact .inr z
  rw[if_neg e]at z;exact .inr z
theorem lB:∀(names:List (Str×NameKind))(acc:List (Str×Addr)),((y,NameKind.free)∈names\/∃c,acc.lookup y=some c)->∃c,(fj cells names acc).lookup y=some c
 |[],_,h=>by rcases h with h|h;{cases h};exact h
 | (n,k)::r,acc,h=>by
  refine lB r _ ?_;rcases h with h|⟨c,h⟩;{rcases V7.mp h with e|h;{cases e;refine .inr ⟨(cells.lookup y).getD 0,?_⟩;rw[if_pos (by decide),WB,beq_self_eq_true]};exact .inl h};by_cases e:(k==NameKind.free)=true
  .rw[if_pos e,WB];cases q:(y==n)with
   |true=>exact .inr ⟨_,rfl⟩
   |false=>exact .inr ⟨c,h⟩
  rw[if_neg e];exact .inr ⟨c,h⟩
def vM(h:∀n,(n,NameKind.free)∈scope.names->∃c,env.cells.lookup n=some c):closureFor scope env=pure (fj env.cells scope.names []):=by
 have key:∀(names:List (Str×NameKind))(cs:List (Str×Addr)),(∀n,(n,NameKind.free)∈names->∃c,env.cells.lookup n=some c)->
   (forIn names cs λ(x:Str×NameKind)(r:List (Str×Addr))=>(if(x.2==NameKind.free)=true then(cellOf env x.1>>=λa=>pure (ForInStep.yield ((x.1,a)::r)))else pure (ForInStep.yield r):Sem _))=pure (fj env.cells names cs):=by
  intro names
  induction names with
  |nil=>intro cs _;rfl
  |cons p r ih=>
   intro cs hp;obtain⟨n,k⟩:=p;rw[List.forIn_cons];by_cases e:(k==NameKind.free)=true
   .have ek:k=NameKind.free:=by simpa using e
    obtain⟨c,hc⟩:=hp n (by rw[ek];exact V1);rw[if_pos e];have e2:cellOf env n=pure c:=by unfold cellOf;rw[hc]
    show((cellOf env n>>=λa=>pure (ForInStep.yield ((n,a)::cs)))>>=_)=_;rw[e2];show(forIn r ((n,c)::cs) _:Sem _)=_;rw[ih _ λn' h'=>hp n' (V5 _ h')];show _=pure (fj env.cells r (if(k==NameKind.free)=true then(n,(env.cells.lookup n).getD 0)::cs else cs));rw[if_pos e,hc];rfl
   rw[if_neg e];show(forIn r cs _:Sem _)=_;rw[ih _ λn' h'=>hp n' (V5 _ h')];show _=pure (fj env.cells r (if(k==NameKind.free)=true then(n,(env.cells.lookup n).getD 0)::cs else cs));rw[if_neg e]
 unfold closureFor;have e:=key scope.names [] h;show((forIn scope.names [] λ(x:Str×NameKind)(r:List (Str×Addr))=>(if(x.2==NameKind.free)=true then(cellOf env x.1>>=λa=>pure (ForInStep.yield ((x.1,a)::r)))else pure (ForInStep.yield r):Sem _))>>=λr=>pure r)=_;rw[e];rfl
theorem jW{α:Type}{y:Str}{k:α}:∀{l:List (Str×α)},l.lookup y=some k->(y,k)∈l
 |[],h=>by cases h
 | (n,j)::r,h=>by
  rw[WB]at h;cases q:(y==n)with
  |true=>
   rw[q]at h;have en:y=n:=by simpa using q
   cases h;rw[en];exact V1
  |false=>rw[q]at h;exact V5 _ (jW h)
theorem vV{env:Env}{x:Str}{k:NameKind}:∀{names:List (Str×NameKind)},names.lookup x=some k->(relabel { (default:Scope)with names:=names } env).names.lookup x=some k\/(k=.free/\(relabel { (default:Scope)with names:=names } env).names.lookup x=some .cell)
 |[],h=>by cases h
 | (n,j)::r,h=>by
  have ih:=@vV env x k r;rw[WB]at h;show List.lookup x ((if(j==NameKind.free&&env.scope.kind == .function&&env.kindOf n==some .cell)=true then(n,NameKind.cell)else(n,j))::_)=_\/(_/\List.lookup x ((if(j==NameKind.free&&env.scope.kind == .function&&env.kindOf n==some .cell)=true then(n,NameKind.cell)else(n,j))::_)=_);cases q:(x==n)with
  |true=>rw[q]at h;cases h;by_cases e:(k==NameKind.free&&env.scope.kind == .function&&env.kindOf n==some .cell)=true;{rw[if_pos e,WB,q];refine .inr ⟨?_,rfl⟩;have z:=(V9 _ _▸(V9 _ _▸e).1:_/\_).1;simpa using z};rw[if_neg e,WB,q];exact .inl rfl
  |false=>rw[q]at h;by_cases e:(j==NameKind.free&&env.scope.kind == .function&&env.kindOf n==some .cell)=true;{rw[if_pos e,WB,q];exact ih h};rw[if_neg e,WB,q];exact ih h
theorem Bx{env:Env}{x:Str}{k:NameKind}:∀{names:List (Str×NameKind)},(relabel { (default:Scope)with names:=names } env).names.lookup x=some k->names.lookup x=some k\/(names.lookup x=some .free/\k=.cell)
 |[],h=>by cases h
 | (n,j)::r,h=>by
  have ih:=@Bx env x k r;have h:List.lookup x ((if(j==NameKind.free&&env.scope.kind == .function&&env.kindOf n==some .cell)=true then(n,NameKind.cell)else(n,j))::(relabel { (default:Scope)with names:=r } env).names)=some k:=h;rw[WB];cases q:(x==n)with
  |true=>by_cases e:(j==NameKind.free&&env.scope.kind == .function&&env.kindOf n==some .cell)=true;{rw[if_pos e,WB,q]at h;cases h;have z:=(V9 _ _▸(V9 _ _▸e).1:_/\_).1;exact .inr ⟨by simpa using z,rfl⟩};rw[if_neg e,WB,q]at h;exact .inl h
  |false=>by_cases e:(j==NameKind.free&&env.scope.kind == .function&&env.kindOf n==some .cell)=true;{rw[if_pos e,WB,q]at h;exact ih h};rw[if_neg e,WB,q]at h;exact ih h
def caps(ix:A03)(U:St):St:=ix.map λi=>(U[i]?).join
def Cx.block(X:Cx)(scope:Scope)(C:Addr)(NB:A05)(s2:Shared)(H2:Hp)(fp:Zz):Cx:=
 { X with N:=NB,s₀:=s2,H₀:=H2,env:=compEnvC scope (fj X.env.cells scope.names []) C X.env,outer:=X.stack,ex:=fp,fn:=λ_=>false,pn:=[],xe:=λ_ _=>False }
def vS(X:Cx)(ifs:A01)(t:TT):Prop:=
 ∀(pins:Zn)(s:Shared)(U:St)(H:Hp)(Q:Bool->Hp->Prop),Inv X pins U H s->t U H Q->
  wpAny (model X.prog X.w) X.A (forIn ifs true λc r=>if r=true then do let ok <-isTrue c X.env (eval c X.env);pure (ForInStep.yield ok)else pure (ForInStep.yield r)) (TP X pins U Q) X.xe s
def Ua:TT:=λ_ H Q=>Q true H
def NJ:vS X [] Ua:=λ_ _ _ H _ I h=>wpAny_tests_nil ⟨H,I,h⟩
def Ml(h:PT X c t):vS X [c] t:=λpins s U H Q I hw=>wpAny_tests_one (h pins s U H Q I hw)
abbrev gJ(its:Zy) (n:Nat):Obj:={ cls:=.type "list",data:=.seq its.toArray n }
section
variable{X:Cx}{scope:Scope}{x:Str}{NB:A05}{ix:A03}{pins:Zn}{U:St}{H2:Hp}{s2:Shared}{fp:Zz}
def JN(ix:A03)(U:St):(caps ix U).length=ix.length:=by unfold caps;rw[V4]
end
section
variable{X:Cx}{scope:Scope}{x:Str}{NB:A05}{ix:A03}{pins:Zn}{U:St}{H2:Hp}{s2:Shared}{fp:Zz}
def FY{C D:Addr}{n:Nat}(I2:Inv X pins U H2 s2)(f2:∀b∈fp,ig X pins H2 b)(hD:s2.heap.objs.size<=D)(I4:Inv (X.block scope C NB s2 H2 fp) [(D,gJ its n)] σB H' s4)(rv:Vals ys its)(hz:ys.length<=sizeLine):Inv X pins U (upd H' D (.lst ys)) s4:=by
 have hp:=I4.pin (D,gJ its n) (by show _∈[]++[(D,gJ its n)];simp);have hfree:H' D=none:=hp.2.1;have sC:∀b o,s2.heap.get? b=some o->b≠D:=λb o e=>VC (Vg (VA e) hD);have neT:∀b o,H2 b=some o->b≠D:=λb o e=>VC (Vg (I2.hok.lt e) hD);have u:Un (frs X.stack) fp H2 H' s2.heap s4.heap:=I4.base;refine I2.EY (ch:=fp) I4.os ⟨u.keep,u.slot,λb o e n hx=>?_,u.there,λb xs e=>?_,λb o v e=>?_,λb ps e=>?_⟩ (λb o e=>?_) I4.bare λb hb=>?_;{rw[aA (sC b o e)];exact u.free b o e n hx};{rw[aA (neT b _ e)];exact u.tups b xs e};{rw[aA (neT b _ e)];exact u.jH b o v e};{rw[aA (neT b _ e)];exact u.kN b ps e}
 .by_cases hb:b=D;{subst hb;rw[aQ]at e;cases e;exact⟨hz,its,n,rv,hp.1⟩};rw[aA hb]at e;have ne:∀{c:Addr}{w:HO},H' c=some w->c≠D:=λ{c w} q z=>by rw[z,hfree]at q;cases q
  exact(I4.hok b o e).stay (λ_ _ _ q=>q) (λc q=>by rw[aA (ne q)];exact q) λc xs q=>by rw[aA (ne q)];exact q
 obtain⟨_,g1,g2,g3,g4,g5⟩:=f2 b hb;exact⟨g3,g1,g4,g5⟩
end
end L2
namespace L2
open PySem PySem.Spec PyProof.Rows PySem.W
def fP(a C:Addr)(dd:Zx):Heap->Prop:=λh=>∃(t0:Addr)(v1 v2 v3 v4 v5:Value)(sl:Zj),h.get? a=some ⟨.ref C,dd,.fields #[.ref t0,v1,v2,v3,v4,v5],sl⟩
def Ip{a C:Addr}(x:fP a C dd h):b6 P w H h a (.ext (fP a C dd)):=by obtain⟨t0,v1,v2,v3,v4,v5,sl,e⟩:=id x;exact⟨x,⟨_,e⟩,λh1 h2 ⟨t0,v1,v2,v3,v4,v5,sl,e⟩ k=>⟨t0,v1,v2,v3,v4,v5,sl,k _ e⟩⟩
def Inv.FN{a C:Addr}(I:Inv X pins U H s)(e:H a=some (.ext (fP a C dd))):fP a C dd s.heap:=(I.hok a _ e).1
def six(newId:String)(l:List (Zu)):Bool:=l.length==6&&(match(l[4]?:Option (Zu))with|some (some (Value.builtin n))=>n==newId|_=>false)
def Cz(K:Frag)(C:Addr)(bmB:Zy):Zy->Bool
 |.ref C'::bm=>C'==C&&tailIn K bmB bm
 |_=>false
def iJ(K:Frag)(C:Addr)(bmB:Zy)(newId:String)(r:Zu):Bool:=match K.lookup C with
 |some ob=>(match ob.cls with | .type t=>t == "type" | _=>false)&&(match ob.data with
  |.cls cd=>(Cz K C bmB cd.mro&&six newId ob.slots.toList)&&!cd.hasDel&&(nsOkIn K cd.ns&&nsIn K cd.ns "__init__" == some r)
  |_=>false)
 |none=>false
def O5(h:six newId l=true):∃k0 k1 k2 k3 k5,l=[k0,k1,k2,k3,some (.builtin newId),k5]:=by
 unfold six at h;rw[V9]at h;obtain⟨h1,h2⟩:=h;have h1:l.length=6:=XQ h1;rcases l with _|⟨k0,_|⟨k1,_|⟨k2,_|⟨k3,_|⟨k4,_|⟨k5,_|⟨k6,l⟩⟩⟩⟩⟩⟩⟩
 case cons.cons.cons.cons.cons.cons.nil=>
  cases k4 with
  |none=>cases h2
  |some v=>
   cases v with
   |builtin n=>exact⟨k0,k1,k2,k3,k5,by rw[show n=newId from XQ h2]⟩
   |_=>cases h2
 case cons.cons.cons.cons.cons.cons.cons=>cases h1
 all_goals cases h1
def EZ{K:Frag}{C:Addr}{bmB l:Zy}(h:Cz K C bmB l=true):∃bm,l=.ref C::bm/\tailIn K bmB bm=true:=by
 cases l with
 |nil=>cases h
 |cons v bm=>
  cases v with
  |ref a=>have h:(a==C&&tailIn K bmB bm)=true:=h;rw[V9]at h;exact⟨bm,by rw[show a=C from XQ h.1],h.2⟩
  |_=>cases h
structure Ug(C:Addr)(bmB:Zy)(newId:String)(r:Zu)(h:Heap):Prop where
 obj:∃bm N nm q bs hdct sn sub ab col dd k0 k1 k2 k3 k5 mN,h.get? C=some (excClassObj nm q C N bs bm hdct sn sub ab col dd k0 k1 k2 k3 k5 newId)/\h.Ns N mN/\mN "__init__"=r/\OwnTail h bmB bm
def D0{K:Frag}{h:Heap}{N:Addr}{mg:Zm}(X:K.In h)(G:h.Ns N mg)(e:nsIn K N n=some r):mg n=r:=by
 obtain⟨o,es,ep,ho,hd,_,hf⟩:=G;unfold nsIn at e;split at e
 .rename_i c d es' n' sl q;have z:=X _ _ q;rw[ho]at z;cases z;cases hd;split at e
  .rename_i en he;rw[<-hf];unfold nsFind findBy;rw[<-Z3,he];first
    | (cases e;rfl)
    | (split at e<;>cases e<;>rfl)
  rename_i he;rw[<-hf];unfold nsFind findBy;rw[<-Z3,he];split at e;{cases e};cases e;rfl
 cases e
def NX{K:Frag}{C:Addr}(X:K.In h)(q:iJ K C bmB newId r=true):Ug C bmB newId r h:=by
 unfold iJ at q;cases ho:K.lookup C with
 |none=>rw[ho]at q;cases q
 |some ob=>
  rw[ho]at q;obtain⟨cls,dd,data,sl⟩:=ob;dsimp only at q;rw[V9]at q;obtain⟨q0,q⟩:=q;have hc:cls=.type "type":=by
   cases cls with
   |type t=>exact congrArg Value.type (XQ q0)
   |_=>cases q0
  subst hc;cases data with
  |cls cd=>
   dsimp only at q;rw[V9,V9,V9,V9]at q;obtain⟨⟨⟨q1,q2⟩,hdel⟩,hok,hni⟩:=q;obtain⟨bm,hm,ht⟩:=EZ q1;obtain⟨l⟩:=sl;obtain⟨k0,k1,k2,k3,k5,hs⟩:=O5 q2;have hs:l=_:=hs;obtain⟨nm,bs,mro,ns,qn,hd,sn,sub,ab,col,del⟩:=cd;dsimp only at hm hdel hok hni;have hdel:del=false:=by cases del<;>first|rfl|cases hdel
   have hni:=XQ hni;subst hm hdel hs;have G:h.Ns ns (h.nsMap ns):=.of_isNs (isNs_of_in X hok);exact⟨bm,ns,nm,qn,bs,hd,sn,sub,ab,col,dd,k0,k1,k2,k3,k5,_,X _ _ ho,G,D0 X G hni,tail_of_in X ht⟩
  |_=>cases q
def JE{a:Addr}(x:b6 P w H h a o):∃ob,h.get? a=some ob:=by
 cases o with
 |lst xs=>obtain⟨_,_,_,_,e⟩:=x;exact⟨_,e⟩
 |tup xs=>obtain⟨_,_,_,ob,e,_⟩:=x;exact⟨_,e⟩
 |dK kvs=>obtain⟨_,_,_,_,ob,_,_,e,_⟩:=x;exact⟨_,e⟩
 |dT kvs=>obtain⟨_,_,_,_,ob,_,_,e,_⟩:=x;exact⟨_,e⟩
 |set S n=>obtain⟨ob,_,_,_,e,_⟩:=x;exact⟨_,e⟩
 |ins C dx fs=>obtain⟨_,_,_,e,_⟩:=x;exact⟨_,e⟩
 |own y=>exact x
 |xd fs=>obtain⟨_,⟨od,_,_,e,_⟩,_⟩:=x;exact⟨_,e⟩
 |sX lo hi=>obtain⟨_,_,_,e⟩:=x;exact⟨_,e⟩
 |gj ob u=>obtain⟨e,_⟩:=x;exact⟨_,e⟩
 |x8 ps=>exact⟨_,x⟩
 |met f y=>exact⟨_,x⟩
 |ext φ=>obtain⟨_,e,_⟩:=x;exact e
section
variable{X:Cx}{pins:Zn}{U:St}{H:Hp}{s:Shared}{h':Heap}
def Inv.iZ(I:Inv X pins U H s){a:Addr}(hn:s.heap.get? a=none):H a=none:=by
 cases z:H a with
 |none=>rfl
 |some o=>obtain⟨ob,e⟩:=JE (I.hok a o z);rw[hn]at e;cases e
def Inv.y9{a:Addr}{t':Nat}(I:Inv X pins U H s)(k:∀b u,s.heap.get? b=some u->h'.get? b=some u)(hn:s.heap.get? a=none)(new:b6 X.prog X.w (upd H a o) h' a o) : Inv X pins U (upd H a o) { s with heap:=h',toks:=t' }:=by
 have hf:=I.iZ hn;have neA:∀b u,s.heap.get? b=some u->b≠a:=λb u e z=>by rw[z,hn]at e;cases e
 have neT:∀b u,H b=some u->b≠a:=λb u e z=>by rw[z,hf]at e;cases e
 refine I.un ⟨λb u e _ _ _=>k b u e,λb u e _ _ _=>⟨u.slots,k b u e⟩,λb u e n _=>by rw[aA (neA b u e)];exact n,λb u e _=>⟨u,k b u e⟩,λb xs e=>by rw[aA (neT b _ e)];exact e,
  λb u v e=>by rw[aA (neT b _ e)];exact e,λb ps e=>⟨#[],by rw[aA (neT b _ e),e];simp⟩⟩ λb u e=>?_
 by_cases hb:b=a;{subst hb;rw[aQ]at e;cases e;exact new};rw[aA hb]at e;exact(I.hok b u e).stay (λc v _ q=>k c v q) (λc q=>by rw[aA (neT c _ q)];exact q) λc xs q=>by rw[aA (neT c _ q)];exact q
end
abbrev oK:Zy:=[.type "ValueError",.type "Exception",.type "BaseException",.type "object"]
end L2
namespace SM
open PySem PySem.SetTable
def run(M:Nat) (b:Nat):Nat->Nat×Nat
 |0=>(b%M,b)
 |k+1=>(((run M b k).1*5+1+(run M b k).2/32)%M,(run M b k).2/32)
theorem sR(M b:Nat):∀k,(run M b k).2=b/32^k
 |0=>by simp[run]
 |k+1=>by show(run M b k).2/32=_;rw[sR M b k,Nat.div_div_eq_div_mul,Nat.pow_succ]
def Ba{M b:Nat}(hM:0<M):∀k,(run M b k).1<M
 |0=>XS _ hM
 |k+1=>XS _ hM
def uC(M i:Nat):Nat:=(i*5+1)%M
def jy(M:Nat):Nat->Nat->Nat
 |i,0=>i
 |i,r+1=>uC M (jy M i r)
theorem rV(M i a:Nat):∀b,jy M i (a+b)=jy M (jy M i a) b
 |0=>rfl
 |b+1=>by show uC M (jy M i (a+b))=uC M (jy M (jy M i a) b);rw[rV M i a b]
def JB(M:Nat):Nat->Nat->A03
 |_,0=>[]
 |i,r+1=>i::JB M (uC M i) r
theorem yH(M i:Nat):∀r,jy M (uC M i) r=jy M i (r+1)
 |0=>rfl
 |r+1=>by show uC M (jy M (uC M i) r)=uC M (jy M i (r+1));rw[yH M i r]
theorem AI(M:Nat):∀(n i j:Nat),j∈JB M i n->∃r,r<n/\jy M i r=j
 |0,_,_,h=>by cases h
 |n+1,i,j,h=>by rcases V7.mp h with e|h;{exact⟨0,Xq _,e.symm⟩};obtain⟨r,hr,e⟩:=AI M n _ j h;exact⟨r+1,Nat.succ_lt_succ hr,by rw[<-yH];exact e⟩
def full(M:Nat):Bool:=(List.range M).all (λj=>(JB M 0 M).contains j)&&decide (jy M 0 M=0)
def AK:full 8=true:=by decide+kernel
def M7:full 32=true:=by decide+kernel
def JA:full 128=true:=by decide+kernel
def Kf:full 512=true:=by decide+kernel
def yi{M:Nat}(h:full M=true){j:Nat}(hj:j<M):∃r,r<M/\jy M 0 r=j:=by unfold full at h;rw[V9]at h;have z:=VN.mp h.1 j (VL.mpr hj);exact AI M M 0 j (by simpa using z)
def zL{M:Nat}(h:full M=true){i j:Nat}(hi:i<M)(hj:j<M):∃r,r<M/\jy M i r=j:=by
 obtain⟨a,ha,ea⟩:=yi h hi;obtain⟨b,hb,eb⟩:=yi h hj;have back:jy M 0 M=0:=by unfold full at h;rw[V9]at h;exact Vf h.2
 by_cases q:a<=b;{refine⟨b-a,by lia,?_⟩;rw[<-ea,<-rV,show a+(b-a)=b by lia,eb]};refine⟨M-a+b,by lia,?_⟩;rw[<-ea,<-rV,show a+(M-a+b)=M+b by lia,rV,back,eb]
theorem xj{M b k:Nat}(hb:b<2^64)(hk:12<=k):∀r,(run M b (k+r)).1=jy M (run M b k).1 r
 |0=>rfl
 |r+1=>by
  show((run M b (k+r)).1*5+1+(run M b (k+r)).2/32)%M=uC M (jy M (run M b k).1 r);rw[xj hb hk r,sR];have e:b/32^(k+r)/32=0:=by rw[Nat.div_div_eq_div_mul,<-Nat.pow_succ];refine Nat.div_eq_of_lt (Vg hb ?_);have h1:(32:Nat)^13<=32^(k+r).succ:=ZA (by decide) (by lia);exact VS (by decide) h1
  rw[e,Nat.add_zero];rfl
def qi(m:Nat)(p:Probe):Probe:=
 if p.more>0 then { p with j:=p.j+1,more:=p.more-1 } else
 { p with j:=(leap m p.i p.perturb).1,more:=runEnd m (leap m p.i p.perturb).1-(leap m p.i p.perturb).1,i:=(leap m p.i p.perturb).1,perturb:=(leap m p.i p.perturb).2 }
def U7(m:Nat) (h:Int):Probe:={ j:=bits h%(m+1),more:=runEnd m (bits h%(m+1))-bits h%(m+1),i:=bits h%(m+1),perturb:=bits h,dummy:=none }
def pr(m:Nat) (h:Int):Nat->Probe
 |0=>U7 m h
 |n+1=>qi m (pr m h n)
def Dz(h:Int):bits h<2^64:=by unfold bits;have:=Xr h (show(0:Int)<2^64 by decide);have h0:=Xs h (show(2^64:Int)≠0 by decide);lia
theorem Al(m:Nat) (h:Int):∀n,(pr m h n).dummy=none
 |0=>rfl
 |n+1=>by show(qi m (pr m h n)).dummy=none;unfold qi;split<;>exact Al m h n
def rZ(m:Nat) (h:Int) (n k:Nat):Prop:=pr m h n={ j:=(run (m+1) (bits h) k).1,more:=runEnd m (run (m+1) (bits h) k).1-(run (m+1) (bits h) k).1,i:=(run (m+1) (bits h) k).1,perturb:=(run (m+1) (bits h) k).2,dummy:=none }
theorem uW{m:Nat}{h:Int}{n k:Nat}(a:rZ m h n k):∀r,r<=runEnd m (run (m+1) (bits h) k).1-(run (m+1) (bits h) k).1-> pr m h (n+r)={ j:=(run (m+1) (bits h) k).1+r,more:=runEnd m (run (m+1) (bits h) k).1-(run (m+1) (bits h) k).1-r,i:=(run (m+1) (bits h) k).1,perturb:=(run (m+1) (bits h) k).2,dummy:=none }
 |0,_=>a
 |r+1,hr=>by show qi m (pr m h (n+r))=_;rw[uW a r (by lia)];unfold qi;rw[if_pos (show runEnd m (run (m+1) (bits h) k).1-(run (m+1) (bits h) k).1-r>0 by lia)];congr 1
def yE(m i:Nat):runEnd m i-i<=9:=by unfold runEnd;split<;>lia
def JV{m:Nat}{h:Int}{n k:Nat}(a:rZ m h n k):∃n',n'<=n+10/\rZ m h n' (k+1):=by have z:=uW a _ (V3 _);refine⟨n+(runEnd m (run (m+1) (bits h) k).1-(run (m+1) (bits h) k).1)+1,by have:=yE m (run (m+1) (bits h) k).1;lia,?_⟩;show qi m (pr m h (n+(runEnd m (run (m+1) (bits h) k).1-(run (m+1) (bits h) k).1)))=_;rw[z];unfold qi;rw[if_neg (show ¬(runEnd m (run (m+1) (bits h) k).1-(run (m+1) (bits h) k).1-(runEnd m (run (m+1) (bits h) k).1-(run (m+1) (bits h) k).1)>0)by lia)];rfl
theorem GY(m:Nat) (h:Int):∀k,∃n,n<=10*k/\rZ m h n k
 |0=>⟨0,VW _,rfl⟩
 |k+1=>by obtain⟨n,hn,a⟩:=GY m h k;obtain⟨n',hn',a'⟩:=JV a;exact⟨n',by lia,a'⟩
def Oo{m:Nat}(hf:full (m+1)=true) (h:Int){j:Nat}(hj:j<=m):∃n,n<10*turns m/\(pr m h n).j=j:=by obtain⟨r,hr,e⟩:=zL hf (Ba (b:=bits h) (Xq m) 12) (ZC hj);obtain⟨n,hn,a⟩:=GY m h (12+r);refine⟨n,?_,?_⟩;{unfold turns;lia};rw[a];show(run (m+1) (bits h) (12+r)).1=j;rw[xj (Dz h) (V3 _),e]
def iX(xs:Array Nat):Prop:=∀(i k x y:Nat),i<k->xs[i]?=some x->xs[k]?=some y->x<y
def iX.inj(h:iX xs){i k x:Nat}(a:xs[i]?=some x)(b:xs[k]?=some x):i=k:=by rcases XT i k with z|z|z;{exact absurd (h i k x x z a b) (Vx _)};{exact z};exact absurd (h k i x x z b a) (Vx _)
def oS{α:Type}{xs:Array α}{i:Nat}{x:α}(h:xs[i]?=some x):i<xs.size:=(Yg.mp h).1
theorem ug(hr:iX xs) (j:Nat):∀(fuel lo hi:Nat),lo<=hi->hi<=xs.size->hi-lo<=fuel->(∀i x,xs[i]?=some x->i<lo->x<j)->(∀i x,xs[i]?=some x->hi<=i->j<=x)-> below.go xs j fuel lo hi<=xs.size/\∀i x,xs[i]?=some x->(i<below.go xs j fuel lo hi↔x<j)
 |0,lo,hi,h1,h2,h3,h4,h5=>by
  have e:lo=hi:=by lia
  subst e;unfold below.go;refine⟨h2,λi x hx=>⟨h4 i x hx,λlt=>?_⟩⟩;by_cases q:i<lo;{exact q};exact absurd lt (XU.mpr (h5 i x hx (XU.mp q)))
 |fuel+1,lo,hi,h1,h2,h3,h4,h5=>by
  unfold below.go;by_cases q:lo<hi
  .rw[if_pos q];have hm:(lo+hi)/2<xs.size:=by lia
   have gm:xs[(lo+hi)/2]?=some xs[(lo+hi)/2]:=W6 hm;have gd:xs.getD ((lo+hi)/2) j=xs[(lo+hi)/2]:=by rw[Wq,gm];rfl
   dsimp only;rw[gd];by_cases c:xs[(lo+hi)/2]<j;{rw[if_pos c];refine ug hr j fuel _ hi (by lia) h2 (by lia) (λi x hx hi'=>?_) h5;by_cases e:i=(lo+hi)/2;{subst e;rw[gm]at hx;cases hx;exact c};exact Nat.lt_trans (hr i _ x _ (by lia) hx gm) c};rw[if_neg c];refine ug hr j fuel lo _ (by lia) (by lia) (by lia) h4 λi x hx hi'=>?_;by_cases e:i=(lo+hi)/2;{subst e;rw[gm]at hx;cases hx;exact XU.mp c};exact VS (XU.mp c) (WX (hr _ i _ x (by lia) gm hx))
  rw[if_neg q];have e:lo=hi:=by lia
  subst e;refine⟨h2,λi x hx=>⟨h4 i x hx,λlt=>?_⟩⟩;by_cases q:i<lo;{exact q};exact absurd lt (XU.mpr (h5 i x hx (XU.mp q)))
def jk{xs:Array Nat}(hr:iX xs) (j:Nat):below xs j<=xs.size/\∀i x,xs[i]?=some x->(i<below xs j↔x<j):=
 ug hr j xs.size 0 xs.size (VW _) (V3 _) (by lia) (λ_ _ _ h=>absurd h (WH _)) λi x hx h=>absurd (oS hx) (XU.mpr h)
def below_at{xs:Array Nat}(hr:iX xs){i j:Nat}(h:xs[i]?=some j):below xs j=i:=by
 obtain⟨h1,h2⟩:=jk hr j;have a:¬i<below xs j:=λq=>Vx _ ((h2 i j h).mp q);by_cases e:below xs j=i;{exact e};have lt:below xs j<i:=by lia
 have hb:below xs j<xs.size:=Nat.lt_trans lt (oS h);have gb:xs[below xs j]?=some xs[below xs j]:=W6 hb;have:=hr _ _ _ _ lt gb h;exact absurd ((h2 _ _ gb).mpr this) (Vx _)
def yb{t:SetTable}(hr:iX t.place){i j:Nat}(h:t.place[i]?=some j):t.slot j=.live i:=by unfold slot;dsimp only;rw[below_at hr h,h,if_pos (by simp)]
def El{t:SetTable}(hr:iX t.place)(hd:t.dummies=#[]){j:Nat}(h:∀i:Nat,t.place[i]?≠some j):t.slot j=.empty:=by
 unfold slot;dsimp only;rw[if_neg (by simpa using h _)];have:has t.dummies j=false:=by unfold has;rw[hd];simp
 rw[this];rfl
def Ig{xs:Array Nat}(hr:iX xs){m:Nat}(hs:xs.size<=m):∃j,j<=m/\∀i:Nat,xs[i]?≠some j:=by
 refine X8 λno=>?_;have all:∀j,j<=m->∃i:Nat,xs[i]?=some j:=λj hj=>X8 λq=>no ⟨j,hj,λi e=>q ⟨i,e⟩⟩;have ge:∀j,j<=m->∀i:Nat,xs[i]?=some j->j<=i:=by
  intro j;induction j with
  |zero=>intro _ i _;exact VW _
  |succ j ih=>intro hj i hi;obtain⟨i0,h0⟩:=all j (by lia);have l0:=ih (by lia) i0 h0;rcases XT i0 i with z|z|z;{lia};{subst z;rw[h0]at hi;have:=Option.some.inj hi;lia};have:=hr i i0 _ _ z hi h0;lia
 obtain⟨i,hi⟩:=all m (V3 _);have h1:=ge m (V3 _) i hi;have h2:=oS hi;lia
def i6{α:Type}{xs:Array α}{p:Nat}(hp:p<=xs.size)(x:α) (i:Nat):(insertAt xs p x)[i]?=if i<p then xs[i]? else if i=p then some x else xs[i-1]?:=by
 unfold insertAt;have s1:(xs.extract 0 p).size=p:=by rw[ZD];lia
 have s2:((xs.extract 0 p).push x).size=p+1:=by rw[Array.size_push,s1]
 rw[Array.getElem?_append,s2];by_cases h1:i<p;{rw[if_pos (by lia),if_pos h1,Array.getElem?_push,s1,if_neg (by lia),Array.getElem?_extract,if_pos (by lia),Xu]};rw[if_neg h1];by_cases h2:i=p;{subst h2;rw[if_pos (by lia),if_pos rfl,Array.getElem?_push,s1,if_pos rfl]};rw[if_neg (by lia),if_neg h2,Array.getElem?_extract];by_cases h3:i-(p+1)<xs.size-p;{rw[if_pos (by lia),show p+(i-(p+1))=i-1 by lia]};rw[if_neg (by lia)];exact(Yh (by lia)).symm
def iR{α:Type}{xs:Array α}{p:Nat}(hp:p<=xs.size)(x:α):(insertAt xs p x).size=xs.size+1:=by unfold insertAt;rw[Array.size_append,Array.size_push,ZD,ZD];lia
abbrev Ent:=Int×Value
def In(t:SetTable) (j:Nat):Prop:=∃i:Nat,t.place[i]?=some j
def Way(t:SetTable) (h:Int) (m:Nat):Prop:=∀m',m'<m->In t (pr t.mask h m').j
structure TB(t:SetTable)(es:Array Ent):Prop where
 sz:t.place.size=es.size
 ri:iX t.place
 le:∀i j:Nat,t.place[i]?=some j->j<=t.mask
 du:t.dummies=#[]
 fu:full (t.mask+1)=true
 od:t.mask%2=1
 nf:t.place.size<=t.mask
 rc:∀(i j:Nat)(e:Ent),t.place[i]?=some j->es[i]?=some e->∃m,m<10*turns t.mask/\(pr t.mask e.1 m).j=j/\Way t e.1 m
section
variable{t:SetTable}{es:Array Ent}
theorem TB.fits(T:TB t es):t.fits es.size=true:=by unfold SetTable.fits fill;rw[T.sz,T.du];have:=T.nf;rw[T.sz]at this;simpa using this
def TB.OF(T:TB t es):t.gaveWay=false:=by unfold SetTable.gaveWay;rw[T.od];rfl
def TB.first(T:TB t es) (h:Int):∃N,N<10*turns t.mask/\¬In t (pr t.mask h N).j/\Way t h N:=by
 obtain⟨j,hj,hn⟩:=Ig T.ri T.nf;obtain⟨n,hlt,e⟩:=Oo T.fu h hj;have key:∀n,¬In t (pr t.mask h n).j->∃N,N<=n/\¬In t (pr t.mask h N).j/\Way t h N:=by
  intro n;induction n using Nat.strongRecOn with
  |ind n ih=>intro hq;by_cases w:Way t h n;{exact⟨n,V3 _,hq,w⟩};obtain⟨m',q⟩:=Classical.not_forall.mp w;obtain⟨lt,q⟩:=Classical.not_imp.mp q;obtain⟨N,a,b,c⟩:=ih m' lt q;exact⟨N,by lia,b,c⟩
 obtain⟨N,a,b,c⟩:=key n (by rw[e];rintro⟨i,hi⟩;exact hn i hi);exact⟨N,by lia,b,c⟩
theorem xx(hr:iX t.place)(hd:t.dummies=#[]){hashAt:Nat->Int}{h:Int}{N:Nat}(hN:¬In t (pr t.mask h N).j)(hw:Way t h N):∀(fuel n:Nat),n<=N->N-n<fuel->(probe.go t hashAt h fuel (pr t.mask h n)=some (.empty (pr t.mask h N).j none)/\∀m i:Nat,n<=m->m<N->t.place[i]?=some (pr t.mask h m).j->hashAt i≠h) \/ (∃m i:Nat,n<=m/\m<N/\t.place[i]?=some (pr t.mask h m).j/\hashAt i=h/\probe.go t hashAt h fuel (pr t.mask h n)=some (.candidate (pr t.mask h m).j i (pr t.mask h (m+1)))/\∀m' i':Nat,n<=m'->m'<m->t.place[i']?=some (pr t.mask h m').j->hashAt i'≠h)
 |0,n,h1,h2=>absurd h2 (WH _)
 |fuel+1,n,h1,h2=>by
  unfold probe.go;by_cases e:n=N;{subst e;rw[El hr hd (λi q=>hN ⟨i,q⟩)];refine .inl ⟨?_,λm i a b=>by lia⟩;show some (Met.empty (pr t.mask h n).j (pr t.mask h n).dummy)=_;rw[Al]};obtain⟨i,hi⟩:=hw n (by lia);rw[yb hr hi];dsimp only;by_cases q:hashAt i=h;{rw[if_pos (by rw[q];exact beq_self_eq_true h)];exact .inr ⟨n,i,V3 _,by lia,hi,q,rfl,λm' i' a b=>by lia⟩};rw[if_neg (by simpa using q)];show(probe.go t hashAt h fuel (pr t.mask h (n+1))=_/\_)\/_;have other:∀i':Nat,t.place[i']?=some (pr t.mask h n).j->hashAt i'≠h:=λi' hi'=>by rw[hr.inj hi' hi];exact q
  rcases xx hr hd (hashAt:=hashAt) hN hw fuel (n+1) (by lia) (by lia)with⟨a,b⟩|⟨m,i',c1,c2,c3,c4,c5,c6⟩;{refine .inl ⟨a,λm i' u v x=>?_⟩;by_cases z:m=n;{subst z;exact other i' x};exact b m i' (by lia) v x};refine .inr ⟨m,i',by lia,c2,c3,c4,c5,λm' i'' u v x=>?_⟩;by_cases z:m'=n;{subst z;exact other i'' x};exact c6 m' i'' (by lia) v x
theorem TB.freeSlot(T:TB t es){h:Int}{N:Nat}(hl:N<10*turns t.mask)(hN:¬In t (pr t.mask h N).j)(hw:Way t h N):t.freeSlot h=some ((pr t.mask h N).j,false):=by
 unfold SetTable.freeSlot;have z:=xx T.ri T.du (hashAt:=λ_=>h+1) hN hw (10*turns t.mask) 0 (VW _) (by lia);have e:t.probe (λ_=>h+1) h (t.probeStart h)=some (.empty (pr t.mask h N).j none):=by rcases z with⟨a,_⟩|⟨m,i,_,_,_,c,_⟩;{exact a};exact absurd c (by lia)
 rw[e];rfl
def zo(hr:iX xs) (j:Nat):below xs j<=xs.size:=(jk hr j).1
theorem TB.put(T:TB t es){N:Nat}(hl:N<10*turns t.mask)(hN:¬In t (pr t.mask e.1 N).j)(hw:Way t e.1 N)(room:es.size+1<=t.mask)(hjm:(pr t.mask e.1 N).j<=t.mask) : TB (t.put (pr t.mask e.1 N).j).1 (insertAt es (t.put (pr t.mask e.1 N).j).2 e):=by
 obtain⟨hb,hs⟩:=jk T.ri (pr t.mask e.1 N).j;have hb2:below t.place (pr t.mask e.1 N).j<=es.size:=by rw[<-T.sz];exact hb
 have nd:has t.dummies (pr t.mask e.1 N).j=false:=by
  unfold has;rw[T.du];simp
 have ep:(t.put (pr t.mask e.1 N).j).1={ t with place:=insertAt t.place (below t.place (pr t.mask e.1 N).j) (pr t.mask e.1 N).j }:=by
  unfold SetTable.put;dsimp only;rw[nd];rfl
 have ep2:(t.put (pr t.mask e.1 N).j).2=below t.place (pr t.mask e.1 N).j:=rfl;rw[ep,ep2];generalize hp:below t.place (pr t.mask e.1 N).j=p at *;generalize hj:(pr t.mask e.1 N).j=j at *;have g:=i6 hb j
 -- what was there is there
 have up:∀(i x:Nat),t.place[i]?=some x->∃i':Nat,(insertAt t.place p j)[i']?=some x:=λi x hx=>by
  by_cases q:i<p
  .exact⟨i,by rw[g,if_pos q];exact hx⟩
  .exact⟨i+1,by rw[g,if_neg (by lia),if_neg (by lia)];exact hx⟩
 have mine:(insertAt t.place p j)[p]?=some j:=by rw[g,if_neg (Vx _),if_pos rfl]
 have down:∀(i x:Nat),(insertAt t.place p j)[i]?=some x->(i<p/\t.place[i]?=some x)\/(i=p/\x=j)\/(p<i/\t.place[i-1]?=some x):=λi x hx=>by
  rw[g]at hx
  by_cases q:i<p
  .rw[if_pos q]at hx;exact .inl ⟨q,hx⟩
  .rw[if_neg q]at hx
   by_cases q2:i=p
   .rw[if_pos q2]at hx;exact .inr (.inl ⟨q2,(Option.some.inj hx).symm⟩)
   .rw[if_neg q2]at hx;exact .inr (.inr ⟨by lia,hx⟩)
 have inUp:∀x,In t x->In { t with place:=insertAt t.place p j } x:=λx ⟨i,hi⟩=>up i x hi
 have noJ:∀(i:Nat),t.place[i]?≠some j:=λi q=>hN ⟨i,q⟩
 constructor
 .show(insertAt t.place p j).size=_;rw[iR hb,iR hb2,T.sz]
 .intro i k x y hik hx hy;rcases down i x hx with⟨a1,a2⟩|⟨a1,a2⟩|⟨a1,a2⟩<;>rcases down k y hy with⟨b1,b2⟩|⟨b1,b2⟩|⟨b1,b2⟩
  .exact T.ri i k x y hik a2 b2
  .rw[b2];exact(hs i x a2).mp a1
  .exact T.ri i (k-1) x y (by lia) a2 b2
  .lia
  .lia
  .rw[a2];have c:¬y<j:=λz=>by
    have:=(hs (k-1) y b2).mpr z;lia
   have d:y≠j:=λz=>noJ _ (z▸b2)
   lia
  .lia
  .lia
  .exact T.ri (i-1) (k-1) x y (by lia) a2 b2
 .intro i x hx;rcases down i x hx with⟨_,a2⟩|⟨_,a2⟩|⟨_,a2⟩
  .exact T.le _ _ a2
  .rw[a2];exact hjm
  .exact T.le _ _ a2
 .exact T.du
 .exact T.fu
 .exact T.od
 .show(insertAt t.place p j).size<=t.mask;rw[iR hb,T.sz];exact room
 .intro i x f hx hf;have gf:=i6 hb2 e i;rw[gf]at hf;have old:∀i0:Nat,t.place[i0]?=some x->es[i0]?=some f->∃m,m<10*turns t.mask/\(pr t.mask f.1 m).j=x/\Way { t with place:=insertAt t.place p j } f.1 m:=λi0 u v=>by
   obtain⟨m,c1,c2,c3⟩:=T.rc i0 x f u v;exact⟨m,c1,c2,λm' l=>inUp _ (c3 m' l)⟩
  rcases down i x hx with⟨a1,a2⟩|⟨a1,a2⟩|⟨a1,a2⟩
  .rw[if_pos a1]at hf;exact old i a2 hf
  .rw[if_neg (by lia),if_pos a1]at hf
   cases hf;exact⟨N,hl,by rw[a2];exact hj,λm' l=>inUp _ (hw m' l)⟩
  .rw[if_neg (by lia),if_neg (by lia)]at hf
   exact old (i-1) a2 hf
end
def pI{m i:Nat}(hi:i<=m):i+(runEnd m i-i)<=m:=by unfold runEnd;split<;>lia
theorem Li(m:Nat) (h:Int):∀n,(pr m h n).j+(pr m h n).more<=m
 |0=>by have z:bits h%(m+1)<m+1:=XS (bits h) (Xq m);show bits h%(m+1)+(runEnd m (bits h%(m+1))-bits h%(m+1))<=m;exact pI (by lia)
 |n+1=>by have ih:=Li m h n;show(qi m (pr m h n)).j+(qi m (pr m h n)).more<=m;unfold qi;split;{dsimp only;lia};dsimp only;have:(leap m (pr m h n).i (pr m h n).perturb).1<m+1:=XS _ (Xq m);exact pI (by lia)
def vW(m:Nat) (h:Int) (n:Nat):(pr m h n).j<=m:=by have:=Li m h n;lia
def heads{m:Nat}(hf:full (m+1)=true) (h:Int){j:Nat}(hj:j<=m):∃k,k<turns m/\(run (m+1) (bits h) k).1=j:=by obtain⟨r,hr,e⟩:=zL hf (Ba (b:=bits h) (Xq m) 12) (ZC hj);refine⟨12+r,?_,?_⟩;{unfold turns;lia};rw[xj (Dz h) (V3 _),e]
abbrev Own:=Array (Option Nat)
def Tk(o:Own) (j:Nat):Prop:=∃k,o[j]?=some (some k)
def Ac(m:Nat)(o:Own) (h:Int) (n:Nat):Prop:=∀n',n'<n->Tk o (pr m h n').j
def getD_none{m:Nat}(hs:o.size=m+1){j:Nat}(hj:j<=m):(o.getD j (some 0)).isNone=true↔¬Tk o j:=by
 have g:o[j]?=some o[j]:=W6 (by lia);rw[Wq,g];show(o[j]).isNone=true↔_;constructor;{rintro q⟨k,e⟩;rw[g]at e;rw[Option.some.inj e]at q;cases q};intro q;cases z:o[j]with
 |none=>rfl
 |some k=>exact absurd ⟨k,by rw[g,z]⟩ q
theorem xT{m:Nat}{h:Int}(hs:o.size=m+1):∀(fuel k n:Nat),rZ m h n k->n<=10*k->Ac m o h n->(∃k',k<=k'/\k'<k+fuel/\¬Tk o (run (m+1) (bits h) k').1)->∃N,N<10*(k+fuel)/\layClean.free m o fuel (run (m+1) (bits h) k).1 (run (m+1) (bits h) k).2=some (pr m h N).j/\¬Tk o (pr m h N).j/\Ac m o h N
 |0,k,n,_,_,_,⟨k',a,b,_⟩=>by lia
 |fuel+1,k,n,a,hn,hw,⟨k',q1,q2,q3⟩=>by
  have hi:(run (m+1) (bits h) k).1<=m:=by have:=Ba (M:=m+1) (b:=bits h) (Xq m) k;lia
  have hre:=pI hi;have hle9:=yE m (run (m+1) (bits h) k).1;have hge:(run (m+1) (bits h) k).1<=runEnd m (run (m+1) (bits h) k).1:=by unfold runEnd;split<;>lia
  have pos:∀r,r<=runEnd m (run (m+1) (bits h) k).1-(run (m+1) (bits h) k).1->(pr m h (n+r)).j=(run (m+1) (bits h) k).1+r:=λr hr=>by rw[uW a r hr]
  unfold layClean.free;cases f:(List.range (runEnd m (run (m+1) (bits h) k).1+1-(run (m+1) (bits h) k).1)).find? (λk_1=>(o.getD ((run (m+1) (bits h) k).1+k_1) (some 0)).isNone)with
  |some r=>
   obtain⟨p1,i,hi',e1,e2⟩:=List.find?_eq_some_iff_getElem.mp f;rw[ZE]at e1;subst e1;have hlen:i<runEnd m (run (m+1) (bits h) k).1+1-(run (m+1) (bits h) k).1:=by simpa using hi'
   refine⟨n+i,by lia,?_,?_,λn' l=>?_⟩;{rw[pos i (by lia)]};{rw[pos i (by lia)];exact(getD_none hs (by lia)).mp p1};by_cases c:n'<n;{exact hw n' c};have e3:=e2 (n'-n) (by lia);rw[ZE]at e3;have e4:(!(o.getD ((run (m+1) (bits h) k).1+(n'-n)) (some 0)).isNone)=true:=e3;have z:¬(o.getD ((run (m+1) (bits h) k).1+(n'-n)) (some 0)).isNone=true:=λq=>by rw[q]at e4;cases e4
   have z2:=λq=>z ((getD_none hs (by lia)).mpr q);have z3:=ZF.mp z2;rw[show n'=n+(n'-n)by lia,pos (n'-n) (by lia)];exact z3
  |none=>
   have no:∀r,r<=runEnd m (run (m+1) (bits h) k).1-(run (m+1) (bits h) k).1->Tk o ((run (m+1) (bits h) k).1+r):=λr hr=>by have z:=List.find?_eq_none.mp f r (VL.mpr (by lia));exact ZF.mp λq=>z ((getD_none hs (by lia)).mpr q)
   have z:=uW a _ (V3 _);have a':rZ m h (n+(runEnd m (run (m+1) (bits h) k).1-(run (m+1) (bits h) k).1)+1) (k+1):=by show qi m (pr m h (n+(runEnd m (run (m+1) (bits h) k).1-(run (m+1) (bits h) k).1)))=_;rw[z];unfold qi;rw[if_neg (show ¬(runEnd m (run (m+1) (bits h) k).1-(run (m+1) (bits h) k).1-(runEnd m (run (m+1) (bits h) k).1-(run (m+1) (bits h) k).1)>0)by lia)];rfl
   have w':Ac m o h (n+(runEnd m (run (m+1) (bits h) k).1-(run (m+1) (bits h) k).1)+1):=λn' l=>by by_cases c:n'<n;{exact hw n' c};rw[show n'=n+(n'-n)by lia,pos (n'-n) (by lia)];exact no _ (by lia)
   have later:k+1<=k':=by
    rcases Vt k k' with c|c;{exact c};have e:k'=k:=by lia
    subst e;exact absurd (by simpa using no 0 (VW _)) q3
   obtain⟨N,c1,c2,c3,c4⟩:=xT hs fuel (k+1) _ a' (by lia) w' ⟨k',later,by lia,q3⟩;exact⟨N,by lia,c2,c3,c4⟩
def bX(o:Own) (M:Nat):Zr:=(List.range M).filterMap λj=>(o.getD j none).map (j,·)
structure lA(m:Nat)(hs:A04)(o:Own):Prop where
 sz:o.size=m+1
 pm:((bX o (m+1)).map (·.2)).Perm (List.range hs.length)
 rc:∀(j k:Nat) (h:Int),o[j]?=some (some k)->hs[k]?=some h->∃n,n<10*turns m/\(pr m h n).j=j/\Ac m o h n
 kl:∀j k:Nat,o[j]?=some (some k)->k<hs.length
def tB{M j:Nat}(hj:j<M):List.range M=List.range j++j::List.range' (j+1) (M-j-1):=by rw[ZG,ZG,show(j::List.range' (j+1) (M-j-1))=List.range' j (M-j-1+1)from rfl];have e:=List.range'_append (s:=0) (m:=j) (n:=M-j-1+1) (step:=1);rw[Nat.one_mul,Xu]at e;rw[e,show j+(M-j-1+1)=M by lia]
def tU{o:Own}{j x:Nat}(hj:j<o.size):(o.setIfInBounds j v).getD x none=if x=j then v else o.getD x none:=by rw[Wq,Wq,ZH];by_cases e:j=x;{subst e;rw[if_pos rfl,if_pos hj,if_pos rfl];rfl};rw[if_neg e,if_neg (λz=>e z.symm)]
theorem tY{f g:Nat->Option (Nat×Nat)}:∀{l:A03},(∀x∈l,f x=g x)->l.filterMap f=l.filterMap g
 |[],_=>rfl
 |a::r,h=>by rw[Vy,Vy,h a V1,tY λx hx=>h x (V5 _ hx)]
def JR{m j k:Nat}(hs:o.size=m+1)(hj:j<=m)(hn:¬Tk o j):∃A B,bX o (m+1)=A++B/\bX (o.setIfInBounds j (some k)) (m+1)=A++(j,k)::B:=by
 have hnone:o.getD j none=none:=by
  have g:o[j]?=some o[j]:=W6 (by lia);rw[Wq,g];show o[j]=none;cases z:o[j]with
  |none=>rfl
  |some k=>exact absurd ⟨k,by rw[g,z]⟩ hn
 refine⟨(List.range j).filterMap λx=>(o.getD x none).map (x,·),(List.range' (j+1) (m+1-j-1)).filterMap λx=>(o.getD x none).map (x,·),?_,?_⟩;{unfold bX;rw[tB (M:=m+1) (j:=j) (by lia),YA,Vy,hnone];rfl};unfold bX;rw[tB (M:=m+1) (j:=j) (by lia),YA,Vy,tU (by lia),if_pos rfl];show _++(j,k)::_=_;congr 1;{refine tY λx hx=>?_;have:=VL.mp hx;rw[tU (by lia),if_neg (by lia)]};congr 1;refine tY λx hx=>?_;have:=(List.mem_range'_1.mp hx).1;rw[tU (by lia),if_neg (by lia)]
def Iw{j k x:Nat}(h:Tk o x)(hn:¬Tk o j):Tk (o.setIfInBounds j (some k)) x:=by obtain⟨k',e⟩:=h;refine⟨k',?_⟩;have ne:j≠x:=λz=>hn ⟨k',by rw[z];exact e⟩;rw[ZH,if_neg ne];exact e
def lA.more{m:Nat}{h:Int}{N:Nat}(O:lA m hs o)(hl:N<10*turns m)(hn:¬Tk o (pr m h N).j)(hw:Ac m o h N):lA m (hs++[h]) (o.setIfInBounds (pr m h N).j (some hs.length)):=by
 have hj:=vW m h N;have hjs:(pr m h N).j<o.size:=by rw[O.sz];lia
 have set:∀x,(o.setIfInBounds (pr m h N).j (some hs.length))[x]?=if(pr m h N).j=x then some (some hs.length)else o[x]?:=λx=>by rw[ZH];by_cases e:(pr m h N).j=x;{rw[if_pos e,if_pos hjs,if_pos e]};rw[if_neg e,if_neg e]
 refine⟨by rw[Array.size_setIfInBounds,O.sz],?_,λj k g hk hg=>?_,λj k hk=>?_⟩;{obtain⟨A,B,e1,e2⟩:=JR (k:=hs.length) O.sz hj hn;have p:=O.pm;rw[e1,VT]at p;rw[e2,VT,VH,VD,Wc,YB];exact(List.perm_middle.trans (List.Perm.cons _ p)).trans (List.perm_append_singleton _ _).symm};{rw[set]at hk;by_cases e:(pr m h N).j=j;{rw[if_pos e]at hk;cases hk;rw[Xm (V3 _),Nat.sub_self]at hg;cases hg;exact⟨N,hl,e,λn' l=>Iw (hw n' l) hn⟩};rw[if_neg e]at hk;have kl:=O.kl j k hk;rw[Xn kl]at hg;obtain⟨n,c1,c2,c3⟩:=O.rc j k g hk hg;exact⟨n,c1,c2,λn' l=>Iw (c3 n' l) hn⟩};rw[VD,Wc];rw[set]at hk;by_cases e:(pr m h N).j=j;{rw[if_pos e]at hk;cases hk;lia};rw[if_neg e]at hk;have:=O.kl j k hk;lia
theorem HP{f:Nat->Option (Nat×Nat)}:∀{l:A03},(∀x∈l,∃y,f x=some y)->(l.filterMap f).length=l.length
 |[],_=>rfl
 |a::r,h=>by obtain⟨y,e⟩:=h a V1;rw[Vy,e];show((r.filterMap f).length+1)=r.length+1;rw[HP λx hx=>h x (V5 _ hx)]
def pG{o:Own}{j k:Nat}:o.getD j none=some k↔o[j]?=some (some k):=by
 rw[Wq];cases z:o[j]? with
 |none=>exact⟨λq=>(nomatch q),λq=>(nomatch q)⟩
 |some v=>exact⟨λq=>congrArg some q,λq=>Option.some.inj q⟩
def lA.room{m:Nat}{hs:A04}(O:lA m hs o)(hl:hs.length<=m):∃j,j<=m/\¬Tk o j:=by
 refine X8 λno=>?_;have all:∀j,j<=m->Tk o j:=λj hj=>X8 λq=>no ⟨j,hj,q⟩;have e:=O.pm.length_eq;rw[V4,VI]at e;unfold bX at e;rw[HP (λx hx=>by
  obtain⟨k,hk⟩:=all x (by have:=VL.mp hx;lia)
  exact⟨(x,k),by rw[pG.mpr hk];rfl⟩),VI]at e
 lia
def rY(m:Nat)(acc:Option (Own×Nat)) (h:Int):Option (Own×Nat):=do
 let (owner,k) <-acc
 let j <-layClean.free m owner (turns m) (bits h%(m+1)) (bits h)
 pure (owner.setIfInBounds j (some k),k+1)
theorem zd{m:Nat}(hf:full (m+1)=true):∀(hs2 hs1:A04)(o:Own),lA m hs1 o->hs1.length+hs2.length<=m->∃o',hs2.foldl (rY m) (some (o,hs1.length))=some (o',(hs1++hs2).length)/\lA m (hs1++hs2) o'
 |[],hs1,o,O,_=>⟨o,by rw[Vm];rfl,by rw[Vm];exact O⟩
 |h::r,hs1,o,O,hl=>by
  rw[VF]at hl;obtain⟨j0,hj0,n0⟩:=O.room (by lia);obtain⟨k',hk',e'⟩:=heads hf h hj0;obtain⟨N,c1,c2,c3,c4⟩:=xT (h:=h) O.sz (turns m) 0 0 rfl (V3 _) (λ_ l=>absurd l (WH _)) ⟨k',VW _,by lia,by rw[e'];exact n0⟩;have O2:=O.more (by lia) c3 c4;obtain⟨o',e1,O3⟩:=zd hf r (hs1++[h]) _ O2 (by rw[VD,Wc];lia);have st:rY m (some (o,hs1.length)) h=some (o.setIfInBounds (pr m h N).j (some hs1.length),hs1.length+1):=by show(layClean.free m o (turns m) (bits h%(m+1)) (bits h)).bind _=_;have c2:layClean.free m o (turns m) (bits h%(m+1)) (bits h)=some (pr m h N).j:=c2;rw[c2];rfl
  rw[W5]at e1 O3;refine⟨o',?_,O3⟩;rw[Yb,st];rw[VD,Wc]at e1;exact e1
def uz{n j:Nat}:(Array.replicate n (none:Option Nat)).getD j none=none:=by rw[Wq,Array.getElem?_replicate];split<;>rfl
def G2(m:Nat):lA m [] (Array.replicate (m+1) none):=by
 refine⟨by rw[Array.size_replicate],?_,λj k h hk=>?_,λj k hk=>?_⟩
 .have e:bX (Array.replicate (m+1) none) (m+1)=[]:=by unfold bX;rw[List.filterMap_eq_nil_iff];intro x _;rw[uz];rfl
  rw[e];exact List.Perm.refl _
 .have:=pG.mpr hk;rw[uz]at this;cases this
 have:=pG.mpr hk;rw[uz]at this;cases this
def BS{m:Nat}(hf:full (m+1)=true)(hl:hs.size<=m):∃o,layClean m hs=some o/\lA m hs.toList o:=by obtain⟨o,e,O⟩:=zd hf hs.toList [] _ (G2 m) (by simpa using hl);refine⟨o,?_,O⟩;have e2:layClean m hs=(hs.foldl (rY m) (some (Array.replicate (m+1) none,0))).map (·.1):=rfl;have e:hs.toList.foldl (rY m) (some (Array.replicate (m+1) none,0))=some (o,([]++hs.toList).length):=e;rw[e2,<-Array.foldl_toList,e];rfl
def tT{o:Own}{M j k:Nat}:(j,k)∈bX o M↔j<M/\o[j]?=some (some k):=by
 unfold bX;rw[YS];constructor
 .rintro⟨x,hx,e⟩;cases z:o.getD x none with
  |none=>rw[z]at e;cases e
  |some k'=>rw[z]at e;cases e;exact⟨VL.mp hx,pG.mp z⟩
 rintro⟨h1,h2⟩;exact⟨j,VL.mpr h1,by rw[pG.mpr h2];rfl⟩
theorem ud{o:Own}:∀(l:A03),((l.filterMap λj=>(o.getD j none).map (j,·)).map (·.1))=l.filter λj=>(o.getD j none).isSome
 |[]=>rfl
 |a::r=>by
  rw[Vy,Wr];cases z:o.getD a none with
  |none=>exact ud r
  |some k=>show a::_=a::_;rw[<-ud r]
def G6(o:Own) (M:Nat):iX ((bX o M).map (·.1)).toArray:=by
 intro i k x y hik hx hy;have p:((bX o M).map (·.1)).Pairwise (·<·):=by unfold bX;rw[ud];exact(XW).filter _
 rw[ZI]at hx hy;obtain⟨h1,e1⟩:=Vz.mp hx;obtain⟨h2,e2⟩:=Vz.mp hy;rw[<-e1,<-e2];exact XX.mp p i k h1 h2 hik
theorem GL{α β:Type}{f:α->Option β}{g:α->β}:∀{l:List α},(∀x∈l,f x=some (g x))->l.filterMap f=l.map g
 |[],_=>rfl
 |a::r,h=>by rw[Vy,h a V1,VH,GL λx hx=>h x (V5 _ hx)]
def Af{t:SetTable}{es:Array Ent}{wanted:Nat}(hf:full (sizeAbove wanted-1+1)=true)(ho:(sizeAbove wanted-1)%2=1)(hl:es.size<=sizeAbove wanted-1) : ∃es' t',relayAll t es wanted=(es',t',false)/\TB t' es'/\es'.toList.Perm es.toList/\t'.led=t.led/\t'.plain=t.plain/\t'.mask=sizeAbove wanted-1:=by
 obtain⟨o,e,O⟩:=BS hf (hs:=es.map (·.1)) (by simpa using hl);generalize hm:sizeAbove wanted-1=m at *;have hn:(es.map (·.1)).toList.length=es.size:=by simp
 have pm:=O.pm;rw[hn]at pm;have order_lt:∀k∈(bX o (m+1)).map (·.2),k<es.size:=λk hk=>VL.mp (pm.mem_iff.mp hk);have hg:∀k∈(bX o (m+1)).map (·.2),es[k]?=some (es.getD k (0,.none)):=λk hk=>by have:=order_lt k hk;rw[Wq,W6 this];rfl
 have esL:(((bX o (m+1)).map (·.2)).toArray.filterMap (es[·]?)).toList=((bX o (m+1)).map (·.2)).map λk=>es.getD k (0,.none):=by rw[Array.toList_filterMap];exact GL hg
 have len:(bX o (m+1)).length=es.size:=by have:=pm.length_eq;rw[V4,VI]at this;exact this
 have es'sz:(((bX o (m+1)).map (·.2)).toArray.filterMap (es[·]?)).size=es.size:=by rw[<-W0,esL,V4,V4,len]
 have rel:t.relaid (es.map (·.1)) wanted=some ({ mask:=m,place:=((bX o (m+1)).map (·.1)).toArray,dummies:=#[],finger:=t.finger,led:=t.led,moves:=t.movedTo m,plain:=t.plain },((bX o (m+1)).map (·.2)).toArray):=by unfold relaid laid;rw[hm];show(layClean m (es.map (·.1))).bind _=_;rw[e];rfl
 have psz:((bX o (m+1)).map (·.1)).toArray.size=es.size:=by rw[VO,V4,len]
 have T:TB { mask:=m,place:=((bX o (m+1)).map (·.1)).toArray,dummies:=#[],finger:=t.finger,led:=t.led,moves:=t.movedTo m,plain:=t.plain } (((bX o (m+1)).map (·.2)).toArray.filterMap (es[·]?)):=by
  have at_:∀(i j:Nat),((bX o (m+1)).map (·.1)).toArray[i]?=some j->∃k,(bX o (m+1))[i]?=some (j,k):=λi j h=>by
   rw[ZI,VQ]at h;cases z:(bX o (m+1))[i]? with
   |none=>rw[z]at h;cases h
   |some p=>rw[z]at h;obtain⟨a,b⟩:=p;cases h;exact⟨b,rfl⟩
  have inj:∀j k:Nat,o[j]?=some (some k)->j<=m->In { mask:=m,place:=((bX o (m+1)).map (·.1)).toArray,dummies:=#[],finger:=t.finger,led:=t.led,moves:=t.movedTo m,plain:=t.plain } j:=λj k h hj=>by obtain⟨i,hi⟩:=We (tT.mpr ⟨ZC hj,h⟩);refine⟨i,?_⟩;show((bX o (m+1)).map (·.1)).toArray[i]?=some j;rw[ZI,VQ,hi];rfl
  refine⟨by rw[es'sz];exact psz,G6 o (m+1),λi j h=>?_,rfl,hf,ho,by show _<=m;rw[psz];exact hl,λi j f h hf'=>?_⟩;{obtain⟨k,hk⟩:=at_ i j h;have:=(tT.mp (VZ hk)).1;show j<=m;lia};obtain⟨k,hk⟩:=at_ i j h;have mem:=tT.mp (VZ hk);have f1:(((bX o (m+1)).map (·.2)).toArray.filterMap (es[·]?)).toList[i]?=some f:=by rw[Vp];exact hf'
  rw[esL,VQ,VQ,hk]at f1;have f2:es.getD k (0,.none)=f:=Option.some.inj f1;have AO:k∈(bX o (m+1)).map (·.2):=V6.mpr ⟨_,VZ hk,rfl⟩;have f3:=hg k AO;rw[f2]at f3;have f4:(es.map (·.1)).toList[k]?=some f.1:=by rw[Vp,Array.getElem?_map,f3];rfl
  obtain⟨n,c1,c2,c3⟩:=O.rc j k f.1 mem.2 f4;refine⟨n,c1,c2,λn' l=>?_⟩;obtain⟨k',z⟩:=c3 n' l;exact inj _ k' z (vW m f.1 n')
 refine⟨_,_,?_,T,?_,rfl,rfl,rfl⟩;{unfold relayAll;rw[rel];dsimp only;rw[if_pos];rw[V9];refine⟨?_,T.fits⟩;unfold coversAll;exact List.isPerm_iff.mpr pm};rw[esL];have p2:=pm.map λk=>es.getD k (0,.none);refine p2.trans (List.Perm.of_eq ?_);refine Wl λi=>?_;rw[VQ];by_cases q:i<es.size;{rw[W7 q,Vp,W6 q];show some (es.getD i (0,.none))=_;rw[Wq,W6 q];rfl};rw[Vr (by rw[VI];lia),Vp,Yh (by lia)];rfl
def MX:full 16=true:=by decide+kernel
def M0:full 64=true:=by decide+kernel
def Jz:full 256=true:=by decide+kernel
def BJ:∀n,n<=127->[8,16,32,64,128,256,512].contains (sizeAbove (grown n))=true/\n<sizeAbove (grown n):=by decide+kernel
def Dh{n:Nat}(hn:n<=127):full (sizeAbove (grown n)-1+1)=true/\(sizeAbove (grown n)-1)%2=1/\n<=sizeAbove (grown n)-1:=by
 obtain⟨h1,h2⟩:=BJ n hn;generalize sizeAbove (grown n)=z at *;have:z=8\/z=16\/z=32\/z=64\/z=128\/z=256\/z=512:=by simpa using h1
 rcases this with rfl|rfl|rfl|rfl|rfl|rfl|rfl;{exact⟨AK,rfl,by lia⟩};{exact⟨MX,rfl,by lia⟩};{exact⟨M7,rfl,by lia⟩};{exact⟨M0,rfl,by lia⟩};{exact⟨JA,rfl,by lia⟩};{exact⟨Jz,rfl,by lia⟩};exact⟨Kf,rfl,by lia⟩
section
variable{prog:Program}{w:World}{K:Type} [DecidableEq K]{knd:KeyKind prog w K}{A:Around}{E:Zk}{s:Shared}
def B8(n:Nat)(h:carriedByValue v=true):ofAClassStatement n v=pure false:=by
 cases v with
 |ref a=>exact absurd (show false=true from h) VY
 |_=>simp only[ofAClassStatement]
def yy{a:Addr}(hk:IsTupleKey knd s.heap ks a)(h:Q false s):wpAny (model prog w) A (ofAClassStatement 8 (.ref a)) Q E s:=by obtain⟨o,items,n,ho,hc,hd,hi⟩:=hk;unfold ofAClassStatement;have hT:s.TypeIs (.ref a) "tuple":=⟨o,ho,hc⟩;refine V0 (XO hT ?_);refine V0 (V2 ?_);simp only[Yi,Ws,WZ];refine V0 (wpAny_seqItems ho hd ?_);refine V0 ?_;show wpAny _ _ (forIn items _ _) _ _ s;rw[<-Array.forIn_toList];refine Yj _ (λrest r s'=>r.1=none/\s'=s/\∀v∈rest,carriedByValue v=true) _ ?_ ?_ _ _ ⟨rfl,rfl,hi.byValue⟩;{rintro v rest r s'⟨hr,rfl,hall⟩;rw[B8 _ (hall v V1)];refine V0 (V2 ?_);simp only[Ws,WZ];exact V2 ⟨rfl,rfl,λu hu'=>hall u (V5 _ hu')⟩};rintro⟨r1,r2⟩s'⟨hr,rfl,_⟩;simp only at hr;subst hr;exact V2 h
end
section
variable{prog:Program}{w:World}{K:Type} [DecidableEq K]{knd:KeyKind prog w K}{A:Around}{E:Zk}{s:Shared}
def DO{b:Addr}(hk:IsTupleKey knd s.heap k b)(hy:∀y∈ys,∃k' a,y=Value.ref a/\IsTupleKey knd s.heap k' a)(h:Q false s) : wpAny (model prog w) A (searchCouldBeSeen (.ref b) ys) Q E s:=by
 unfold searchCouldBeSeen;refine V0 ?_;refine Yj _ (λrest r s'=>r.1=none/\s'=s/\∀y∈rest,∃k' a,y=Value.ref a/\IsTupleKey knd s.heap k' a) _ ?_ ?_ _ _ ⟨rfl,rfl,hy⟩
 .rintro v rest r s'⟨hr,rfl,hall⟩;obtain⟨k',a,rfl,ha⟩:=hall v V1;have next:∀u∈rest,∃k' a,u=Value.ref a/\IsTupleKey knd s'.heap k' a:=λu hu=>hall u (V5 _ hu)
  dsimp only;by_cases q:(b==a)=true;{rw[if_pos (by rw[q];rfl)];exact V2 ⟨rfl,rfl,next⟩};rw[if_neg (by rw[Bool.not_eq_true]at q;rw[q];exact VY)];refine V0 (wpAny_eqIsQuiet_tuple hk ?_);simp only[Yi,Ws,WZ];refine V0 (wpAny_eqIsQuiet_tuple ha ?_);simp only[Yi,Ws,WZ];refine V0 (yy hk ?_);simp only[Ws,WZ];refine V0 (yy ha ?_);simp only[Ws,WZ];exact V2 ⟨rfl,rfl,next⟩
 rintro⟨r1,r2⟩s'⟨hr,rfl,_⟩;simp only at hr;subst hr;exact V2 h
end
section
variable{prog:Program}{w:World}{K:Type} [DecidableEq K]{knd:KeyKind prog w K}{A:Around}{E:Zk}{s:Shared}{t:SetTable}{es:Array Ent}
def rQ(knd:KeyKind prog w K)(h:Heap)(e:Ent)(k:List K):Prop:=∃b,e.2=.ref b/\e.1=tupleKeyHash knd k/\IsTupleKey knd h k b
structure SK(knd:KeyKind prog w K)(h:Heap)(es:Array Ent)(ks:List (List K)):Prop where
 ok:∀e∈es.toList,∃k,k∈ks/\rQ knd h e k
 on:∀k∈ks,∃e,e∈es.toList/\rQ knd h e k
 len:es.size=ks.length
theorem rQ.inj(a:rQ knd h e k)(b:rQ knd h e k'):k=k':=by obtain⟨x,e1,_,h1⟩:=a;obtain⟨y,e2,_,h2⟩:=b;rw[e1]at e2;cases e2;exact(tupleKind knd).inj h1 h2
def TB.before(T:TB t es){h:Int}{N:Nat}(hN:¬In t (pr t.mask h N).j)(hw:Way t h N){i:Nat}(he:es[i]?=some e)(eh:e.1=h):∃n,n<N/\t.place[i]?=some (pr t.mask h n).j:=by
 have hi:i<t.place.size:=by rw[T.sz];exact oS he
 have hp:t.place[i]?=some t.place[i]:=W6 hi;obtain⟨n,_,e1,e2⟩:=T.rc i _ e hp he;rw[eh]at e1 e2;refine⟨n,?_,by rw[hp,e1]⟩;rcases XT n N with z|z|z;{exact z};{subst z;exact absurd ⟨i,by rw[hp,e1]⟩ hN};exact absurd (e2 N z) hN
end
section
variable{prog:Program}{w:World}{K:Type} [DecidableEq K]{knd:KeyKind prog w K}{A:Around}{E:Zk}{s:Shared}{t:SetTable}{es:Array Ent}
theorem sD{a b:Addr}{ep N:Nat}(hr:A.units<cLine)(ho:s.heap.get? a=some o)(hd:o.data=.set es ep t)(T:TB t es)(S:SK knd s.heap es ks)(hk:IsTupleKey knd s.heap k b)(hl:N<10*turns t.mask)(hN:¬In t (pr t.mask (tupleKeyHash knd k) N).j)(hw:Way t (tupleKeyHash knd k) N)(q:Q (if k∈ks then .there none else .free (pr t.mask (tupleKeyHash knd k) N).j false) s) : ∀(fuel n:Nat)(p:Option Probe),n<=N->N-n<fuel->p.getD (t.probeStart (tupleKeyHash knd k))=pr t.mask (tupleKeyHash knd k) n->(∀(m i:Nat)(e:Ent),m<n->t.place[i]?=some (pr t.mask (tupleKeyHash knd k) m).j->es[i]?=some e->¬rQ knd s.heap e k)->wpAny (model prog w) A (setSearchFrom a (.ref b) (tupleKeyHash knd k) true fuel p) Q E s
 |0,n,p,h1,h2,h3,h4=>absurd h2 (WH _)
 |fuel+1,n,p,h1,h2,h3,h4=>by
  rw[setSearchFrom.eq_2];refine V0 (Wt ho hd T.fits ?_);dsimp only;rw[if_neg (by rw[T.OF];exact VY),h3];have z:=xx T.ri T.du (hashAt:=λi=>(Option.map (λx=>x.fst) es[i]?).getD 0) hN hw (10*turns t.mask) n h1 (by lia);have entry:∀i j:Nat,t.place[i]?=some j->∃e,es[i]?=some e:=λi j h=>by
   have hi:i<es.size:=by rw[<-T.sz];exact oS h
   exact⟨es[i],W6 hi⟩
  rcases z with⟨z1,z2⟩|⟨m,i,c1,c2,c3,c4,c5,c6⟩
  .have no:k∉ks:=λhin=>by obtain⟨e,he,eo⟩:=S.on k hin;obtain⟨i,hi⟩:=We he;rw[Vp]at hi;obtain⟨b',_,eh,_⟩:=id eo;obtain⟨n',hn',hp⟩:=T.before hN hw hi eh;by_cases c:n'<n;{exact h4 n' i e c hp hi eo};refine z2 n' i (by lia) hn' hp ?_;rw[hi];exact eh
   rw[if_neg no]at q;split
   .next met heq=>
    have e:=z1.symm.trans heq;cases e;exact V2 q
   next x hx=>
   exact absurd z1 (hx _)
  obtain⟨e,he⟩:=entry i _ c3;obtain⟨k',hk',eo⟩:=S.ok e (VZ (by rw[Vp];exact he));obtain⟨b',e1,e2,e3⟩:=id eo;obtain⟨eh,ev⟩:=e;simp only at e1 e2;subst e1;have more:∀{P:Unit->Sem SetFound},wpAny (model prog w) A (P ()) Q E s->wpAny (model prog w) A (if(!t.led)=true then do
       let r <-searchCouldBeSeen (.ref b) (List.map (λx=>x.snd) (Array.filter (λx=>x.fst==tupleKeyHash knd k) es).toList)
       if r=true then do
         let r <-unsupported "set:the-search-would-show-the-table"
         P r
        else P ()
      else P ()) Q E s:=λhP=>by
   split
   .refine V0 (DO hk (λy hy=>?_) ?_)
    .obtain⟨f,hf,rfl⟩:=V6.mp hy;obtain⟨k2,_,b2,f1,_,f3⟩:=S.ok f (by
      have:=Z5.mp hf;rw[Z5];exact(Array.mem_filter.mp this).1)
     exact⟨k2,b2,f1,f3⟩
    .rw[if_neg VY];exact hP
   .exact hP
  split
  .next met heq=>
   have e:=c5.symm.trans heq;cases e;dsimp only;refine more (P:=λ_=>_) ?_;rw[he];dsimp only;refine V0 (Vo (wpAny_eqBool_tuple hr e3 hk ?_));refine V0 (Wt ho hd T.fits ?_);dsimp only;by_cases c:k'=k;{subst c;rw[if_pos hk']at q;rw[Ve rfl];rw[if_pos (by rfl)];exact V2 q};rw[W4 c];rw[if_neg (by simp)];have sm:t.sameMemory t.moves t.mask=some true:=by unfold sameMemory;rw[if_pos (by simp)]
   rw[sm];dsimp only;rw[if_pos rfl,yb T.ri c3];dsimp only;rw[he];dsimp only;refine V0 (wpAny_isSame_ref_self ?_);refine V0 (V2 ?_);rw[if_pos rfl];dsimp only;rw[if_neg VY];refine sD hr ho hd T S hk hl hN hw q fuel (m+1) (some (pr t.mask (tupleKeyHash knd k) (m+1))) (by lia) (by lia) rfl λm' i' e' hm' hp' he' eo'=>?_;rcases Vt m' n with l|l;{exact h4 m' i' e' l hp' he' eo'};rcases Vt m' m with l2|l2;{refine c6 m' i' l l2 hp' ?_;rw[he'];obtain⟨_,_,g,_⟩:=eo';exact g};have em:m'=m:=by lia
   subst em;have ei:=T.ri.inj hp' c3;subst ei;rw[he]at he';cases he';exact c (eo.inj eo')
  next x hx=>
  exact absurd c5 (hx _)
end
section
variable{prog:Program}{w:World}{K:Type} [DecidableEq K]{knd:KeyKind prog w K}{A:Around}{E:Zk}{s:Shared}{t:SetTable}{es:Array Ent}
def Hh(n:Nat)(h:carriedByValue v=true):∃c,hashByValue n v=pure c:=by
 cases v with
 |ref a=>exact absurd (show false=true from h) VY
 |none=>exact⟨_,hashByValue.eq_1 n⟩
 |bool b=>exact⟨_,hashByValue.eq_2 n b⟩
 |int i t=>exact⟨_,hashByValue.eq_3 n i t⟩
 |float b t=>exact⟨_,hashByValue.eq_4 n b t⟩
 |str x t=>exact⟨_,hashByValue.eq_5 n x t⟩
 |bytes x t=>exact⟨_,hashByValue.eq_6 n x t⟩
 |ellipsis=>exact⟨_,hashByValue.eq_7 n⟩
 |notImplemented=>exact⟨_,hashByValue.eq_8 n⟩
 |type x=>exact⟨_,hashByValue.eq_9 n x⟩
 |builtin x=>exact⟨_,hashByValue.eq_10 n x⟩
def Ic{a:Addr}(hk:IsTupleKey knd s.heap k a)(h:∀c,Q c s):wpAny (model prog w) A (hashByValue 8 (.ref a)) Q E s:=by
 obtain⟨o,items,n,ho,hc,hd,hi⟩:=hk;rw[hashByValue.eq_12];refine V0 (wpAny_specialOf (s:=s) ⟨o,ho,hc⟩ F.slot_tuple_hash.lookup ?_);dsimp only;refine V0 (wpAny_seqItems ho hd ?_);refine V0 ?_;show wpAny _ _ (forIn items _ _) _ _ s;rw[<-Array.forIn_toList];refine Yj _ (λrest r s'=>s'=s/\∀v∈rest,carriedByValue v=true) _ ?_ ?_ _ _ ⟨rfl,hi.byValue⟩
 .rintro v rest r s'⟨rfl,hall⟩;obtain⟨c,e⟩:=Hh 7 (hall v V1);rw[e];refine V0 (V2 ?_);split
  .exact V2 (by
    dsimp only;exact V2 (h _))
  exact V2 ⟨rfl,λu hu'=>hall u (V5 _ hu')⟩
 rintro⟨r1,r2⟩s'⟨rfl,_⟩;dsimp only;split<;>exact V2 (h _)
def Fz{wanted:Nat}(hf:full (sizeAbove wanted-1+1)=true)(ho:(sizeAbove wanted-1)%2=1)(hl:es.size<=sizeAbove wanted-1) : ∃t' ord,t.relaid (es.map (λx=>x.fst)) wanted=some (t',ord)/\TB t' (ord.filterMap (es[·]?))/\(ord.filterMap (es[·]?)).toList.Perm es.toList/\t'.mask=sizeAbove wanted-1:=by
 obtain⟨es',t',e,T,p,_,_,m⟩:=Af (t:=t) hf ho hl;unfold relayAll at e;cases z:t.relaid (es.map (λx=>x.fst)) wanted with
 |none=>rw[z]at e;dsimp only at e;injection e with _ e;injection e with _ e;cases e
 |some p'=>obtain⟨t2,ord⟩:=p';rw[z]at e;dsimp only at e;split at e;{injection e with e1 e;injection e with e2 _;subst e1;subst e2;exact⟨t2,ord,rfl,T,p,m⟩};injection e with _ e;injection e with _ e;cases e
def KH{a:Addr}{ep wanted:Nat}(ha:s.heap.get? a=some o)(hd:o.data=.set es ep t)(fit:t.fits es.size=true)(hf:full (sizeAbove wanted-1+1)=true)(ho:(sizeAbove wanted-1)%2=1)(hl:es.size<=sizeAbove wanted-1)(hz:sizeAbove wanted<=sizeLine)(q:∀t' es',TB t' es'->es'.toList.Perm es.toList->t'.mask=sizeAbove wanted-1->Q () { s with heap:=s.heap.update a (Obj.putSet es' t') }):wpAny (model prog w) A (setRelay a wanted) Q E s:=by
 unfold setRelay;refine V0 (Wt ha hd fit ?_);dsimp only;rw[if_neg (by lia)];obtain⟨t',ord,e,T,p,m⟩:=Fz (t:=t) (es:=es) hf ho hl;rw[e];have sz:(ord.filterMap (es[·]?)).size=es.size:=by have z:=p.length_eq;rw[W0,W0]at z;exact z
 have go:∀{m0:Sem (Array Ent×SetTable)}{f:Array Ent×SetTable->Sem Unit}{Q':Unit->Shared->Prop},wpAny (model prog w) A (f (ord.filterMap (es[·]?),t')) Q' E s->wpAny (model prog w) A ((if((ord.filterMap (es[·]?)).size != es.size)=true then m0 else pure (ord.filterMap (es[·]?),t'))>>=f) Q' E s:=λh=>by rw[if_neg (by rw[sz];simp)];exact V0 (V2 h)
 refine go (f:=λx=>storeSet a x.fst x.snd) ?_;dsimp only;refine Yk ha hd (q _ _ T p m) ?_;have:=hl;lia
end
section
variable{prog:Program}{w:World}{K:Type} [DecidableEq K]{knd:KeyKind prog w K}{A:Around}{E:Zk}{s:Shared}{t:SetTable}{es:Array Ent}
def TB.pl(T:TB t es)(c:Bool):TB { t with plain:=c } es:=⟨T.sz,T.ri,T.le,T.du,T.fu,T.od,T.nf,T.rc⟩
def lD{p:Nat}(hp:p<=es.size)(e f:Ent):f∈(insertAt es p e).toList↔f=e\/f∈es.toList:=by constructor;{intro h;obtain⟨i,hi⟩:=We h;rw[Vp,i6 hp]at hi;by_cases c:i<p;{rw[if_pos c]at hi;exact .inr (VZ (by rw[Vp];exact hi))};rw[if_neg c]at hi;by_cases c2:i=p;{rw[if_pos c2]at hi;exact .inl (Option.some.inj hi).symm};rw[if_neg c2]at hi;exact .inr (VZ (by rw[Vp];exact hi))};intro h;rcases h with rfl|h;{refine VZ (i:=p) ?_;rw[Vp,i6 hp,if_neg (Vx _),if_pos rfl]};obtain⟨i,hi⟩:=We h;rw[Vp]at hi;by_cases c:i<p;{refine VZ (i:=i) ?_;rw[Vp,i6 hp,if_pos c,hi]};refine VZ (i:=i+1) ?_;rw[Vp,i6 hp,if_neg (by lia),if_neg (by lia),Nat.add_sub_cancel,hi]
def SK.put{b:Addr}{p:Nat}(S:SK knd h es ks)(hp:p<=es.size)(hk:IsTupleKey knd h k b):SK knd h (insertAt es p (tupleKeyHash knd k,.ref b)) (ks++[k]):=by
 refine⟨λe he=>?_,λk' hk'=>?_,by rw[iR hp,S.len,VD,Wc]⟩;{rcases(lD hp _ _).mp he with rfl|he;{exact⟨k,by simp,b,rfl,rfl,hk⟩};obtain⟨k',h1,h2⟩:=S.ok e he;exact⟨k',by simp[h1],h2⟩};rcases V8.mp hk' with h1|h1;{obtain⟨e,h2,h3⟩:=S.on k' h1;exact⟨e,(lD hp _ _).mpr (.inr h2),h3⟩};have:k'=k:=by simpa using h1
 subst this;exact⟨_,(lD hp _ _).mpr (.inl rfl),b,rfl,rfl,hk⟩
def SK.perm(S:SK knd h es ks)(p:es'.toList.Perm es.toList):SK knd h es' ks:=by refine⟨λe he=>S.ok e (p.mem_iff.mp he),λk hk=>?_,?_⟩;{obtain⟨e,h1,h2⟩:=S.on k hk;exact⟨e,p.mem_iff.mpr h1,h2⟩};have:=p.length_eq;rw[W0,W0]at this;rw[this,S.len]
def SK.mono(S:SK knd h es ks)(m:∀k b,IsTupleKey knd h k b->IsTupleKey knd h' k b):SK knd h' es ks:=by refine⟨λe he=>?_,λk hk=>?_,S.len⟩;{obtain⟨k,h1,b,h2,h3,h4⟩:=S.ok e he;exact⟨k,h1,b,h2,h3,m k b h4⟩};obtain⟨e,h1,b,h2,h3,h4⟩:=S.on k hk;exact⟨e,h1,b,h2,h3,m k b h4⟩
def yt:∀n,n<=127->n*5<(sizeAbove (grown n)-1)*3/\sizeAbove (grown n)<=512:=by decide+kernel
structure rq(knd:KeyKind prog w K)(h0:Heap)(o:Obj)(ks:List (List K)):Prop where
 ex:o.ExactSet
 tb:∃es ep t,o.data=.set es ep t/\TB t es/\es.size*5<t.mask*3/\t.mask<=511/\SK knd h0 es ks
def Q8{a b:Addr}(hr:A.units<cLine)(ha:s.heap.get? a=some o)(S:rq knd h0 o ks)(keep:∀k b,IsTupleKey knd h0 k b->IsTupleKey knd s.heap k b)(hk0:IsTupleKey knd h0 k b)(few:ks.length+1<=127)(q0:k∈ks->Q false s)(q1:k∉ks->∀h' o',Heap.SameBut a s.heap h'->h'.get? a=some o'->rq knd h0 o' (ks++[k])->Q true { s with heap:=h' }) : wpAny (model prog w) A (setAddHashed a (.ref b) (tupleKeyHash knd k)) Q E s:=by
 obtain⟨ex,es,ep,t,hd,T,nf,hm,sk⟩:=S;have hk:=keep k b hk0;unfold setAddHashed;refine Vo ?_;rw[show(100000:Nat)=Nat.succ 99999 from rfl,setAddHashedIn.eq_2];refine V0 (Wt ha hd T.fits ?_);dsimp only;rw[if_neg (by simp[byScan,Value.scannable])];unfold setSearch;obtain⟨N,hl,hN,hw⟩:=T.first (tupleKeyHash knd k);have lim:10*turns t.mask<=100000:=by unfold turns;lia
 refine V0 (sD hr ha hd T (sk.mono keep) hk hl hN hw ?_ 100000 0 none (VW _) (by lia) rfl λm i e hm'=>absurd hm' (WH _));by_cases c:k∈ks;{rw[if_pos c];exact V2 (q0 c)};rw[if_neg c];dsimp only;refine V0 (Wt ha hd T.fits ?_);dsimp only;have hj:=vW t.mask (tupleKeyHash knd k) N;have T1:=T.put (e:=(tupleKeyHash knd k,.ref b)) hl hN hw (by lia) hj;have hp:(t.put (pr t.mask (tupleKeyHash knd k) N).j).2<=es.size:=by rw[<-T.sz];exact zo T.ri _
 have S1:=sk.put hp hk0;have z1:=iR hp ((tupleKeyHash knd k,Value.ref b):Ent);have m1:(t.put (pr t.mask (tupleKeyHash knd k) N).j).1.mask=t.mask:=rfl;generalize (t.put (pr t.mask (tupleKeyHash knd k) N).j).1=t1 at *;generalize (t.put (pr t.mask (tupleKeyHash knd k) N).j).2=p1 at *;have len1:es.size+1<=127:=by rw[sk.len];exact few
 have tail:∀t2:SetTable,TB t2 (insertAt es p1 (tupleKeyHash knd k,.ref b))->t2.mask=t.mask->wpAny (model prog w) A (do
   storeSet a (insertAt es p1 (tupleKeyHash knd k,.ref b)) t2
   if(!false&&t2.tooFull)=true then do
    let _ <-setRelay a (grown (es.size+1))
    pure true
   else pure true) Q E s:=λt2 T2 m2=>by
  refine V0 (Yk ha hd ?_ ?_)
  .have po:=putSet_of (insertAt es p1 (tupleKeyHash knd k,.ref b)) t2 hd;have g1:(s.heap.update a (Obj.putSet (insertAt es p1 (tupleKeyHash knd k,.ref b)) t2)).get? a=some { o with data:=.set (insertAt es p1 (tupleKeyHash knd k,.ref b)) (ep+1) t2 }:=by
    rw[Wa _ ha (by rw[po];rfl),po]
   have sb:=Wu s.heap a (Obj.putSet (insertAt es p1 (tupleKeyHash knd k,.ref b)) t2);generalize s.heap.update a (Obj.putSet (insertAt es p1 (tupleKeyHash knd k,.ref b)) t2)=h1 at *;split
   .obtain⟨g2,g3,g4⟩:=Dh (n:=es.size+1) len1;obtain⟨g5,g6⟩:=yt (es.size+1) len1;refine V0 (KH (s:={ s with heap:=h1 }) g1 rfl T2.fits g2 g3 (by rw[z1];exact g4) (VS g6 (by decide)) λt3 es3 T3 p3 m3=>V2 ?_)
    have po3:=putSet_of (o:={ o with data:=.set (insertAt es p1 (tupleKeyHash knd k,.ref b)) (ep+1) t2 }) es3 t3 rfl
    have l3:=p3.length_eq;rw[W0,W0,z1]at l3;refine q1 c _ _ ⟨?_,λx hx=>?_⟩ (Wa _ g1 (by rw[po3];rfl)) ?_
    .exact(Wu h1 a (Obj.putSet es3 t3)).1.trans sb.1
    .exact((Wu h1 a (Obj.putSet es3 t3)).2 x hx).trans (sb.2 x hx)
    .rw[po3];exact⟨ex,es3,_,t3,rfl,T3,by rw[l3,m3];exact g5,by rw[m3];lia,S1.perm p3⟩
   .next nt=>
    refine V2 (q1 c _ _ sb g1 ⟨ex,_,_,t2,rfl,T2,?_,by lia,S1⟩)
    have e1:¬(t2.fill*5 >= t2.mask*3):=λq=>nt (by
     unfold tooFull;rw[Ve q];rfl)
    have e2:t2.fill=(insertAt es p1 (tupleKeyHash knd k,.ref b)).size:=by
     unfold fill;rw[T2.sz,T2.du];rfl
    rw[e2]at e1;lia
  .rw[z1];exact VS len1 (by decide)
 split
 .refine V0 (Ic hk λcb=>?_);cases cb with
  |true=>exact tail t1 T1 m1
  |false=>exact tail { t1 with plain:=false } (T1.pl false) m1
 refine V0 (V2 ?_);exact tail t1 T1 m1
end
section
variable{prog:Program}{w:World}{K:Type} [DecidableEq K]{knd:KeyKind prog w K}{A:Around}
def met(f:Nat->List K):Nat->List (List K)
 |0=>[]
 |i+1=>if f i∈met f i then met f i else met f i++[f i]
theorem rX(f:Nat->List K):∀i,(met f i).length<=i
 |0=>V3 _
 |i+1=>by have ih:=rX f i;unfold met;split;{lia};rw[VD,Wc];lia
theorem CI(f:Nat->List K)(k:List K):∀i,k∈met f i↔∃j,j<i/\f j=k
 |0=>⟨λh=>(nomatch h),λ⟨j,h,_⟩=>absurd h (WH _)⟩
 |i+1=>by
  have ih:=CI f k i;have up:(∃j,j<i+1/\f j=k)↔(∃j,j<i/\f j=k)\/f i=k:=by constructor;{rintro⟨j,h,e⟩;rcases Nat.lt_succ_iff_lt_or_eq.mp h with h|h;{exact .inl ⟨j,h,e⟩};subst h;exact .inr e};rintro (⟨j,h,e⟩|e);{exact⟨j,WM h,e⟩};exact⟨i,Wv i,e⟩
  rw[up,<-ih,show met f (i+1)=if f i∈met f i then met f i else met f i++[f i]from rfl];split
  .next c=>
   exact⟨.inl,λh=>h.elim id λe=>e▸c⟩
  rw[V8,VB];exact⟨λh=>h.elim .inl λe=>.inr e.symm,λh=>h.elim .inl λe=>.inr e.symm⟩
def zA(m:∀b o,h.get? b=some o->h'.get? b=some o)(k:List K)(b:Addr)(q:IsTupleKey knd h k b):IsTupleKey knd h' k b:=by obtain⟨o,its,n,ho,r⟩:=q;exact⟨o,its,n,m b o ho,r⟩
def JD(h0:Heap)(led:Bool):rq knd h0 { cls:=.type "set",dict:=none,data:=.set #[] 0 (.fresh 0 0 led) } []:=by refine⟨⟨rfl,rfl,rfl⟩,#[],0,_,rfl,⟨rfl,?_,?_,rfl,AK,(by decide:7%2=1),VW _,?_⟩,(by decide:0*5<7*3),(by decide:7<=511),⟨?_,?_,rfl⟩⟩;{intro i k x y _ hx;cases hx};{intro i j h;cases h};{intro i j e h;cases h};{intro e he;cases he};intro k hk;cases hk
section
variable{R:Result->Shared->Prop}{I:Addr}{fp wr:Zz}{G:Array GenState->Array GenState->Prop}{n:Nat}{P:Nat->Value->Prop}{St:Nat->Shared->Prop}
def Iv(W:PySem.WalksS prog w A.in1 I fp wr G n P St)(Z:Addr)(out:Z∉fp)(f:Nat->List K)(is:∀i v,P i v->∃b,v=.ref b/\IsTupleKey knd h0 (f i) b)(few:n<=126)(hu:A.units+1<cLine)(old:∀b o,h0.get? b=some o->b≠Z/\b∉wr):∀(d i:Nat)(s:Shared),n-i=d->i<=n->St i s->(∀b o,h0.get? b=some o->s.heap.get? b=some o)->(∃o,s.heap.get? Z=some o/\rq knd h0 o (met f i))->(∀s',PySem.Moved (Z::wr) G s s'->(∃o,s'.heap.get? Z=some o/\rq knd h0 o (met f n))->R (.ok (.ret .none)) s')->codeAny (model prog w) A (.builtin "set.update.loop" ⟨[.ref Z,.ref I],[]⟩) R s:=by
 have zw:Z∉wr:=λh=>out (W.sub _ h);have more:∀b∈wr,b∈Z::wr:=λb hb=>V5 _ hb;intro d;induction d with
 |zero=>
  intro i s hd hi st kp so fin;have e:i=n:=by lia
  subst e;refine Ww Yl ?_;rw[Xv XA _];refine V0 (m:=pyNext (.ref I)) (W.done s _ _ st λs' mv=>?_);obtain⟨o,ho,so⟩:=so;exact V2 (fin s' (mv.mono more) ⟨o,mv.heap Z o zw ho,so⟩)
 |succ d ih=>
  intro i s hd hi st kp so fin;have lt:i<n:=by lia
  refine Ww Yl ?_;rw[Xv XA _];refine V0 (m:=pyNext (.ref I)) (W.item i s _ _ lt st λv s' hP st' mv=>?_);obtain⟨b,rfl,kb⟩:=is i v hP;obtain⟨o,ho,so⟩:=so;have ho':=mv.heap Z o zw ho;have kp':∀b o,h0.get? b=some o->s'.heap.get? b=some o:=λb o hb=>mv.heap b o (old b o hb).2 (kp b o hb);refine V0 (m:=holding [.ref b] (setAdd Z (.ref b))) (Vo ?_);unfold setAdd;refine Vo (V0 (wpAny_pyHash_tuple (A:=A.in1) (by simpa using hu) (zA kp' _ _ kb) ?_));have ml:=rX f i;have up:∀(h':Heap)(o':Obj)(x:Bool),Heap.SameBut Z s'.heap h'->h'.get? Z=some o'->rq knd h0 o' (met f (i+1))->∀{tk:Nat},s'.toks<=tk->codeAny (model prog w) A (.builtin "set.update.loop" ⟨[.ref Z,.ref I],[]⟩) R { s' with heap:=h',toks:=tk }:=λh' o' x sb ho2 so2 {tk} tl=>by refine ih (i+1) _ (by lia) lt (W.frame _ s' _ _ st' tl λc hc oc ec=>?_) (λc oc hc=>?_) ⟨o',ho2,so2⟩ λs2 mv2 so3=>?_;{rw[sb.2 c (λq=>out (q▸hc))];exact ec};{show h'.get? c=some oc;rw[sb.2 c (old c oc hc).1];exact kp' c oc hc};refine fin s2 (PySem.Moved.trans W.gtrans ((mv.mono more).then_heap tl λc oc hc ec=>?_) mv2) so3;rw[sb.2 c (λq=>hc (by rw[q];exact V1))];exact ec
  refine Q8 (s:={ s' with toks:=s'.toks+((f i).length+1) }) (A:=A.in1) (by simpa using hu) ho' so (λk c hc=>zA kp' k c hc) kb (by lia) (λhin=>?_) λhout h' o' sb ho2 so2=>?_;{refine V2 ⟨YC XA _,?_⟩;refine up s'.heap o true ⟨rfl,λ_ _=>rfl⟩ ho' ?_ (YD _ _);rw[met,if_pos hin];exact so};refine V2 ⟨YC XA _,?_⟩;refine up h' o' true sb ho2 ?_ (YD _ _);rw[met,if_neg hout];exact so2
end
end
section
variable{prog:Program}{w:World}{K:Type} [DecidableEq K]{knd:KeyKind prog w K}{A:Around}{E:Zk}{s:Shared}
abbrev jg(led:Bool):Obj:={ cls:=.type "set",dict:=none,data:=.set #[] 0 (.fresh 0 0 led) }
def BN{l:Addr}{f:Nat->List K}(hh:A.handled=none)(hu:A.units+8<cLine)(hl:s.heap.IsList l its)(few:its.size<=126)(is:∀i v,its[i]?=some v->∃b,v=.ref b/\IsTupleKey knd s.heap (f i) b)(q:∀(h':Heap) (tk:Nat)(o:Obj),(∀b o',s.heap.get? b=some o'->h'.get? b=some o')->h'.get? s.heap.objs.size=some o->rq knd s.heap o (met f its.size)->Q (.ref s.heap.objs.size) { s with heap:=h',toks:=tk }) : wpAny (model prog w) A (call (.type "set") [.ref l]) Q E s:=by
 obtain⟨cc,tl,hmro⟩:=F.called_set.mro;have made':=F.called_set.made;have sub':=F.called_set.sub;refine Xl (Ym (?_:wpAny _ _ (callAny (.type "set") _) _ _ _));refine V2 ⟨ZJ _ (by decide+kernel),Ww F.entry_type_call (?_:_)⟩;rw[Around.under_plain (weight_type_call_type "set" [.ref l] []) rfl];have no':=F.called_set.notType;have can':=F.called_set.canCreate;have chk':=F.typeCall_set_1 (.ref l);repeat (any_goals (first|assumption|wp_step))
 refine Wm (code_set_new_1 (.ref l) (E:=E) (Q₁:=λob s1=>∃led:Bool,ob=.ref s.heap.objs.size/\s1={ s with heap:=s.heap.push (jg led) }) λled=>⟨led,rfl,rfl⟩) λr s1 hr1=>?_;cases r with
 |error e=>exact hr1
 |ok fl=>
  cases fl with
  |ret ob=>
   obtain⟨led,rfl,rfl⟩:=hr1;have zs:(s.heap.push (jg led)).get? s.heap.objs.size=some (jg led):=Vj _ rfl;have ty:Shared.TypeIs { s with heap:=s.heap.push (jg led) } (.ref s.heap.objs.size) "set":=⟨_,zs,rfl⟩;have li':=F.called_set.init.lookup;have bi':=F.called_set.init.bind (.ref s.heap.objs.size);repeat (any_goals (first|assumption|wp_step))
   refine Wm (ZK (R:=wants (λr s2=>r=.none/\∃h' tk o,s2={ s with heap:=h',toks:=tk }/\(∀b o',s.heap.get? b=some o'->h'.get? b=some o')/\h'.get? s.heap.objs.size=some o/\rq knd s.heap o (met f its.size)) E) F.called_set.init.plain F.entry_set_init (check_set_init_1 ty ?_)) λr2 s2 hr2=>?_
   .obtain⟨ol,hol,hcl,nl,hdl⟩:=hl;obtain⟨ocl,odi,oda,osl⟩:=ol;simp only at hcl hdl;subst hcl;subst hdl;have hol2:(s.heap.push (jg led)).get? l=some { cls:=.type "list",dict:=odi,data:=.seq its nl,slots:=osl }:=VM _ hol;have sl1:=F.sub_list_set;have sl2:=F.sub_list_frozenset;have nd':(Value.type "list" == Value.type "dict")=false:=by decide
    have hl1:(s.heap.push (jg led)).IsList l its:=⟨_,hol2,rfl,nl,rfl⟩;unfold Builtin.«set.__init__» noKeywords Builtin.Frozenset.updateFrom;generalize hPI:pyIter=PI
    wp_walk
    subst hPI;refine Xw hl1 (V0 (wpAny_runValue ?_));have lz:l<s.heap.objs.size:=VA hol;have h3:A.in1.in1.in1.handled=none:=by simp[hh]
    have nI:l≠(s.heap.push (jg led)).objs.size:=by rw[Wx];exact VC (WM lz)
    have out:s.heap.objs.size∉[(s.heap.push (jg led)).objs.size,l]:=by rw[Wx];simp only[V7,VE,WN,not_or];exact⟨VC (Wv _),X3 lz⟩
    refine Iv (knd:=knd) (h0:=s.heap) (Walks.list h3 _ l nI its).toS s.heap.objs.size out f is few (by simp;lia) (λb o hb=>?old) its.size 0 _ rfl (VW _) ⟨⟨_,Vj _ rfl,rfl,rfl⟩,hl1.push _⟩ (λb o hb=>VM _ (VM _ hb)) ⟨jg led,VM _ zs,JD _ led⟩ ?fin
    case old=>
     have bz:=VA hb;rw[Wx];simp only[V7,VE,WN];exact⟨VC bz,VC (WM bz)⟩
    case fin=>
     intro s' mv so;obtain⟨h',g',d',tk',os'⟩:=s';obtain rfl:g'=s.gens:=mv.gens;obtain rfl:d'=s.drawn:=mv.drawn;obtain rfl:os'=s.os:=mv.os;obtain⟨o,ho,so⟩:=so;refine V2 (?_:wpAny _ _ _ _ _ _);refine id (?_:wpAny _ _ (ret Value.none) _ _ _);refine V2 ⟨rfl,h',tk',o,rfl,λb o' hb=>?_,ho,so⟩
     have bz:=VA hb;refine mv.heap b o' ?_ (VM _ (VM _ hb));rw[Wx];simp only[V7,VE,WN,not_or];exact⟨VC bz,VC (WM bz)⟩
   cases r2 with
   |error e=>exact hr2
   |ok fl2=>
    cases fl2 with
    |ret r=>
     obtain⟨rfl,h',tk,o,rfl,kp,ho,so⟩:=hr2;repeat (any_goals (first|assumption|wp_step))
     exact q h' tk o kp ho so
    |_=>exact hr2.elim
  |_=>exact hr1.elim
end
end SM
namespace L2
open PySem PySem.Spec PyProof.Rows
def xg(a:Addr) (n:Nat):HO:=.ext λh=>∃o es ep t,h.get? a=some o/\o.ExactSet/\o.data=.set es ep t/\t.fits es.size=true/\es.size=n
theorem u9:∀{ns:A04}{us:Zy},Vals (ns.map V.int) us->ItemsAre (intKind P w) ns us
 |[],_,.nil=>.nil
 |n::ns,_,.cons h r=>by obtain⟨t,rfl⟩:=h;exact .cons (intKind_is P w n t) (u9 r)
def zJ(K:Zt)(H:Hp)(xs:List V)(kss:Zp):Prop:=xs.length=kss.length/\∀(i:Nat) (x:V)(ks:A04),xs[i]?=some x->kss[i]?=some ks->∃b,x=.ref b/\cG K H b (ks.map V.int)
section
variable{X:Cx}
theorem lI:∀{xs:List V}{us:Zy},Vals xs us->∀(i:Nat)(u:Value),us[i]?=some u->∃x,xs[i]?=some x/\RelV x u
 |_,_,.nil,i,u,h=>by cases h
 |_,_,.cons h r,0,u,e=>by cases e;exact⟨_,rfl,h⟩
 |_,_,.cons h r,i+1,u,e=>lI r i u e
def dn(kss:Zp):Nat:=(SM.met (λi=>kss.getD i []) kss.length).length
def HK(hc:X.calm=true)(hu:X.A.units+8<cLine):cu X (.type "set") (λxs H Q=>∃a ys kss,xs=[.ref a]/\cz X.K H a ys/\zJ X.K H ys kss/\kss.length<=126/\∀p,H p=none->Q (.ref p) (upd H p (xg p (dn kss)))):=by
 intro pins s U H xs us Q I r h;obtain⟨a,ys,kss,rfl,hq,tu,few,q⟩:=h;obtain⟨u,rfl,ru⟩:=vals1 r;cases ru;obtain⟨its,rv,p,_⟩:=I.list hq;have hlen:its.length=kss.length:=by rw[<-rv.length,tu.1]
 refine SM.BN (knd:=intKind X.prog X.w) (f:=λi=>kss.getD i []) (I.ok.hd hc) hu p.isList (by simpa[hlen]using few) (λi v hv=>?_) λh' tk o kp ho st=>?_
 .have hv':its[i]?=some v:=by simpa using hv
  obtain⟨x,hx,rx⟩:=lI rv i v hv';have hi:i<kss.length:=by have:=(Vz.mp hv').1;lia
  obtain⟨b,rfl,sb⟩:=tu.2 i x kss[i] hx (VX hi);cases rx;obtain⟨its2,r2,⟨o2,e2,c2,n2,d2⟩,_⟩:=I.tuple sb;refine⟨b,rfl,o2,its2.toArray,n2,e2,c2,d2,?_⟩;have e:kss.getD i []=kss[i]:=by rw[Vk,VX hi];rfl
  show ItemsAre _ (kss.getD i []) _;rw[e];exact u9 (by simpa using r2)
 obtain⟨ex,es,ep,t,hd,T,_,_,sk⟩:=st;have e:es.size=dn kss:=by rw[sk.len];unfold dn;rw[VO,hlen]
 refine⟨.ref s.heap.objs.size,_,I.laid (t':=tk) kp (V3 _) (o:=xg s.heap.objs.size (dn kss)) ?_,rfl,q _ (I.hok.fresh (V3 _))⟩;refine⟨⟨o,es,ep,t,ho,ex,hd,T.fits,e⟩,⟨o,ho⟩,λh1 h2 z k=>?_⟩;obtain⟨o,es,ep,t,z1,z2⟩:=z;exact⟨o,es,ep,t,k o z1,z2⟩
def Ie:cu X (.builtin "len") (λxs H Q=>∃a n,xs=[.ref a]/\H a=some (xg a n)/\n<1000/\Q (.int n) H):=by intro pins s U H xs us Q I r h;obtain⟨a,n,rfl,ha,hn,q⟩:=h;obtain⟨u,rfl,ru⟩:=vals1 r;cases ru;obtain⟨⟨o,es,ep,t,z1,z2,z3,z4,z5⟩,_⟩:=I.hok a _ ha;refine call_len_set z1 z2 z3 z4 (by rw[z5];lia) ?_;rw[z5];exact⟨.int n,H,I.tok _,⟨_,rfl⟩,q⟩
end
end L2
namespace L2
open PySem PySem.Spec PyProof.Rows PySem.SeqAt PySem.W
mutual
inductive m7(K:Zt)(H:Hp):V->PyData->Prop
 |bU:m7 K H .bU .none
 |bl (b:Bool):m7 K H (.bl b) (.bool b)
 |int (i:Int):m7 K H (.int i) (.int i)
 |str (x:Str):m7 K H (.str x) (.str x)
 |lst {a:Addr}{xs:List V}{ds:Zw}:cz K H a xs->tS K H xs ds->m7 K H (.ref a) (.list ds)
 |tup {a:Addr}{xs:List V}{ds:Zw}:cG K H a xs->tS K H xs ds->m7 K H (.ref a) (.tuple ds)
inductive tS(K:Zt)(H:Hp):List V->Zw->Prop
 |nil:tS K H [] []
 |cons {x:V}{d:PyData}{xs:List V}{ds:Zw}:m7 K H x d->tS K H xs ds->tS K H (x::xs) (d::ds)
end
section
variable{X:Cx}{pins:Zn}{U:St}{H:Hp}{s:Shared}
mutual
theorem Inv.reads(I:Inv X pins U H s):∀{v:V}{d:PyData}{u:Value},m7 X.K H v d->RelV v u->∃as,Reads s.heap u d as
 |_,_,_,.bU,r=>by cases r;exact⟨_,.none⟩
 |_,_,_,.bl b,r=>by cases r;exact⟨_,.bool b⟩
 |_,_,_,.int i,r=>by obtain⟨t,rfl⟩:=r;exact⟨_,.int i t⟩
 |_,_,_,.str x,r=>by obtain⟨t,rfl⟩:=r;exact⟨_,.str x t⟩
 |_,_,_,.lst hq hs,r=>by cases r;obtain⟨its,rv,p,_⟩:=I.list hq;obtain⟨as,ra⟩:=I.readsAll hs rv;obtain⟨o,ho,hc,n,hd⟩:=p.isList;exact⟨_,.list ho hc hd (by simpa using ra)⟩
 |_,_,_,.tup hq hs,r=>by cases r;obtain⟨its,rv,p,_⟩:=I.tuple hq;obtain⟨as,ra⟩:=I.readsAll hs rv;obtain⟨o,ho,hc,n,hd⟩:=(show s.heap.IsTuple _ its.toArray from p);exact⟨_,.tuple ho hc hd (by simpa using ra)⟩
theorem Inv.readsAll(I:Inv X pins U H s):∀{vs:List V}{ds:Zw}{us:Zy},tS X.K H vs ds->Vals vs us->∃as,ReadsAll s.heap us ds as
 |_,_,_,.nil,r=>by cases r;exact⟨_,.nil⟩
 |_,_,_,.cons h hs,r=>by
  cases r with
  |cons r1 r2=>obtain⟨as,ra⟩:=I.reads h r1;obtain⟨bs,rb⟩:=I.readsAll hs r2;exact⟨_,.cons ra rb⟩
end
inductive KP(K:Zt)(neg:Bool) (x:V) (y:V)(H:Hp)(Q:VK):Prop
 |mk:∀d e,(m7 K H x d)->(m7 K H y e)->(shaped d=true)->(shaped e=true)->(noMix d e=true)->(Q (.bl (if neg then !same d e else same d e)) H)->KP K neg x y H Q
def KG(K:Zt)(neg:Bool):R2:=λx y H Q=>KP K neg x y H Q
def Rg(hu:X.A.units+64<cLine):b5 X (compareOp .Eq) (KG X.K false):=by intro pins s U H x y v u Q I rx ry h;obtain⟨d,e,h1,h2,s1,s2,nm,q⟩:=h;obtain⟨as,ra⟩:=I.reads h1 rx;obtain⟨bs,rb⟩:=I.reads h2 ry;exact eq_dataH_same ra rb s1 s2 hu nm ⟨.bl _,H,I,rfl,q⟩
def QK(hu:X.A.units+64<cLine):b5 X (compareOp .NotEq) (KG X.K true):=by intro pins s U H x y v u Q I rx ry h;obtain⟨d,e,h1,h2,s1,s2,nm,q⟩:=h;obtain⟨as,ra⟩:=I.reads h1 rx;obtain⟨bs,rb⟩:=I.reads h2 ry;exact ne_dataH_same ra rb s1 s2 hu nm ⟨.bl _,H,I,rfl,q⟩
end
end L2
namespace L2
open PySem PySem.Spec PyProof.Rows
section
variable{X:Cx}{e:Expr}{te:TE}
def Ga(hc:X.calm=true):cu X (.builtin "all") (λxs H Q=>∃(a:Addr)(bs:A00),xs=[.ref a]/\cz X.K H a (bs.map V.bl)/\Q (.bl (bs.all id)) H):=by
 intro pins s U H xs us Q I r h;obtain⟨a,bs,rfl,hq,q⟩:=h;obtain⟨u,rfl,ru⟩:=vals1 r;cases ru;obtain⟨its,rv,p,_⟩:=I.list hq;have hl:=p.isList;have hlt:a<s.heap.objs.size:=by obtain⟨o,ho,_⟩:=id hl;exact VA ho
 have hh:X.A.in1.handled=none:=by simp[I.ok.hd hc]
 refine call_all_walk (Xw hl ?_);refine⟨_,_,_,_,_,_,λi=>bs.getD i false,rfl,Walks.list hh _ a (VC hlt) its.toArray,⟨⟨_,Vj _ rfl,rfl,rfl⟩,hl.push _⟩,λi v s' Q' E' hP hQ=>?_,λh' tk hk=>?_⟩
 .have hP':its[i]?=some v:=by simpa using hP
  obtain⟨x,hx,rx⟩:=lI rv i v hP';rw[VQ]at hx;cases e:bs[i]? with
  |none=>rw[e]at hx;cases hx
  |some b=>
   rw[e]at hx;cases hx;cases rx;have e2:bs.getD i false=b:=by rw[Vk,e];rfl
   dsimp only at hQ;rw[e2]at hQ;exact XM hQ
 have kp:∀b o,s.heap.get? b=some o->h'.get? b=some o:=λb o hb=>hk b o (by
  have:=VA hb;simp only[VB];exact VC this) (VM _ hb)
 have len:its.toArray.size=bs.length:=by rw[VO,<-rv.length,V4]
 refine⟨.bl _,H,I.kept (t':=tk) kp,rfl,?_⟩;have e:(List.range its.toArray.size).all (λi=>bs.getD i false)=bs.all id:=by rw[len];rw[Wi,VN,VN];constructor;{intro h b hb;obtain⟨i,hi⟩:=We hb;have:=h i (VL.mpr (Vz.mp hi).1);rw[Vk,hi]at this;exact this};intro h i hi;have hi':=VL.mp hi;rw[Vk,VX hi'];exact h _ (Wj hi')
 rw[e];exact q
end
end L2
namespace L2
open PySem PySem.Spec PyProof.Rows PySem.W Builtin Builtin.ObjectAttr
def uT(l:Zy):Bool:=match l with
 |.ref _::r=>uT r
 |l=>l==oK
theorem zB(T:String)(hT:oK.contains (.type T)=true):∀(l:Zy),uT l=true->l.contains (.type T)=true
 |[],e=>by cases e
 |v::r,e=>by
  cases v with
  |ref c=>rw[Z2,zB T hT r e,Bool.or_true]
  |type n=>have e:(Value.type n::r==oK)=true:=e;rw[beq_iff_eq.mp e];exact hT
  |_=>cases e
def LH:∀(l:Zy),uT l=true->l.isEmpty=false
 |[],e=>by cases e
 |_::_,_=>rfl
def QZ(K:Frag)(C:Addr):Bool:=(clsIn K C).any λcd=>uT cd.mro&&cd.hasDict
structure oV(K:Frag)(C:Addr):Prop where
 cd:QZ K C=true
 sa:findIn K (.ref C) "__setattr__"=some (some (.builtin "object.__setattr__"))
 ga:findIn K (.ref C) "__getattribute__"=some (some (.builtin "BaseException.__getattribute__"))
 ng:findIn K (.ref C) "__getattr__"=some none
section
variable{prog:Program}{w:World}{A:Around}{E:Zk}{s:Shared}{K:Frag}{x C:Addr}{name:Str}{v:Value}{vs:Zv}{sl:Zj}
def So(X:K.In h)(I:InstAt h x ox C od)(F:oV K C)(T:String)(hT:oK.contains (.type T)=true):Looks M h (isInstance (.ref x) (.type T)) true:=by obtain⟨cd,hc,ho⟩:=any_some F.cd;rw[V9]at ho;exact I.type.andThen (looks_mroIn X (by unfold mroIn;rw[hc,ZL,if_neg (by rw[LH _ ho.1];decide),zB T hT _ ho.1]))
end
section
variable{prog:Program}{w:World}{A:Around}{E:Zk}{s:Shared}{K:Frag}{x C:Addr}{ox:Obj}{od:Option Obj}{name:Str}{v:Value}{tk:Tok}{fill expr:Bool}
def JZ:builtinKind "BaseException.__getattribute__"=some .slot:=by decide+kernel
def Ij:splitId "BaseException.__getattribute__"=some ("BaseException","__getattribute__"):=by decide+kernel
def Nk(X:K.In s.heap)(I:InstAt s.heap x ox C od)(F:oV K C)(hb:wpAny (model prog w) A.in1 («object.__getattribute__» ⟨[.ref x,.str name tk],[]⟩) (λfin s'=>match fin with
   |.done (.ret v)=>wpAny (model prog w) A (handedOut v) Q E s'
   |.again c=>c.quiet=true/\codeAny (model prog w) A c (λr s''=>match r with | .ok (.ret v)=>wpAny (model prog w) A (handedOut v) Q E s''|_=>False) s'
   |_=>False) (λ_ _=>False) s) :
  wpAny (model prog w) A (getAttrBy (.ref x) (.str name tk) fill expr) Q E s:=by
 have L0:=I.type (M:=model prog w);have L1:=looks_findIn (M:=model prog w) X F.ga;have L2:=looks_findIn (M:=model prog w) X F.ng;have FB:=PySem.F.excAttr_ValueError;unfold getAttrBy;refine Vo (V0 (L0.here (V0 (L1.here ?_))));have hx2:(Value.builtin "BaseException.__getattribute__" == Value.builtin "object.__getattribute__")=false:=by decide+kernel
 dsimp only;rw[hx2,Bool.and_false,if_neg VY];unfold getAttrByItsOwn;refine V0 (L2.here (V0 (YE (Vo ?_))));unfold callGetattribute;rw[if_neg (by cases expr<;>decide)]
 unfold boundAndCalled;rw[FB.ga.bind];refine V0 (V2 (Xl ?_));refine ZK FB.ga.plain PySem.F.entry_bexc_ga (@check_slot (model prog w) _ _ _ "BaseException.__getattribute__" "BaseException" "__getattribute__" (.ref x) [.str name tk] [] _ JZ Ij (So X I F "BaseException" (by decide)) (PySem.F.args_bexc_ga (.ref x) (.str name tk)) ?_)
 refine Vh hb (λfin s' z=>?_) λ_ _ z=>z.elim
 rcases fin with (_|_|_|_)|_<;>first|exact z|exact z.elim|skip
 .obtain⟨z1,z2⟩:=z;refine⟨z1,Wm z2 λr s'' y=>?_⟩
  rcases r with e|(_|_|_|_)<;>first|exact y|exact y.elim
end
section
variable{prog:Program}{w:World}{A:Around}{E:Zk}{s:Shared}{K:Frag}{x C:Addr}{ox:Obj}{od:Option Obj}{name:Str}{v:Value}{tk:Tok}{fill expr:Bool}
def NN(X:K.In s.heap)(I:InstAt s.heap x ox C od)(F:oV K C)(hf:findObj K C od "__class__"=some (.bind (.builtin "getset_descriptor.__get__") (.builtin "object.__class__")))(hm:mroIn K C (.type "object")=some true)(h:Q (some (.ref C)) { s with toks:=s.toks+1 }):wpAny (model prog w) A (getAttr? (.ref x) "__class__") Q E s:=by have L0:=I.type (M:=model prog w);have L1:=looks_find (M:=model prog w) X I hf;unfold getAttr? getAttrBy?;refine V0 (wpAny_mkText (V0 (YE (Nk (s:={ s with toks:=s.toks+1 }) X I F ?_))));unfold «object.__getattribute__»;refine V0 (V2 (V0 (V2 (V0 (L0.here (s:={ s with toks:=s.toks+1 }) (V0 (L1.here (s:={ s with toks:=s.toks+1 }) ?_)))))));show wpAny _ _ (bindTo (.builtin "getset_descriptor.__get__") (.builtin "object.__class__") (.ref x) (.ref C)) _ _ _;unfold bindTo;dsimp only;refine V0 (Vo (Xl (class_get (s:={ s with toks:=s.toks+1 }) (ox:=ox) (od:=od) X I hm ?_)));refine V2 ?_;show wpAny _ _ (handedOut (.ref C)) _ _ _;exact V2 (V2 h)
structure IE(K:Frag)(C:Addr):Prop extends oV K C where
 ca:findIn K (.ref C) "__class__"=some (some (.builtin "object.__class__"))
 gt:specialIn K (.builtin "object.__class__") "__get__"=some (some (.builtin "getset_descriptor.__get__"))
 tk:takesIn K (.builtin "object.__class__")=some true
def oV.mro(F:oV K C)(T:String)(hT:oK.contains (.type T)=true):mroIn K C (.type T)=some true:=by obtain⟨cd,hc,ho⟩:=any_some F.cd;rw[V9]at ho;unfold mroIn;rw[hc,ZL,if_neg (by rw[LH _ ho.1];decide),zB T hT _ ho.1]
def zM(F:IE K C):KitX K (.ref x) (.ref C) (λh=>InstAt h x ox C od) where
 ty:=λ_ _ _ I=>I.type
 it:=λ_ _ X _=>by
  obtain⟨cdD,hcD,_⟩:=any_some F.cd;unfold clsIn at hcD;split at hcD
  .rename_i c' d' cd' sl' ho;intro A' Q' E' s' k q;unfold isType loadHead;exact V0 (wpAny_loadPart (k _ _ (X _ _ ho)) (V2 q))
  .cases hcD
 ne:=λh tp dd its n sl X htp=>by
  obtain⟨cdD,hcD,_⟩:=any_some F.cd;refine Bool.eq_false_iff.mpr λq=>?_
  have e:C=tp:=Value.ref.inj (beq_iff_eq.mp q);subst e;unfold clsIn at hcD;split at hcD
  .rename_i c' d' cd' sl' ho;have z:=(X _ _ ho).symm.trans htp;cases z
  .cases hcD
 ca:=λX I k=>by
  obtain⟨cd,hc,_⟩:=any_some F.cd;exact NN X I F.1 (by simp only[findObj,hc,ZL,F.ca,F.gt,F.tk]) (F.mro "object" (by decide)) k
end
section
variable{X:Cx}{pins:Zn}{U:St}{H:Hp}{s:Shared}{a C:Addr}{dd:Zx}
def Inv.S4(I:Inv X pins U H s)(e:H a=some (.ext (fP a C none))):∃ox,InstAt s.heap a ox C none:=by obtain⟨t0,v1,v2,v3,v4,v5,sl,h⟩:=I.FN e;exact⟨_,h,rfl,rfl,trivial⟩
def Inv.Sq{d:Addr}(I:Inv X pins U H s)(e:H a=some (.ext (fP a C (some d))))(hd:H d=some (.xd fs)):∃(ox od:Obj)(mA:Zm),InstAt s.heap a ox C (some od)/\(∀n,lookIn n od=some (mA n))/\∀f,kM (fs.lookup f) (mA f):=by obtain⟨t0,v1,v2,v3,v4,v5,sl,h⟩:=I.FN e;obtain⟨mA,ns,rel⟩:=I.hok d _ hd;obtain⟨od,ho,hl⟩:=xO ns;exact⟨_,od,mA,⟨h,rfl,rfl,ho⟩,hl,rel⟩
def Tt(H:Hp)(a C:Addr):Prop:=H a=some (.ext (fP a C none))\/∃d fs,H a=some (.ext (fP a C (some d)))/\H d=some (.xd fs)
def Jl{b:Bool}(I:Inv X pins U H s)(e:Tt H a C)(F:IE X.K C)(k:kitOne X.K (.ref C) c=some b)(h:∀tk,Q (.bool b) { s with toks:=tk }) : wpAny (model X.prog X.w) A (call (.builtin "isinstance") [.ref a,c]) Q E s:=by rcases e with e|⟨d,fs,e,hd⟩;{obtain⟨ox,J⟩:=I.S4 e;exact kia_one (zM F) I.f9 J k (λz=>nomatch z) h};obtain⟨ox,od,mA,J,_,_⟩:=I.Sq e hd;exact kia_one (zM F) I.f9 J k (λz=>nomatch z) h
def Jx:cu X (.builtin "isinstance") (λxs H Q=>∃a C c b,xs=[.ref a,c]/\Tt H a C/\IE X.K C/\(∀u,RelV c u->kitOne X.K (.ref C) u=some b)/\Q (.bl b) H):=by intro pins s U H xs us Q I r h;obtain⟨a,C,c,b,rfl,x,F,k,q⟩:=h;obtain⟨u1,u2,rfl,ru1,ru2⟩:=r.two;cases ru1;exact Jl I x F (k u2 ru2) λtk=>⟨.bl b,H,I.tok tk,rfl,q⟩
def Ka:cu X (.builtin "isinstance") (λxs H Q=>∃x c t b,xs=[x,c]/\iF X.K H x t/\(∀u,RelV c u->kitOne X.K t u=some b)/\Q (.bl b) H):=by intro pins s U H xs us Q I r h;obtain⟨x,c,t,b,rfl,ty,k,q⟩:=h;obtain⟨u1,u2,rfl,ru1,ru2⟩:=r.two;exact Gk I ru1 ty (k u2 ru2) λtk=>⟨.bl b,H,I.tok tk,rfl,q⟩
variable{o e value:Expr}{f y:Str}{pos pos' yp apos:Pos}{ta tv:TE}{es:A01}{t:TA}
end
end L2
namespace L2
open PySem PySem.Spec PyProof.Rows
def cE{a:Addr}(h:H a=none):aj H (upd H a o):=λb u e=>by rw[aA (g9 e h)];exact e
end L2
namespace Dv
open PySem L2 PySem.W
def bR:Key->PyData
 |.inl i=>.int i
 |.inr x=>.str x
def cP(K:Frag)(H:Hp)(a:Addr)(xs:List V):Prop:=Rd H a (.lst xs)\/∃(its:Zy) (n:Nat),K.lookup a=some { cls:=.type "list",data:=.seq its.toArray n }/\its.length<=sizeLine/\Vals xs its
def Rd.mono{a:Addr}(s:aj H H'):Rd H a u->Rd H' a u
 |.inl h=>.inl (s _ _ h)
 |.inr ⟨o,h⟩=>.inr ⟨o,s _ _ h⟩
theorem cP.mono{a:Addr}(s:aj H H'):cP K H a xs->cP K H' a xs
 |.inl h=>.inl (Rd.mono s h)
 |.inr h=>.inr h
def cP.sq{a:Addr}(h:cP K H a xs):cz K H a xs:=by rcases h with h|⟨its,n,hk,hl,r⟩;{exact .inl h};exact .inr ⟨_,its.toArray,n,hk,rfl,rfl,rfl,by rw[VO];exact hl,by simpa using r⟩
theorem cP.get{a:Addr}(I:L2.Inv X pins U H s)(h:cP X.K H a xs):xs.length<=sizeLine/\∃its n,Vals xs its/\s.heap.get? a=some { cls:=.type "list",data:=.seq its.toArray n }:=by rcases h with h|⟨its,n,hk,hl,r⟩;{obtain⟨z,its,n,r,e⟩:=h.ok I.hok;exact⟨z,its,n,r,e⟩};exact⟨by rw[r.length];exact hl,its,n,r,I.f9 a _ hk⟩
mutual
inductive Rp(K:Frag)(H:Hp):V->PyData->Prop
 |bU:Rp K H .bU .none
 |bl (b:Bool):Rp K H (.bl b) (.bool b)
 |int (i:Int):Rp K H (.int i) (.int i)
 |str (x:Str):Rp K H (.str x) (.str x)
 |lst {a:Addr}{xs:List V}{ds:Zw}:cP K H a xs->aC K H xs ds->Rp K H (.ref a) (.list ds)
 |tup {a:Addr}{xs:List V}{ds:Zw}:H a=some (.tup xs)->aC K H xs ds->Rp K H (.ref a) (.tuple ds)
 |dk {a:Addr}{kvs:List (Key×V)}{ds:Zi}:H a=some (.dK kvs)->d7 K H kvs ds->Rp K H (.ref a) (.dict ds)
 |dt {a:Addr}{kvs:List (List Key×V)}{ds:Zi}:H a=some (.dT kvs)->fK K H kvs ds->Rp K H (.ref a) (.dict ((.none,.none)::ds))
 |exc {a C:Addr}{c:Str}:H a=some (.ext (fP a C none))->nsIn K mainGlobals c=some (some (.ref C))->Rp K H (.ref a) (.dict [(.none,.str c)])
inductive aC(K:Frag)(H:Hp):List V->Zw->Prop
 |nil:aC K H [] []
 |cons {x:V}{d:PyData}{xs:List V}{ds:Zw}:Rp K H x d->aC K H xs ds->aC K H (x::xs) (d::ds)
inductive d7(K:Frag)(H:Hp):List (Key×V)->List (PyData×PyData)->Prop
 |nil:d7 K H [] []
 |cons {k:Key}{v:V}{d:PyData}{kvs:List (Key×V)}{ds:Zi}:Rp K H v d->d7 K H kvs ds->d7 K H ((k,v)::kvs) ((bR k,d)::ds)
inductive fK(K:Frag)(H:Hp):List (List Key×V)->List (PyData×PyData)->Prop
 |nil:fK K H [] []
 |cons {k:List Key}{v:V}{d:PyData}{kvs:List (List Key×V)}{ds:Zi}:Rp K H v d->fK K H kvs ds->fK K H ((k,v)::kvs) ((.tuple (k.map bR),d)::ds)
end
mutual
theorem Rp.mono(s:aj H H'):∀{v:V}{d:PyData},Rp K H v d->Rp K H' v d
 |_,_,.bU=>.bU
 |_,_,.bl b=>.bl b
 |_,_,.int i=>.int i
 |_,_,.str x=>.str x
 |_,_,.lst h r=>.lst (cP.mono s h) (r.mono s)
 |_,_,.tup h r=>.tup (s _ _ h) (r.mono s)
 |_,_,.dk h r=>.dk (s _ _ h) (r.mono s)
 |_,_,.dt h r=>.dt (s _ _ h) (r.mono s)
 |_,_,.exc h n=>.exc (s _ _ h) n
theorem aC.mono(s:aj H H'):∀{vs:List V}{ds:Zw},aC K H vs ds->aC K H' vs ds
 |_,_,.nil=>.nil
 |_,_,.cons h r=>.cons (h.mono s) (r.mono s)
theorem d7.mono(s:aj H H'):∀{kvs:List (Key×V)}{ds:Zi},d7 K H kvs ds->d7 K H' kvs ds
 |_,_,.nil=>.nil
 |_,_,.cons h r=>.cons (h.mono s) (r.mono s)
theorem fK.mono(s:aj H H'):∀{kvs:List (List Key×V)}{ds:Zi},fK K H kvs ds->fK K H' kvs ds
 |_,_,.nil=>.nil
 |_,_,.cons h r=>.cons (h.mono s) (r.mono s)
end
def nd:PyData->Bool
 |.list ds=>nds ds
 |.tuple ds=>nds ds
 |.dict _=>false
 |_=>true
where nds:Zw->Bool
 |[]=>true
 |d::ds=>nd d&&nds ds
mutual
theorem Rp.qp:∀{v:V}{d:PyData},Rp K H v d->nd d=true->m7 K H v d
 |_,_,.bU,_=>.bU
 |_,_,.bl b,_=>.bl b
 |_,_,.int i,_=>.int i
 |_,_,.str x,_=>.str x
 |_,_,.lst h r,e=>.lst h.sq (r.qp (by rw[nd]at e;exact e))
 |_,_,.tup h r,e=>.tup (cG.of h) (r.qp (by rw[nd]at e;exact e))
 |_,_,.dk _ _,e=>by rw[nd]at e;cases e
 |_,_,.dt _ _,e=>by rw[nd]at e;cases e
 |_,_,.exc _ _,e=>by rw[nd]at e;cases e
theorem aC.qp:∀{vs:List V}{ds:Zw},aC K H vs ds->nd.nds ds=true->tS K H vs ds
 |_,_,.nil,_=>.nil
 |_,_,.cons h r,e=>by rw[nd.nds,V9]at e;exact .cons (h.qp e.1) (r.qp e.2)
end
def mV(H H':Hp):Prop:=∀a xs,H a=some (.tup xs)->H' a=some (.tup xs)
mutual
theorem Rp.lf(s:mV H H'):∀{v:V}{d:PyData},Rp K H v d->Dv.lf d=true->Rp K H' v d
 |_,_,.bU,_=>.bU
 |_,_,.bl b,_=>.bl b
 |_,_,.int i,_=>.int i
 |_,_,.str x,_=>.str x
 |_,_,.lst h r,e=>by rw[Dv.lf]at e;cases e
 |_,_,.tup h r,e=>by rw[Dv.lf]at e;exact .tup (s _ _ h) (r.lf s e)
 |_,_,.dk _ _,e=>by rw[Dv.lf]at e;cases e
 |_,_,.dt _ _,e=>by rw[Dv.lf]at e;cases e
 |_,_,.exc _ _,e=>by rw[Dv.lf]at e;cases e
theorem aC.lf(s:mV H H'):∀{vs:List V}{ds:Zw},aC K H vs ds->Dv.lf.lfs ds=true->aC K H' vs ds
 |_,_,.nil,_=>.nil
 |_,_,.cons h r,e=>by rw[Dv.lf.lfs,V9]at e;exact .cons (h.lf s e.1) (r.lf s e.2)
end
section
variable{K:Frag}{H:Hp}
theorem aC.len:∀{vs:List V}{ds:Zw},aC K H vs ds->vs.length=ds.length
 |_,_,.nil=>rfl
 |_,_,.cons _ r=>congrArg (·+1) r.len
theorem aC.get:∀{vs:List V}{ds:Zw}{i:Nat}{d:PyData},aC K H vs ds->ds[i]?=some d->∃v,vs[i]?=some v/\Rp K H v d
 |_,_,_,_,.nil,e=>by simp at e
 |_,_,0,_,.cons h _,e=>by simp at e;subst e;exact⟨_,rfl,h⟩
 |_,_,i+1,_,.cons _ r,e=>r.get (i:=i) (by simpa using e)
theorem aC.KA:∀{vs:List V}{ds:Zw}{i:Nat}{v:V},aC K H vs ds->vs[i]?=some v->∃d,ds[i]?=some d/\Rp K H v d
 |_,_,_,_,.nil,e=>by simp at e
 |_,_,0,_,.cons h _,e=>by simp at e;subst e;exact⟨_,rfl,h⟩
 |_,_,i+1,_,.cons _ r,e=>r.KA (i:=i) (by simpa using e)
theorem aC.app:∀{vs us:List V}{ds es:Zw},aC K H vs ds->aC K H us es->aC K H (vs++us) (ds++es)
 |_,_,_,_,.nil,s=>s
 |_,_,_,_,.cons h r,s=>.cons h (r.app s)
def aC.snoc(r:aC K H vs ds)(h:Rp K H v d):aC K H (vs++[v]) (ds++[d]):=r.app (.cons h .nil)
theorem aC.take:∀{vs:List V}{ds:Zw} (n:Nat),aC K H vs ds->aC K H (vs.take n) (ds.take n)
 |_,_,0,_=>.nil
 |_,_,_+1,.nil=>.nil
 |_,_,n+1,.cons h r=>.cons h (r.take n)
theorem aC.drop:∀{vs:List V}{ds:Zw} (n:Nat),aC K H vs ds->aC K H (vs.drop n) (ds.drop n)
 |_,_,0,r=>r
 |_,_,_+1,.nil=>.nil
 |_,_,n+1,.cons _ r=>r.drop n
theorem aC.set(h:Rp K H v d):∀{vs:List V}{ds:Zw} (i:Nat),aC K H vs ds->aC K H (vs.set i v) (ds.set i d)
 |_,_,_,.nil=>.nil
 |_,_,0,.cons _ r=>.cons h r
 |_,_,i+1,.cons g r=>.cons g (r.set h i)
theorem aC.rev:∀{vs:List V}{ds:Zw},aC K H vs ds->aC K H vs.reverse ds.reverse
 |_,_,.nil=>.nil
 |_,_,.cons h r=>by rw[List.reverse_cons,List.reverse_cons];exact r.rev.snoc h
end
inductive ff(K:Frag)(H Hm:Hp):List V->Zw->Zz->Prop
 |nil:ff K H Hm [] [] []
 |lR {x:V}{d:PyData}{xs:List V}{ds:Zw}{fp:Zz}:Cj d=false->Rp K Hm x d->ff K H Hm xs ds fp->ff K H Hm (x::xs) (d::ds) fp
 |own {b:Addr}{ys:List V}{es:Zw}{xs:List V}{ds:Zw}{fp:Zz}:H b=some (.lst ys)->aC K Hm ys es->b∉fp->ff K H Hm xs ds fp->ff K H Hm (.ref b::xs) (.list es::ds) (b::fp)
inductive vm(K:Frag)(H Hm:Hp):List (List Key×V)->List (PyData×PyData)->Zz->Prop
 |nil:vm K H Hm [] [] []
 |own {k:List Key}{b:Addr}{ys:List V}{es:Zw}{kvs:List (List Key×V)}{ds:Zi}{fp:Zz}:H b=some (.lst ys)->aC K Hm ys es->b∉fp->vm K H Hm kvs ds fp->vm K H Hm ((k,.ref b)::kvs) ((.tuple (k.map bR),.list es)::ds) (b::fp)
inductive Own(K:Frag)(H Hm:Hp):Kd->V->PyData->Zz->Prop
 |sh {v:V}{d:PyData}:Rp K Hm v d->Own K H Hm .sh v d []
 |ow {p:Bool}{a:Addr}{xs:List V}{ds:Zw}:H a=some (.lst xs)->aC K Hm xs ds->Own K H Hm (.ow p) (.ref a) (.list ds) [a]
 |dp {p:Bool}{a:Addr}{xs:List V}{ds:Zw}{fp:Zz}:H a=some (.lst xs)->a∉fp->ff K H Hm xs ds fp->Own K H Hm (.dp p) (.ref a) (.list ds) (a::fp)
 |dk {p:Bool}{a:Addr}{kvs:List (Key×V)}{ds:Zi}:H a=some (.dK kvs)->d7 K Hm kvs ds->Own K H Hm (.dk p) (.ref a) (.dict ds) [a]
 |dt {p:Bool}{a:Addr}{kvs:List (List Key×V)}{ds:Zi}:H a=some (.dT kvs)->fK K Hm kvs ds->Own K H Hm (.dt p) (.ref a) (.dict ((.none,.none)::ds)) [a]
 |st {p:Bool}{a:Addr}{kvs:List (List Key×V)}{ds:Zi}{fp:Zz}:H a=some (.dT kvs)->a∉fp->vm K H Hm kvs ds fp->Own K H Hm (.st p) (.ref a) (.dict ((.none,.none)::ds)) (a::fp)
section
variable{K:Frag}{H H' Hm Hm':Hp}
def ff.step(s:aj Hm Hm'){xs:List V}{ds:Zw}{fp:Zz}(i:ff K H Hm xs ds fp):(∀a∈fp,H' a=H a)->ff K H' Hm' xs ds fp:=by
 induction i with
 |nil=>exact λ_=>.nil
 |lR e r _ ih=>exact λh=>.lR e (r.mono s) (ih h)
 |own e r n _ ih=>exact λh=>.own ((h _ V1).trans e) (r.mono s) n (ih λa ha=>h a (V5 _ ha))
def ff.live(i:ff K H Hm xs ds fp):∀a∈fp,∃ys,H a=some (.lst ys):=by
 induction i with
 |nil=>exact λ_ h=>absurd h VE
 |lR _ _ _ ih=>exact ih
 |own e _ _ _ ih=>intro a h;rcases V7.mp h with rfl|h;{exact⟨_,e⟩};exact ih a h
def vm.step(s:aj Hm Hm'){xs:List (List Key×V)}{ds:Zi}{fp:Zz}(i:vm K H Hm xs ds fp):(∀a∈fp,H' a=H a)->vm K H' Hm' xs ds fp:=by
 induction i with
 |nil=>exact λ_=>.nil
 |own e r n _ ih=>exact λh=>.own ((h _ V1).trans e) (r.mono s) n (ih λa ha=>h a (V5 _ ha))
def vm.live(i:vm K H Hm xs ds fp):∀a∈fp,∃ys,H a=some (.lst ys):=by
 induction i with
 |nil=>exact λ_ h=>absurd h VE
 |own e _ _ _ ih=>intro a h;rcases V7.mp h with rfl|h;{exact⟨_,e⟩};exact ih a h
theorem Own.step{k:Kd}{v:V}{d:PyData}{fp:Zz}(o:Own K H Hm k v d fp)(s:aj Hm Hm')(h:∀a∈fp,H' a=H a):Own K H' Hm' k v d fp:=by
 cases o with
 |sh r=>exact .sh (r.mono s)
 |ow e r=>exact .ow ((h _ V1).trans e) (r.mono s)
 |dp e n t=>exact .dp ((h _ V1).trans e) n (t.step s λa ha=>h a (V5 _ ha))
 |dk e r=>exact .dk ((h _ V1).trans e) (r.mono s)
 |dt e r=>exact .dt ((h _ V1).trans e) (r.mono s)
 |st e n t=>exact .st ((h _ V1).trans e) n (t.step s λa ha=>h a (V5 _ ha))
def sO(u:HO):Prop:=∀xs,u≠.tup xs
def o9:sO (.lst xs):=λ_ z=>by cases z
def uR:sO (.dK xs):=λ_ z=>by cases z
def xR:sO (.dT xs):=λ_ z=>by cases z
theorem Own.live(o:Own K H Hm k v d fp):∀a∈fp,∃u,H a=some u/\sO u:=by
 intro a ha;cases o with
 |sh _=>cases ha
 |ow e _=>rw[VB.mp ha];exact⟨_,e,by first|exact o9|exact uR|exact xR⟩
 |dp e _ t=>rcases V7.mp ha with rfl|ha;{exact⟨_,e,by first|exact o9|exact uR|exact xR⟩};obtain⟨ys,e⟩:=t.live a ha;exact⟨_,e,by first|exact o9|exact uR|exact xR⟩
 |dk e _=>rw[VB.mp ha];exact⟨_,e,by first|exact o9|exact uR|exact xR⟩
 |dt e _=>rw[VB.mp ha];exact⟨_,e,by first|exact o9|exact uR|exact xR⟩
 |st e _ t=>rcases V7.mp ha with rfl|ha;{exact⟨_,e,by first|exact o9|exact uR|exact xR⟩};obtain⟨ys,e⟩:=t.live a ha;exact⟨_,e,by first|exact o9|exact uR|exact xR⟩
def ff.OJ(s:aj Hm Hm')(i:ff K H Hm xs ds fp):(∀a∈fp,Hm' a=H a)->aC K Hm' xs ds:=by
 induction i with
 |nil=>exact λ_=>.nil
 |lR _ r _ ih=>exact λh=>.cons (r.mono s) (ih h)
 |own e r _ _ ih=>exact λh=>.cons (.lst (.inl (.inl ((h _ V1).trans e))) (r.mono s)) (ih λa ha=>h a (V5 _ ha))
def Own.rp(o:Own K H Hm k v d fp)(hk:k.rd=true)(s:aj Hm Hm')(h:∀a∈fp,Hm' a=H a):Rp K Hm' v d:=by
 cases o with
 |sh r=>exact r.mono s
 |ow e r=>exact .lst (.inl (.inl ((h _ V1).trans e))) (r.mono s)
 |dp e _ t=>exact .lst (.inl (.inl ((h _ V1).trans e))) (t.OJ s λa ha=>h a (V5 _ ha))
 |dk e r=>exact .dk ((h _ V1).trans e) (r.mono s)
 |dt e r=>exact .dt ((h _ V1).trans e) (r.mono s)
 |st _ _ _=>cases hk
def aC.BD(s:mV Hm Hm')(r:aC K Hm xs ds)(h:ds.all Dv.lf=true):aC K Hm' xs ds:=r.lf s (by rw[w9];exact h)
theorem ff.flat(s:mV Hm Hm'):∀{xs:List V}{ds:Zw}{fp:Zz},ff K H Hm xs ds fp->(ds.all λd=>match d with | .list es=>es.all Dv.lf|d=>Dv.lf d)=true->ff K H Hm' xs ds fp
 |_,_,_,.nil,_=>.nil
 |_,_,_,.lR (d:=d) e r t,h=>by rw[VP,V9]at h;refine .lR e (r.lf s ?_) (t.flat s h.2);have h1:=h.1;cases d<;>first|exact h1|cases e
 |_,_,_,.own e r n t,h=>by rw[VP,V9]at h;exact .own e (r.BD s h.1) n (t.flat s h.2)
theorem d7.flat(s:mV Hm Hm'):∀{kvs:List (Key×V)}{ds:Zi},d7 K Hm kvs ds->(ds.all λkv=>Dv.lf kv.2)=true->d7 K Hm' kvs ds
 |_,_,.nil,_=>.nil
 |_,_,.cons r t,h=>by rw[VP,V9]at h;exact .cons (r.lf s h.1) (t.flat s h.2)
theorem fK.flat(s:mV Hm Hm'):∀{kvs:List (List Key×V)}{ds:Zi},fK K Hm kvs ds->(ds.all λkv=>Dv.lf kv.2)=true->fK K Hm' kvs ds
 |_,_,.nil,_=>.nil
 |_,_,.cons r t,h=>by rw[VP,V9]at h;exact .cons (r.lf s h.1) (t.flat s h.2)
theorem Own.flat(o:Own K H Hm k v d fp)(s:mV Hm Hm')(h:Dv.flat k d=true):Own K H Hm' k v d fp:=by
 cases o with
 |sh r=>exact .sh (r.lf s h)
 |ow e r=>exact .ow e (r.BD s h)
 |dp e n t=>exact .dp e n (t.flat s h)
 |dk e r=>exact .dk e (r.flat s h)
 |dt e r=>have h:(Dv.lf .none&&_)=true:=h;rw[V9]at h;exact .dt e (r.flat s h.2)
 |st _ _ _=>cases h
end
def OE(o p:Option HO):Prop:=o=p\/(p=none/\∃xs,o=some (.tup xs))
def OE.rfl':OE o o:=.inl rfl
def OE.trans(h:OE a b)(k:OE b c):OE a c:=by rcases h with rfl|⟨rfl,h⟩;{exact k};rcases k with rfl|⟨rfl,_⟩;{exact .inr ⟨rfl,h⟩};exact .inr ⟨rfl,h⟩
def OE.off{a:Addr}(h:OE (Hm a) p)(hp:p=none)(s:aj Hm H)(hu:H a=some u)(nt:sO u):Hm a=none:=by rcases h with e|⟨_,xs,e⟩;{rw[e,hp]};have:=s _ _ e;rw[hu]at this;cases this;exact absurd rfl (nt xs)
structure Gh where
 H0:Hp
 jA:Hp
 pins:List (Nat×Addr)
def Gh.M(g:Gh):Zz:=g.pins.map (·.2)
structure Rl(K:Frag)(g:Gh)(E:En)(U:St)(H Hm:Hp)(F:Nat->Zz):Prop where
 len:E.length=U.length
 sub:aj Hm H
 slot:∀i k d,E[i]?=some (some (k,d))->∃v,U[i]?=some (some v)/\Own K H Hm k v d (F i)
 off:∀i a,a∈F i->Hm a=none
 bI:∀i a,a∈F i->∃u,H a=some u/\sO u
 aW:∀i j a,a∈F i->a∈F j->i=j
 fr:∀p o,p∉g.M->g.H0 p=some o->H p=some o
 new:∀i a,a∈F i->a∈g.M\/g.H0 a=none
 pin:∀q∈g.pins,U[q.1]?=some (some (.ref q.2))/\∃ds,E[q.1]?=some (some (.ow true,.list ds))
 old:∀a,g.H0 a≠none->OE (Hm a) (g.jA a)
structure Tm(K:Frag)(g:Gh)(F:Nat->Zz)(H Hm:Hp)(k:Kd) (v:V)(d:PyData)(fp:Zz):Prop where
 own:Own K H Hm k v d fp
 off:∀a∈fp,Hm a=none
 aW:∀a∈fp,∀i,a∉F i
 new:∀a∈fp,g.H0 a=none
section
variable{K:Frag}{g:Gh}{E:En}{U:St}{H H' Hm Hm':Hp}{F:Nat->Zz}
def Rl.grow(R:Rl K g E U H Hm F)(h:aj H H')(s:aj Hm Hm')(b:aj Hm' H')(o:∀i a,a∈F i->Hm' a=none)(od:∀a,g.H0 a≠none->OE (Hm' a) (Hm a)):Rl K g E U H' Hm' F where
 len:=R.len
 sub:=b
 slot:=λi k d e=>by
  obtain⟨v,h1,h2⟩:=R.slot i k d e;refine⟨v,h1,h2.step s λa ha=>?_⟩
  obtain⟨u,hu,_⟩:=h2.live a ha;rw[hu];exact h _ _ hu
 off:=o
 bI:=λi a ha=>let⟨u,hu,n⟩:=R.bI i a ha;⟨u,h _ _ hu,n⟩
 aW:=R.aW
 fr:=λp o hp ho=>h _ _ (R.fr p o hp ho)
 new:=R.new
 pin:=R.pin
 old:=λa ha=>(od a ha).trans (R.old a ha)
def Rl.more(R:Rl K g E U H Hm F)(s:aj Hm Hm')(b:aj Hm' H)(o:∀i a,a∈F i->Hm' a=none)(od:∀a,g.H0 a≠none->OE (Hm' a) (Hm a)):Rl K g E U H Hm' F:=R.grow (aj.refl _) s b o od
def Rl.Ff(R:Rl K g E U H Hm F)(hq:q∈g.pins):F q.1=[q.2]:=by obtain⟨h1,ds,h2⟩:=R.pin q hq;obtain⟨v,h3,h4⟩:=R.slot _ _ _ h2;rw[h1]at h3;cases h3;generalize F q.1=fi at h4;cases h4;rfl
def Rl.notM(R:Rl K g E U H Hm F){i:Nat}(e:E[i]?=some (some (k,d)))(hk:k.pin=false){a:Addr}(ha:a∈F i):g.H0 a=none:=by rcases R.new i a ha with m|m;{obtain⟨q,hq,rfl⟩:=V6.mp m;have:=R.aW i q.1 q.2 ha (by rw[R.Ff hq];exact V1);obtain⟨_,ds,h2⟩:=R.pin q hq;rw[<-this,e]at h2;cases h2;cases hk};exact m
def Rl.Sz(R:Rl K g E U H Hm F){a:Addr}(ha:a∈g.M):H a≠none:=λz=>by obtain⟨q,hq,rfl⟩:=V6.mp ha;obtain⟨u,hu,_⟩:=R.bI q.1 q.2 (by rw[R.Ff hq];exact V1);rw[z]at hu;cases hu
def Rl.rR(R:Rl K g E U H Hm F){a:Addr}(ha:g.H0 a≠none):H a≠none:=λz=>by
 by_cases m:a∈g.M;{exact R.Sz m z};cases e:g.H0 a with
 |none=>exact ha e
 |some o=>rw[R.fr a o m e]at z;cases z
def Rl.fresh(R:Rl K g E U H Hm F){p:Addr}(h:H p=none){i:Nat}:p∉F i:=λz=>by obtain⟨u,hu,_⟩:=R.bI i p z;rw[h]at hu;cases hu
def Rl.vF(R:Rl K g E U H Hm F){p:Addr}(h:H p=none):Hm p=none:=by
 cases e:Hm p with
 |none=>rfl
 |some o=>rw[R.sub _ _ e]at h;cases h
def Rl.gK(R:Rl K g E U H Hm F){p:Addr}(h:H p=none):g.H0 p=none:=by
 cases e:g.H0 p with
 |none=>rfl
 |some o=>exact absurd h (R.rR (by rw[e];simp))
end
open Classical in
def lend(Hm H:Hp)(fp:Zz):Hp:=λa=>if a∈fp then H a else Hm a
open Classical in
def back(Hm:Hp)(fp:Zz):Hp:=λa=>if a∈fp then none else Hm a
section
variable{Hm H:Hp}{fp:Zz}{a:Addr}
def gn(h:a∈fp):lend Hm H fp a=H a:=by unfold lend;rw[if_pos h]
def dQ(h:a∉fp):lend Hm H fp a=Hm a:=by unfold lend;rw[if_neg h]
def jT(h:a∈fp):back Hm fp a=none:=by unfold back;rw[if_pos h]
def dH(h:a∉fp):back Hm fp a=Hm a:=by unfold back;rw[if_neg h]
def jM(n:∀a∈fp,Hm a=none):aj Hm (lend Hm H fp):=λb o e=>by
 have:b∉fp:=λz=>by rw[n b z]at e;cases e
 rw[dQ this];exact e
def mP(s:aj Hm H):aj (lend Hm H fp) H:=λb o e=>by by_cases h:b∈fp;{rw[gn h]at e;exact e};rw[dQ h]at e;exact s _ _ e
def AZ(s:aj Hm H):aj (back Hm fp) H:=λb o e=>by by_cases h:b∈fp;{rw[jT h]at e;cases e};rw[dH h]at e;exact s _ _ e
end
section
variable{K:Frag}{g:Gh}{E:En}{U:St}{H H' Hm Hm':Hp}{F:Nat->Zz}{k:Kd}{v:V}{d:PyData}{fp:Zz}
def Tm.gj(T:Tm K g F H Hm k v d fp)(R:Rl K g E U H Hm F)(hk:k.fz=true):∃Hm',aj Hm Hm'/\Rl K g E U H Hm' F/\Rp K Hm' v d:=by have up:=jM (Hm:=Hm) (H:=H) T.off;refine⟨lend Hm H fp,up,R.more up (mP R.sub) (λi a ha=>?_) λa ha=>.inl (dQ λz=>ha (T.new a z)),T.own.rp (by cases k<;>first|rfl|cases hk) up λa ha=>gn ha⟩;rw[dQ λz=>T.aW a z i ha];exact R.off i a ha
def aO{α:Type}{l:List α}{i:Nat}{a:α}(h:i<l.length):(l.set i a)[i]?=some a:=by rw[Xh];simp[h]
def aq{α:Type}{l:List α}{i j:Nat}{a:α}(h:i≠j):(l.set i a)[j]?=l[j]?:=by rw[Xh];simp[h]
def Rl.put(R:Rl K g E U H Hm F)(T:Tm K g F H Hm k v d fp){i:Nat}(o:bN E i=true):Rl K g (E.set i (some (k,d))) (U.set i (some v)) H Hm (λj=>if j=i then fp else F j) where
 len:=by rw[Vs,Vs];exact R.len
 sub:=R.sub
 slot:=λj k' d' e=>by
  by_cases c:j=i
  .subst c;have hl:j<E.length:=by
    rcases Vt j E.length with h|h
    .exact h
    .rw[Vr (by rw[Vs];exact h)]at e;cases e
   rw[aO hl]at e;cases e;exact⟨v,aO (R.len▸hl),by rw[if_pos rfl];exact T.own⟩
  .rw[aq (Ne.symm c)]at e;obtain⟨u,h1,h2⟩:=R.slot j k' d' e;exact⟨u,by rw[aq (Ne.symm c)];exact h1,by rw[if_neg c];exact h2⟩
 off:=λj a ha=>by
  by_cases c:j=i
  .rw[if_pos c]at ha;exact T.off a ha
  .rw[if_neg c]at ha;exact R.off j a ha
 bI:=λj a ha=>by
  by_cases c:j=i
  .rw[if_pos c]at ha;exact T.own.live a ha
  .rw[if_neg c]at ha;exact R.bI j a ha
 aW:=λj l a h1 h2=>by
  by_cases c:j=i
  .rw[if_pos c]at h1
   by_cases c':l=i
   .rw[c,c']
   .rw[if_neg c']at h2;exact absurd h2 (T.aW a h1 l)
  .rw[if_neg c]at h1
   by_cases c':l=i
   .rw[if_pos c']at h2;exact absurd h1 (T.aW a h2 j)
   .rw[if_neg c']at h2;exact R.aW j l a h1 h2
 fr:=R.fr
 new:=λj a ha=>by
  by_cases c:j=i
  .rw[if_pos c]at ha;exact .inr (T.new a ha)
  .rw[if_neg c]at ha;exact R.new j a ha
 pin:=λq hq=>by
  obtain⟨h1,ds,h2⟩:=R.pin q hq;have c:i≠q.1:=λz=>by
   unfold bN at o;rw[z,h2]at o;cases o
  exact⟨by rw[aq c];exact h1,ds,by rw[aq c];exact h2⟩
 old:=R.old
theorem Tm.sh(h:Rp K Hm v d):Tm K g F H Hm .sh v d []:=⟨.sh h,(λ_ z=>by cases z),(λ_ z=>by cases z),λ_ z=>by cases z⟩
def Rl.chg(R:Rl K g E U H Hm F){i:Nat}{p:Bool}{ds es:Zw}{ys:List V}(e:E[i]?=some (some (.ow p,.list ds)))(r:aC K Hm ys es):∃a xs,U[i]?=some (some (.ref a))/\H a=some (.lst xs)/\aC K Hm xs ds/\Hm a=none/\Rl K g (E.set i (some (.ow p,.list es))) U (upd H a (.lst ys)) Hm F:=by
 obtain⟨v,h1,h2⟩:=R.slot i _ _ e;generalize hf:F i=fi at h2;cases h2 with
 |@ow _ a xs _ ha hr=>
  have ma:a∈F i:=by rw[hf];exact V1
  have na:=R.off i a ma;have up:∀b,b≠a->upd H a (.lst ys) b=H b:=λb hb=>aA hb;have li:i<E.length:=by rcases Vt i E.length with h|h;{exact h};rw[Vr h]at e;cases e
  refine⟨a,xs,h1,ha,hr,na,?_⟩;exact {
   len:=by rw[Vs];exact R.len
   sub:=λb o hb=>by
    have:b≠a:=λz=>by rw[z,na]at hb;cases hb
    rw[up b this];exact R.sub b o hb
   slot:=λj k' d' e'=>by
    by_cases c:j=i
    .subst c;rw[aO li]at e';cases e';exact⟨_,h1,by rw[hf];exact .ow aQ r⟩
    .rw[aq (Ne.symm c)]at e';obtain⟨u,g1,g2⟩:=R.slot j k' d' e';refine⟨u,g1,g2.step (aj.refl _) λb hb=>up b λz=>c (R.aW j i a (z▸hb) ma)⟩
   off:=R.off
   bI:=λj b hb=>by
    by_cases c:b=a
    .rw[c];exact⟨_,aQ,o9⟩
    .rw[up b c];exact R.bI j b hb
   aW:=R.aW
   fr:=λq o hq ho=>by
    have:q≠a:=λz=>by
     rcases R.new i a ma with y|y
     .exact hq (z▸y)
     .rw[z,y]at ho;cases ho
    rw[up q this];exact R.fr q o hq ho
   new:=R.new
   pin:=λq hq=>by
    obtain⟨g1,ds',g2⟩:=R.pin q hq
    by_cases c:i=q.1
    .rw[<-c]at g1 g2⊢;rw[e]at g2;cases g2;exact⟨g1,es,aO li⟩
    .exact⟨g1,ds',by rw[aq c];exact g2⟩
   old:=R.old }
theorem Rl.dX(R:Rl K g E U H Hm F){i:Nat}{E':En}{d:PyData}{k:Kd}(e:E[i]?=some (some (k,d)))(h:Dv.dX E i=some E'):∃v Hm' F',U[i]?=some (some v)/\aj Hm Hm'/\Rl K g E' U H Hm' F'/\Rp K Hm' v d:=by
 unfold Dv.dX at h;rw[e]at h;have h:(if k.fz=true then some (E.set i (some (.sh,d)))else none)=some E':=h;by_cases hk:k.fz=true
 .rw[if_pos hk]at h;cases h;obtain⟨v,h1,h2⟩:=R.slot i k d e;have up:=jM (Hm:=Hm) (H:=H) (fp:=F i) (R.off i);have rp:=h2.rp (by cases k<;>first|rfl|cases hk) up λa ha=>gn ha;have li:i<E.length:=by rcases Vt i E.length with h|h;{exact h};rw[Vr h]at e;cases e
  refine⟨v,lend Hm H (F i),λj=>if j=i then []else F j,h1,up,?_,rp⟩;exact {
   len:=by rw[Vs];exact R.len
   sub:=mP R.sub
   slot:=λj k' d' e'=>by
    by_cases c:j=i
    .subst c;rw[aO li]at e';cases e';exact⟨v,h1,by rw[if_pos rfl];exact .sh rp⟩
    .rw[aq (Ne.symm c)]at e';obtain⟨u,g1,g2⟩:=R.slot j k' d' e';exact⟨u,g1,by rw[if_neg c];exact g2.step up λ_ _=>rfl⟩
   off:=λj a ha=>by
    by_cases c:j=i
    .rw[if_pos c]at ha;cases ha
    .rw[if_neg c]at ha;rw[dQ λz=>c (R.aW j i a ha z)]
     exact R.off j a ha
   bI:=λj a ha=>by
    by_cases c:j=i
    .rw[if_pos c]at ha;cases ha
    .rw[if_neg c]at ha;exact R.bI j a ha
   aW:=λj l a g1 g2=>by
    by_cases c:j=i
    .rw[if_pos c]at g1;cases g1
    .rw[if_neg c]at g1
     by_cases c':l=i
     .rw[if_pos c']at g2;cases g2
     .rw[if_neg c']at g2;exact R.aW j l a g1 g2
   fr:=R.fr
   new:=λj a ha=>by
    by_cases c:j=i
    .rw[if_pos c]at ha;cases ha
    .rw[if_neg c]at ha;exact R.new j a ha
   pin:=λq hq=>by
    obtain⟨g1,ds',g2⟩:=R.pin q hq;have c:i≠q.1:=λz=>by
     rw[<-z,e]at g2;cases g2;cases hk
    exact⟨g1,ds',by rw[aq c];exact g2⟩
   old:=λa ha=>by
    rw[dQ λz=>ha (R.notM e (by cases k<;>first|rfl|(rename_i p;cases p<;>first|rfl|cases hk)|cases hk) z)]
    exact R.old a ha }
 rw[if_neg hk]at h;cases h
end
end Dv
namespace L2
open PySem PySem.Spec PyProof.Rows
def i8(h:Heap)(e C T:Addr)(dd:Zx):Prop:=
 ∃(t0:Addr)(v2 v3 v4 v5:Value)(sl:Zj)(oT:Obj)(ts:Zv),h.get? e=some ⟨.ref C,dd,.fields #[.ref t0,.ref T,v2,v3,v4,v5],sl⟩/\T≠e/\h.get? T=some oT/\oT.data=.fields ts/\ts[3]?=some .none
structure Way(fs:Zz)(e T:Addr)(h h':Heap):Prop where
 keep:∀b o,b≠e->b≠T->b∉fs->h.get? b=some o->h'.get? b=some o
 slot:∀b o,b≠e->b≠T->h.get? b=some o->∃sl,h'.get? b=some { o with slots:=sl }
section
variable{M:Model}{A:Around}{E:Zk}{s:Shared}
def qx{L e C t0 T0:Addr}{hadNext:Bool}(hfr:A.frames=some (env::outer))(hl:s.heap.FunFrames base (env::outer))(hf:env.frame=some L)(he:s.heap.get? e=some ⟨.ref C,dd,.fields #[.ref t0,w1,v2,v3,v4,v5],sl0⟩)(q:∀h' T,s.heap.get? T=none->Way (frs (env::outer)) e T s.heap h'->i8 h' e C T dd->Q () { s with heap:=h' }) :
  wpAny M A (do let a <-frameOf env;let pl <-entryPlaceOf L hadNext;let b <-EntryCells.newEntry head a .none (rawInt L) .none pl;setField (.ref e) 1 b) (λ_ s'=>wpAny M A (setFlight (.ref e) none) Q E s') E s:=by
 have ene:e∉frs (env::outer):=λhm=>by obtain⟨_,o,ho,hnf⟩:=hl.mem hm;rw[he]at ho;cases ho;exact hnf _ rfl
 refine V0 (wpAny_frameOf_fun hfr hl hf λh1 hs1=>V0 (wpAny_entryPlaceOf λpl hpl=>?_))
 unfold EntryCells.newEntry newFields;refine V0 (Wo ?_ (hpl.sizeOk5 _ _ _ _ _));have he1:h1.get? e=some ⟨.ref C,dd,.fields #[.ref t0,w1,v2,v3,v4,v5],sl0⟩:=(hs1.2.1 e ene).trans he;generalize hO:({ cls:=.type "traceback",dict:=none,data:=.fields ([head,.ref L,.none,rawInt L,.none]++(if pl.isEmpty then List.replicate 6 Value.none else pl)).toArray }:Obj)=oT
 have he2:=VM (h:=h1) oT he1;refine XY he2 rfl (by show 1<6;decide) ?_
 have ne:h1.objs.size≠e:=X3 (VA he1);have hdT:oT.data=.fields ([head,.ref L,.none,rawInt L,.none]++(if pl.isEmpty then List.replicate 6 Value.none else pl)).toArray:=by rw[<-hO]
 have fr:oT.isFreed=false:=by rw[<-hO];rfl
 have he3:((h1.push oT).update e (Obj.mapFields (·.setIfInBounds 1 (Value.ref h1.objs.size)))).get? e=some ⟨.ref C,dd,.fields #[.ref t0,.ref h1.objs.size,v2,v3,v4,v5],sl0⟩:=Wa _ he2 rfl;have hT3:((h1.push oT).update e (Obj.mapFields (·.setIfInBounds 1 (Value.ref h1.objs.size)))).get? h1.objs.size=some oT:=(WD _ _ (Ne.symm ne)).trans (Vj h1 fr);unfold setFlight;refine V0 (Wn he3 rfl (x:=.ref h1.objs.size) rfl ?_);rw[if_pos (show(Value.ref h1.objs.size != Value.none)=true by simp)]
 have sz:s.heap.objs.size=h1.objs.size:=hs1.1.symm;refine XY hT3 hdT (by simp only[VO,VD,VF,Yc]<;>lia) (q _ h1.objs.size ?_ ⟨λb o b1 b2 b3 hb=>?_,λb o b1 b2 hb=>?_⟩ ?_)
 .exact Y4 (Xx sz)
 .have hb1:h1.get? b=some o:=(hs1.2.1 b b3).trans hb;rw[WD _ _ (Ne.symm b2),WD _ _ (Ne.symm b1)];exact VM _ hb1
 .obtain⟨sl,hb1⟩:=hs1.2.2 b o hb;refine⟨sl,?_⟩;rw[WD _ _ (Ne.symm b2),WD _ _ (Ne.symm b1)];exact VM _ hb1
 .have dt:=XZ hdT (·.setIfInBounds 3 ((none:Zx).elim Value.none λf=>rawInt f))
  refine⟨t0,v2,v3,v4,v5,sl0,_,_,?_,ne,Wa _ hT3 (YF dt),dt,?_⟩
  .rw[WD _ _ ne];exact he3
  .first|(simp;done)|(rcases hpl with rfl|⟨_,_,_,_,_,_,_,rfl⟩<;>simp)
def leave_new{L e C t0:Addr}(hfr:A.frames=some (env::outer))(hl:s.heap.FunFrames base (env::outer))(hf:env.frame=some L)(he:s.heap.get? e=some ⟨.ref C,dd,.fields #[.ref t0,.none,v2,v3,v4,v5],sl0⟩)(q:∀h' T,s.heap.get? T=none->Way (frs (env::outer)) e T s.heap h'->i8 h' e C T dd->Q () { s with heap:=h' }):wpAny M A (leaving env (.ref e)) Q E s:=by unfold leaving noteFrame;simp only[hf];refine V0 (V0 (Wn he rfl (x:=.none) rfl ?_));rw[if_neg (show ¬((Value.none != Value.none)=true)by decide)];exact qx (T0:=e) hfr hl hf he q
def Jq{L e C T:Addr}(hfr:A.frames=some (env::outer))(hl:s.heap.FunFrames base (env::outer))(hf:env.frame=some L)(ho:i8 s.heap e C T dd)(q:∀h' T2,s.heap.get? T2=none->(∀b o,b≠e->b≠T->b≠T2->b∉frs (env::outer)->s.heap.get? b=some o->h'.get? b=some o)->(∀b o,b≠e->b≠T->b≠T2->s.heap.get? b=some o->∃sl,h'.get? b=some { o with slots:=sl })->i8 h' e C T2 dd->Q () { s with heap:=h' }):wpAny M A (leaving env (.ref e)) Q E s:=by
 obtain⟨t0,v2,v3,v4,v5,sl0,oT,ts,he,hTe,hT,hdT,h3⟩:=ho;unfold leaving noteFrame;simp only[hf];refine V0 (V0 (Wn he rfl (x:=.ref T) rfl ?_));rw[if_pos (show(Value.ref T != Value.none)=true by simp)];refine V0 (Wn hT hdT h3 ?_);rw[if_neg (show ¬((Value.none==rawInt L)=true)by simp[rawInt])];refine V0 (XY hT hdT (Yg.mp h3).1 ?_);have other:∀b,b≠T->(s.heap.update T (Obj.mapFields (·.setIfInBounds 3 Value.none))).get? b=s.heap.get? b:=λb hb=>WD _ _ (Ne.symm hb);have noRec:∀b o,s.heap.get? b=some o->(∀vs,o.data≠.fields vs)->b≠T:=λb o hb hnf z=>by rw[z,hT]at hb;cases hb;exact hnf ts hdT
 refine qx (s:={ s with heap:=s.heap.update T (Obj.mapFields (·.setIfInBounds 3 Value.none)) }) (T0:=T) hfr (hl.of_keeps λb o hb hnf=>⟨o,(other b (noRec b o hb hnf)).trans hb,rfl⟩) hf ((other e (Ne.symm hTe)).trans he) λh' T2 n2 W O=>?_;have n2':s.heap.get? T2=none:=by
  cases c:s.heap.get? T2 with
  |none=>rfl
  |some o=>exfalso;by_cases z:T2=T;{subst z;rw[Wa _ hT (YF (XZ hdT _))]at n2;cases n2};rw[show({ s with heap:=s.heap.update T (Obj.mapFields (·.setIfInBounds 3 Value.none)) }:Shared).heap.get? T2=s.heap.get? T2 from other T2 z,c]at n2;cases n2
 exact q h' T2 n2' (λb o b1 b2 b3 b4 hb=>W.keep b o b1 b3 b4 ((other b b2).trans hb)) (λb o b1 b2 b3 hb=>W.slot b o b1 b3 ((other b b2).trans hb)) O
end
end L2
namespace L2
open PySem PySem.Spec PyProof.Rows PySem.W
def fO(P:Program)(w:World):mZ:=λouter H s E e s'=>
 ∃a C T H',e=.ref a/\s'.os=s.os/\AllBare s'.gens/\Un (frs outer) [] H H' s.heap s'.heap/\dR P w H' s'.heap/\i8 s'.heap a C T none/\s.heap.get? T=none/\H' T=none/\s.heap.get? a=none/\H' a=some (.ext (fP a C none))/\E (.ref C) (some a) H'
def i8.FN{e C T:Addr}(o:i8 h e C T dd):fP e C dd h:=by obtain⟨t0,v2,v3,v4,v5,sl,_,_,he,_⟩:=o;exact⟨t0,_,v2,v3,v4,v5,sl,he⟩
def CQ{P:Program}{w:World}{H:Hp}{h h':Heap}{a C:Addr}{fs:Zz}{N:Addr->Prop}(ok:dR P w H h)(ha:H a=some (.ext (fP a C none)))(hN:∀b,N b->H b=none)(hf:∀b∈fs,H b=none)(k:∀b o,b≠a->¬N b->b∉fs->h.get? b=some o->h'.get? b=some o)(x:fP a C none h'):dR P w H h':=λb u e=>by by_cases z:b=a;{subst z;rw[ha]at e;cases e;exact Ip x};have nn:∀c v,H c=some v->¬N c/\c∉fs:=λc v q=>⟨λy=>(by rw[hN c y]at q;cases q),λy=>(by rw[hf c y]at q;cases q)⟩;refine(ok b u e).stay (λc v hc r=>k c v ?_ ?_ ?_ r) (λc r=>r) λc xs r=>r;{rcases hc with y|y;{rw[y];exact z};intro q;rw[q,ha]at y;cases y};{rcases hc with y|y;{rw[y];exact(nn b u e).1};exact(nn c _ y).1};rcases hc with y|y;{rw[y];exact(nn b u e).2};exact(nn c _ y).2
section
variable{CX:mZ}{P:Program}{w:World}{K:Frag}{mg:Zm}{base:Heap}{N:A05}{qual:Str}{scope:Scope}{f:Addr}{cd:Value}{A:Around}{outer:List Env}{s0:Shared}{H0:Hp}{E:XK}
def Cc{pins:Zn}{U:St}{H:Hp}{s:Shared}{a C T:Addr}{h':Heap}{Nw:Addr->Prop}(I:Inv (ir CX P w K mg base N qual scope f cd A outer s0 H0 E) pins U H s)(ha:H a=some (.ext (fP a C none)))(na:s0.heap.get? a=none)(hN:∀b,Nw b->H b=none)(hN0:∀b,Nw b->s0.heap.get? b=none)(hT:Nw T)(k:∀b o,b≠a->¬Nw b->b∉frs (envOfC qual scope s0.heap.objs.size f cd::outer)->s.heap.get? b=some o->h'.get? b=some o)(sl:∀b o,b≠a->¬Nw b->s.heap.get? b=some o->∃sl,h'.get? b=some { o with slots:=sl })(O:i8 h' a C T none)(q:E (.ref C) (some a) H):fO P w outer H0 s0 E (.ref a) { s with heap:=h' }:=by
 have B:Un (frs outer) [] H0 H s0.heap s.heap:=I.base;have old:∀b o,s0.heap.get? b=some o->b≠a/\¬Nw b:=λb o e=>⟨(λz=>by rw[z,na]at e;cases e),λz=>by rw[hN0 b z]at e;cases e⟩;have notloc:∀b o,s0.heap.get? b=some o->b∉frs outer->b∉frs (envOfC qual scope s0.heap.objs.size f cd::outer):=λb o e nb z=>by
  have z2:b∈(envOfC qual scope s0.heap.objs.size f cd).frame.toList++frs outer:=by have:frs (envOfC qual scope s0.heap.objs.size f cd::outer)=s0.heap.objs.size::frs outer:=rfl;rw[this]at z;exact z
  rcases V8.mp z2 with y|y
  .have y:some s0.heap.objs.size=some b:=by
    have y0:(envOfC qual scope s0.heap.objs.size f cd).frame=some b:=by simpa using y
    exact y0
   have y:s0.heap.objs.size=b:=Option.some.inj y;exact absurd (VA e) (by rw[<-y];exact Vx _)
  exact nb y
 refine⟨a,C,T,H,rfl,I.os,I.bare,⟨λb o e n nf nx=>?_,λb o e n nf nx=>?_,λb o e n nx=>B.free b o e n nx,λb o e nx=>?_,B.tups,B.jH,B.kN⟩,?_,O,hN0 T hT,hN T hT,na,ha,q⟩;{exact k b o (old b o e).1 (old b o e).2 (notloc b o e nf) (B.keep b o e n nf nx)};{obtain⟨sl1,e1⟩:=B.slot b o e n nf nx;obtain⟨sl2,e2⟩:=sl b _ (old b o e).1 (old b o e).2 e1;exact⟨sl2,e2⟩};{obtain⟨o1,e1⟩:=B.there b o e nx;obtain⟨sl2,e2⟩:=sl b _ (old b o e).1 (old b o e).2 e1;exact⟨_,e2⟩};exact CQ I.hok ha hN (I.rS) (λb o b1 b2 b3 e=>k b o b1 b2 b3 e) O.FN
def RH{a C t0:Addr}(I:Inv (ir (fO P w) P w K mg base N qual scope f cd A outer s0 H0 E) pins U H s)(ha:H a=some (.ext (fP a C none)))(he:s.heap.get? a=some ⟨.ref C,none,.fields #[.ref t0,.none,v2,v3,v4,v5],sl0⟩)(na:s0.heap.get? a=none)(q:E (.ref C) (some a) H):(ir (fO P w) P w K mg base N qual scope f cd A outer s0 H0 E).xe (.ref a) s:=by
 refine leave_new (base:=base) (L:=s0.heap.objs.size) I.ok.frames I.stack rfl he λh' T nT W O=>?_;have nT0:s0.heap.get? T=none:=by
  cases c:s0.heap.get? T with
  |none=>rfl
  |some o=>obtain⟨o1,e1⟩:=I.base.there T o c (by show T∉([]:Zz);simp);rw[e1]at nT;cases nT
 exact Cc (Nw:=λb=>b=T) I ha na (λb z=>by rw[z];exact I.iZ nT) (λb z=>by rw[z];exact nT0) rfl (λb o b1 b2 b3 e=>W.keep b o b1 b2 b3 e) (λb o b1 b2 e=>W.slot b o b1 b2 e) O q
def aR:Passes (fO P w) (ir (fO P w) P w K mg base N qual scope f cd A outer s0 H0 E) E:=by
 intro pins U H s e s' I h;obtain⟨a,C,T,H',rfl,os,bare,un,hok,O,nT,hT,na,ha,q⟩:=h;have I':=I.EY (s':=s') (ch:=[]) os un hok bare λb z=>absurd z (by simp);have up:∀b,s.heap.get? b=none->s0.heap.get? b=none:=λb n=>by
  cases c:s0.heap.get? b with
  |none=>rfl
  |some o=>obtain⟨o1,e1⟩:=I.base.there b o c (by show b∉([]:Zz);simp);rw[e1]at n;cases n
 refine Jq (base:=base) (L:=s0.heap.objs.size) I'.ok.frames I'.stack rfl O λh' T2 n2 k sl O2=>?_;have nT2:s0.heap.get? T2=none:=by
  cases c:s0.heap.get? T2 with
  |none=>rfl
  |some o=>obtain⟨o1,e1⟩:=I'.base.there T2 o c (by show T2∉([]:Zz);simp);rw[e1]at n2;cases n2
 refine Cc (Nw:=λb=>b=T\/b=T2) I' ha (up a na) (λb z=>?_) (λb z=>?_) (.inr rfl) (λb o b1 b2 b3 e=>k b o b1 (λz=>b2 (.inl z)) (λz=>b2 (.inr z)) b3 e) (λb o b1 b2 e=>sl b o b1 (λz=>b2 (.inl z)) (λz=>b2 (.inr z)) e) O2 q;{rcases z with rfl|rfl;{exact hT};exact I'.iZ n2};rcases z with rfl|rfl;{exact up _ nT};exact nT2
end
section
variable{P:Program}{w:World}{K:Frag}{mg:Zm}{base:Heap}{N:A05}{qual:Str}{scope:Scope}{f:Addr}{cd:Value}{A:Around}{outer:List Env}{s0:Shared}{H0:Hp}{E:XK}
def Rh(C:Addr)(E:XK)(t:TA):TS:=λ_ U H=>t U H λvs H1=>vs.length<=sizeLine/\∀a,H1 a=none->E (.ref C) (some a) (upd H1 a (.ext (fP a C none)))
def Kp{C:Addr}(hc:iJ K C oK "ValueError.__new__" none=true)(hg:Gl (ir (fO P w) P w K mg base N qual scope f cd A outer s0 H0 E) x)(hm:mg x=some (.ref C))(ha:PA (ir (fO P w) P w K mg base N qual scope f cd A outer s0 H0 E) (e::es) t)(hdb:(x==("__debug__":Str))=false:=by decide)(he:starEach (e::es) (envOfC qual scope s0.heap.objs.size f cd)=(false,eval e (envOfC qual scope s0.heap.objs.size f cd))::starEach es (envOfC qual scope s0.heap.objs.size f cd):=by rfl)(hpl:(backTo cpos (starEach es (envOfC qual scope s0.heap.objs.size f cd))).any (·.1)=false:=by rfl) : PS (ir (fO P w) P w K mg base N qual scope f cd A outer s0 H0 E) (.Raise (some (.Call (.Name x np) (e::es) [] cpos)) none pos) (Rh C E t):=by
 intro pins s U H D I h;obtain⟨bm,N0,nm,qn,bs,hd,sn,sub,ab,col,dd,k0,k1,k2,k3,k5,mN,hC,hN,hni,T⟩:=(NX I.ok.mod.AO hc).obj;refine wpAny_Raise_call_subT (C:=C) (nm:=nm) (q:=qn) (N:=N0) (bs:=bs) (bm:=bm) (hdct:=hd) (sn:=sn) (sub:=sub) (ab:=ab) (col:=col) (dd:=dd) (k0:=k0) (k1:=k1) (k2:=k2) (k3:=k3) (k5:=k5)
  PySem.F.excBase_ValueError (mN:=mN) (T.hasType (by decide)) (I.ok.hd rfl) (by show(backTo cpos (starEach (e::es) (envOfC qual scope s0.heap.objs.size f cd))).any (·.1)=false;rw[he];show(false||(backTo cpos (starEach es (envOfC qual scope s0.heap.objs.size f cd))).any (·.1))=false;rw[hpl];rfl) hni (oF I hg hm ⟨rfl,?_⟩ hdb)
 have go:=ha cpos pins s U H _ I h;show wpAny (model P w) _ (evalArgs (.ref C) true (backTo cpos (starEach (e::es) (envOfC qual scope s0.heap.objs.size f cd))) []) _ _ _;have go':wpAny (model P w) _ (spliced (backTo cpos (starEach (e::es) (envOfC qual scope s0.heap.objs.size f cd)))) _ _ _:=go;rw[he]at go'⊢;refine Calls.evalArgs_plain (aT go' λus s1 ⟨vs,H1,I1,r,hz,q⟩=>?_);have kp:∀b o,base.get? b=some o->s1.heap.get? b=some o:=I1.bk;refine⟨rfl,by rw[<-r.length];exact hz,kp _ _ hC,hN.keeps kp,T.keeps kp,λh' a M=>?_⟩;obtain⟨hp,g,dr,tk,os⟩:=s1;obtain⟨keeps,new,t0,hx,_,_⟩:=M;have I2:=I1.y9 (a:=a) (o:=.ext (fP a C none)) (t':=tk) keeps new (Ip ⟨_,_,_,_,_,_,_,hx⟩);have na:s0.heap.get? a=none:=by
  cases c:s0.heap.get? a with
  |none=>rfl
  |some o=>obtain⟨o1,e1⟩:=I1.base.there a o c (by show a∉([]:Zz);simp);rw[e1]at new;cases new
 exact RH I2 (aQ) hx na (q a (I1.iZ new))
end
section
variable{M:Model}{A:Around}{E:Zk}{s:Shared}
def Mf{L e C T:Addr}(hfr:A.frames=some (env::outer))(hl:s.heap.FunFrames base (env::outer))(hf:env.frame=some L)(ho:i8 s.heap e C T dd)(q:∀h' T2,s.heap.get? T2=none->(∀b o,b≠e->b≠T->b≠T2->b∉frs (env::outer)->s.heap.get? b=some o->h'.get? b=some o)->(∀b o,b≠e->b≠T->b≠T2->s.heap.get? b=some o->∃sl,h'.get? b=some { o with slots:=sl })->i8 h' e C T2 dd->Q () { s with heap:=h' }):wpAny M A (noteFrame (.ref e) env) (λ_ s'=>wpAny M A (setFlight (.ref e) none) Q E s') E s:=by
 obtain⟨t0,v2,v3,v4,v5,sl0,oT,ts,he,hTe,hT,hdT,h3⟩:=ho;unfold noteFrame;simp only[hf];refine V0 (Wn he rfl (x:=.ref T) rfl ?_);rw[if_pos (show(Value.ref T != Value.none)=true by simp)];refine V0 (Wn hT hdT h3 ?_);rw[if_neg (show ¬((Value.none==rawInt L)=true)by simp[rawInt])];refine V0 (XY hT hdT (Yg.mp h3).1 ?_);have other:∀b,b≠T->(s.heap.update T (Obj.mapFields (·.setIfInBounds 3 Value.none))).get? b=s.heap.get? b:=λb hb=>WD _ _ (Ne.symm hb);have noRec:∀b o,s.heap.get? b=some o->(∀vs,o.data≠.fields vs)->b≠T:=λb o hb hnf z=>by rw[z,hT]at hb;cases hb;exact hnf ts hdT
 refine qx (s:={ s with heap:=s.heap.update T (Obj.mapFields (·.setIfInBounds 3 Value.none)) }) (T0:=T) hfr (hl.of_keeps λb o hb hnf=>⟨o,(other b (noRec b o hb hnf)).trans hb,rfl⟩) hf ((other e (Ne.symm hTe)).trans he) λh' T2 n2 W O=>?_;have n2':s.heap.get? T2=none:=by
  cases c:s.heap.get? T2 with
  |none=>rfl
  |some o=>exfalso;by_cases z:T2=T;{subst z;rw[Wa _ hT (YF (XZ hdT _))]at n2;cases n2};rw[show({ s with heap:=s.heap.update T (Obj.mapFields (·.setIfInBounds 3 Value.none)) }:Shared).heap.get? T2=s.heap.get? T2 from other T2 z,c]at n2;cases n2
 exact q h' T2 n2' (λb o b1 b2 b3 b4 hb=>W.keep b o b1 b3 b4 ((other b b2).trans hb)) (λb o b1 b2 b3 hb=>W.slot b o b1 b3 ((other b b2).trans hb)) O
end
section
variable{X:Cx}{pins:Zn}{U:St}{H:Hp}{s:Shared}
structure JT(X:Cx)(pins:Zn)(H:Hp)(b:Addr):Prop where
 new:X.s₀.heap.get? b=none
 free:H b=none
 loc:b≠X.env.locals
 cell:∀x c,X.env.cells.lookup x=some c->c≠b
 pin:∀p∈X.pn++pins,p.1≠b
def Inv.Jh(I:Inv X pins U H s)(hx:X.ex=[]){b:Addr}(n:s.heap.get? b=none):JT X pins H b:=by
 refine⟨?_,I.iZ n,λz=>?_,λx c e z=>?_,λp hp z=>?_⟩
 .cases c:X.s₀.heap.get? b with
  |none=>rfl
  |some o=>obtain⟨o1,e1⟩:=I.base.there b o c (by rw[hx];simp);rw[e1]at n;cases n
 .obtain⟨m,⟨o,_,_,ho,_⟩,_⟩:=I.loc;rw[<-z,n]at ho;cases ho
 .obtain⟨v,o,ho,_⟩:=I.cell x c e;rw[z,n]at ho;cases ho
 have:=(I.pin p hp).1;rw[z,n]at this;cases this
def Inv.way{a C:Addr}{h':Heap}{Nw:Addr->Prop}(I:Inv X pins U H s)(ha:H a=some (.ext (fP a C none)))(na:X.s₀.heap.get? a=none)(hN:∀b,Nw b->JT X pins H b)(k:∀b o,b≠a->¬Nw b->b∉frs X.stack->s.heap.get? b=some o->h'.get? b=some o)(sl:∀b o,b≠a->¬Nw b->s.heap.get? b=some o->∃sl,h'.get? b=some { o with slots:=sl })(x:fP a C none h'):Inv X pins U H { s with heap:=h' }:=by
 have B:=I.base;have old:∀b o,X.s₀.heap.get? b=some o->b≠a/\¬Nw b:=λb o e=>⟨(λz=>by rw[z,na]at e;cases e),λz=>by rw[(hN b z).new]at e;cases e⟩;have fre:∀b,H b=none->b≠a:=λb n z=>by rw[z,ha]at n;cases n
 have notst:∀b,b≠X.env.locals->b∉X.fs->b∉frs X.stack:=λb n1 n2 z=>by rcases V7.mp (I.oi b z)with y|y;{exact n1 y};exact n2 y
 have cells:∀y c v,X.env.cells.lookup y=some c->s.heap.IsCell c v->h'.IsCell c v:=λy c v e z=>by obtain⟨o,ho,hd⟩:=z;obtain⟨sl1,e1⟩:=sl c o (fre c (I.fh y c e)) (λz=>(hN c z).cell y c e rfl) ho;exact⟨_,e1,hd⟩
 refine⟨I.ok,I.os,I.bare,⟨λb o e n nf nx=>?_,λb o e n nf nx=>?_,λb o e n nx=>B.free b o e n nx,λb o e nx=>?_,B.tups,B.jH,B.kN⟩,?_,λy c e=>?_,I.free,I.fh,λp hp=>?_,?_,I.len⟩;{refine k b o (old b o e).1 (old b o e).2 (notst b (λz=>?_) nf) (B.keep b o e n nf nx);exact absurd (Vg (VA e) I.ok.above) (by rw[z];exact Vx _)};{obtain⟨sl1,e1⟩:=B.slot b o e n nf nx;obtain⟨sl2,e2⟩:=sl b _ (old b o e).1 (old b o e).2 e1;exact⟨sl2,e2⟩};{obtain⟨o1,e1⟩:=B.there b o e nx;obtain⟨sl2,e2⟩:=sl b _ (old b o e).1 (old b o e).2 e1;exact⟨_,e2⟩};{obtain⟨m,⟨o,es,ep,ho,hd,hs,hf⟩,hl⟩:=I.loc;obtain⟨sl1,e1⟩:=sl X.env.locals o (fre _ I.free) (λz=>(hN _ z).loc rfl) ho;refine⟨m,⟨_,es,ep,e1,hd,hs,hf⟩,λi y v h1 h2 h3=>?_⟩;obtain⟨u,r,q⟩:=hl i y v h1 h2 h3;refine⟨u,r,?_⟩;rcases q with q|⟨kk,c,e,z⟩;{exact .inl q};exact .inr ⟨kk,c,e,cells y c _ e z⟩};{obtain⟨v,z⟩:=I.cell y c e;exact⟨v,cells y c v e z⟩};{obtain⟨e,n,ne,nf,d⟩:=I.pin p hp;exact⟨k p.1 p.2 (fre _ n) (λz=>(hN _ z).pin p hp rfl) (notst _ ne nf) e,n,ne,nf,d⟩};exact CQ I.hok ha (λb z=>(hN b z).free) I.rS (λb o b1 b2 b3 e=>k b o b1 b2 b3 e) x
end
abbrev HD:=St->Addr->Addr->Hp->Prop
def gu(X:Cx)(pins:Zn)(Hd:HD):Cx:={ X with pn:=X.pn++pins,xe:=λe s'=>∃a C T U H,e=.ref a/\Inv X pins U H s'/\i8 s'.heap a C T none/\JT X pins H T/\X.s₀.heap.get? a=none/\H a=some (.ext (fP a C none))/\Hd U C a H }
section
variable{X:Cx}{pins:Zn}{U:St}{H:Hp}{s:Shared}{Hd:HD}
def Inv.S8(I:Inv X pins U H s):Inv (gu X pins Hd) [] U H s:=
 ⟨⟨I.ok.mod,I.ok.kind,I.ok.glob,I.ok.blt,I.ok.above,I.ok.inj,I.ok.has,I.ok.zR,I.ok.hd,I.ok.frames,I.ok.stk,I.ok.Ly,I.ok.bs,I.ok.uQ,I.ok.tO,I.ok.wG,I.ok.jJ,I.ok.yg⟩,I.os,I.bare,I.base,I.loc,I.cell,I.free,I.fh,
  λp hp=>I.pin p (by simpa[gu]using hp),I.hok,I.len⟩
def Inv.vj(I:Inv (gu X pins Hd) ps2 U H s):Inv X pins U H s:=
 ⟨⟨I.ok.mod,I.ok.kind,I.ok.glob,I.ok.blt,I.ok.above,I.ok.inj,I.ok.has,I.ok.zR,I.ok.hd,I.ok.frames,I.ok.stk,I.ok.Ly,I.ok.bs,I.ok.uQ,I.ok.tO,I.ok.wG,I.ok.jJ,I.ok.yg⟩,I.os,I.bare,I.base,I.loc,I.cell,I.free,I.fh,
  λp hp=>I.pin p (V8.mpr (.inl hp)),I.hok,I.len⟩
def SW(hx:X.ex=[])(I:Inv (gu X pins Hd) ps2 U H s)(h:fO X.prog X.w X.stack H s (λc o H'=>∃C a,c=.ref C/\o=some a/\Hd U C a H') e s'):(gu X pins Hd).xe e s':=by obtain⟨a,C,T,H',rfl,os,bare,un,hok,O,nT,hT,na,ha,C',a',ec,eo,q⟩:=h;cases ec;cases eo;have J:=I.vj;have J':=J.EY (s':=s') (ch:=[]) os un hok bare λb z=>absurd z (by simp);have mT:=J.Jh hx nT;exact⟨a,C,T,U,H',rfl,J',O,⟨mT.new,hT,mT.loc,mT.cell,mT.pin⟩,(J.Jh hx na).new,ha,q⟩
end
def C0(X:Cx)(a:Addr):Cx:={ X with A:=X.A.mark (some (.ref a)),calm:=false,xe:=λ_ _=>False }
section
variable{X:Cx}{pins:Zn}{U:St}{H:Hp}{s:Shared}{a:Addr}
def Inv.N9(I:Inv X pins U H s):Inv (C0 X a) pins U H s:=
 ⟨⟨I.ok.mod,I.ok.kind,I.ok.glob,I.ok.blt,I.ok.above,I.ok.inj,I.ok.has,I.ok.zR,λz=>(by cases z),I.ok.frames,I.ok.stk,I.ok.Ly,I.ok.bs,I.ok.uQ,I.ok.tO,I.ok.wG,I.ok.jJ,I.ok.yg⟩,I.os,I.bare,I.base,I.loc,I.cell,I.free,I.fh,I.pin,I.hok,I.len⟩
def Inv.EV(ok:X.Ok)(I:Inv (C0 X a) pins U H s):Inv X pins U H s:=
 ⟨ok,I.os,I.bare,I.base,I.loc,I.cell,I.free,I.fh,I.pin,I.hok,I.len⟩
def rN{i:Nat}(I:Inv X pins U H s)(hN:X.N.Nodup)(hi:X.N[i]?=some n)(hk:X.env.scope.names.lookup n=some .local)
  (h:∀s',Inv X pins (U.set i none) H s'->Q () s'):wpAny M A (do bindName X.env n .none;unbindBehindTheSuite X.env n pos) Q E s:=by
 have hcls:(X.env.scope.kind == .class||(X.env.scope.kind == .module&&X.env.locals != X.env.globals))=false:=by rw[I.ok.kind];rfl
 have hl:X.env.kindOf n=some .local:=hk;refine V0 (wpAny_bindName (mO (v:=.bU) I hN hi (.inl hk) rfl (λs1 I1=>?_) (.inr hk)))
 obtain⟨m,hn,hlk⟩:=id I1.loc;have hiσ:i<U.length:=by rw[I.len];exact(Vz.mp hi).1
 unfold unbindBehindTheSuite;refine wpAny_onRaise ?_;obtain⟨u,ru,lu⟩:=hlk i n .bU hi (by rw[Xj hiσ]) (.inl hk)
 have hv:m n=some u:=by rcases lu with⟨_,e⟩|⟨z|z,_⟩;{exact e};{rw[hl]at z;cases z};rw[hl]at z;cases z
 refine wpAny_unbindName_local hl hn hv hcls λh' u' hn' hs=>h _ ?_
 obtain⟨oL,_,_,hoL,_⟩:=id hn;refine⟨I1.ok,I1.os,I1.bare,⟨λb o e n hb hx=>?_,λb o e n hb hx=>?_,I1.base.free,λb o e hx=>?_,I1.base.tups,I1.base.jH,I1.base.kN⟩,⟨_,hn',λj y v' e1 e2 e3=>?_⟩,λy c e=>?_,I1.free,I1.fh,λp hp=>?_,?_,by simpa using I.len⟩
 .exact(hs.2 b (VC (Vg (VA e) I1.ok.above))).trans (I1.base.keep b o e n hb hx)
 .obtain⟨sl,e1⟩:=I1.base.slot b o e n hb hx;exact⟨sl,(hs.2 b (VC (Vg (VA e) I1.ok.above))).trans e1⟩
 .obtain⟨o',e1⟩:=I1.base.there b o e hx;exact⟨o',(hs.2 b (VC (Vg (VA e) I1.ok.above))).trans e1⟩
 .by_cases hj:j=i
  .subst hj;rw[Xj hiσ]at e2;cases e2
  .rw[XJ (Ne.symm hj)]at e2;obtain⟨u',r',q⟩:=hlk j y v' e1 (by rw[XJ (Ne.symm hj)];exact e2) e3
   refine⟨u',r',?_⟩;rcases q with⟨k,e⟩|⟨k,c,e,z⟩
   .refine .inl ⟨k,?_⟩;have:y≠n:=λe=>hj (t7 hN e1 (e▸hi))
    simp[this,e]
   .exact .inr ⟨k,c,e,z.sameBut hs (I1.uI y c e)⟩
 .obtain⟨w',z⟩:=I1.cell y c e;exact⟨w',z.sameBut hs (I1.uI y c e)⟩
 .obtain⟨e,n,ne,nf,d⟩:=I1.pin p hp;exact⟨(hs.2 p.1 ne).trans e,n,ne,nf,d⟩
 .intro b ob e;refine(I1.hok b ob e).stay (λc w' hc q=>(hs.2 c ?_).trans q) (λ_ q=>q) λ_ _ q=>q
  rintro rfl;rcases hc with hc|hc
  .rw[<-hc,I1.free]at e;cases e
  .rw[I1.free]at hc;cases hc
end
def gone(i:Nat)(D:Ends):Ends:=⟨λU H=>D.nx (U.set i none) H,D.rt,λU H=>D.bk (U.set i none) H,λU H=>D.ct (U.set i none) H⟩
def Ub(K:Frag)(B:Addr) (i:Nat)(tb:Zn->HD->TS)(th:Addr->TS):TS:=λD U H=>∀pins,tb pins (λσ1 C a H1=>exmOne K (.ref C) (.ref B)=some true/\th a (gone i D) (σ1.set i (some (.ref a))) H1) D U H
section
variable{X:Cx}{x n:Str}{np hpos pos:Pos}{B:Addr}{i:Nat}{body suite:A02}{b₀:Stmt}{tb:Zn->HD->TS}{th:Addr->TS}
def Ox(hx:X.ex=[])(hst:X.stack=X.env::X.outer)(hfr:X.env.frame=some X.env.locals)(hg:Gl X x)(hm:X.mg x=some (.ref B))(hN:X.N.Nodup)(hi:X.N[i]?=some n)(hk:X.env.scope.names.lookup n=some .local)(hb:∀pins Hd,mW (gu X pins Hd) body (tb pins Hd))(hh:∀a,mW (C0 X a) (b₀::suite) (th a))(hdb:(x==("__debug__":Str))=false:=by decide) : PS X (.Try body [.ExceptHandler (some (.Name x np)) (some n) (b₀::suite) hpos] [] [] pos) (Ub X.K B i tb th):=by
 intro pins s U H D I h;refine wpAny_Try_except (Vh (hb pins _ [] s U H D I.S8 (h pins)) (λf s1 h1=>?_) λe s1 h1=>?_)
 .cases f with
  |next=>obtain⟨σ',H',J,q⟩:=h1;exact Y6 ⟨σ',H',J.vj,q⟩
  |brk=>obtain⟨σ',H',J,q⟩:=h1;exact⟨σ',H',J.vj,q⟩
  |cont=>obtain⟨σ',H',J,q⟩:=h1;exact⟨σ',H',J.vj,q⟩
  |ret u=>obtain⟨v,σ',H',J,r,q⟩:=h1;exact⟨v,σ',H',J.vj,r,q⟩
 obtain⟨a,C,T,σ1,H1,rfl,J,O,mT,na,ha,hxm,q⟩:=h1;refine Mf (base:=X.base) (L:=X.env.locals) (by rw[<-hst];exact J.ok.frames) (by rw[<-hst];exact J.stack) hfr O λh' T2 n2 k sl O2=>?_;have m2:=J.Jh hx n2;have J2:Inv X pins σ1 H1 { s1 with heap:=h' }:=J.way (Nw:=λb=>b=T\/b=T2) ha na (λb z=>by rcases z with rfl|rfl;exact mT;exact m2)
  (λb o b1 b2 b3 e=>k b o b1 (λz=>b2 (.inl z)) (λz=>b2 (.inr z)) (by rw[<-hst];exact b3) e) (λb o b1 b2 e=>sl b o b1 (λz=>b2 (.inl z)) (λz=>b2 (.inr z)) e) O2.FN
 refine wpAny_handleBy_cons (codeAny_handlers_test ?_) (by intro z;cases z);refine oF (X:=C0 X a) J2.N9 hg hm ?_ hdb;obtain⟨t0,v2,v3,v4,v5,sl0,oT,ts,he,hTe,hT,hdT,h3⟩:=id O2;have L:Looks (model X.prog X.w) h' (excMatches (.ref a) (.ref B)) true:=exm_one J2.f9 ((Looks.ld he).andThen .now) hxm;refine L.here ?_;show codeAny _ _ _ _ _;refine codeAny_handlers_suite_as ?_;refine wpAny_setFlight_none he rfl (tb:=T2) rfl hT hdT (Yg.mp h3).1 ?_;have hup:∀b,b≠T2->(h'.update T2 (Obj.mapFields (·.setIfInBounds 3 Value.none))).get? b=h'.get? b:=λb z=>WD _ _ (Ne.symm z);have J3:Inv X pins σ1 H1 { s1 with heap:=h'.update T2 (Obj.mapFields (·.setIfInBounds 3 Value.none)) }:=J2.way (s:={ s1 with heap:=h' }) (Nw:=λb=>b=T2) ha na (λb z=>by rw[z];exact m2)
  (λb o b1 b2 b3 e=>(hup b b2).trans e) (λb o b1 b2 e=>⟨o.slots,(hup b b2).trans e⟩) ⟨t0,_,v2,v3,v4,v5,sl0,(hup a (Ne.symm hTe)).trans he⟩
 refine mO (X:=C0 X a) (v:=.ref a) J3.N9 hN hi (.inl hk) rfl (λs4 J4=>?_) (.inr hk);refine Vh (hh a pins s4 _ H1 (gone i D) J4 q) (λf s5 h5=>?_) λ_ _ z=>z.elim;cases f with
 |next=>obtain⟨σ',H',J5,q5⟩:=h5;exact rN (J5.EV I.ok) hN hi hk λs6 J6=>⟨_,H',J6,q5⟩
 |brk=>obtain⟨σ',H',J5,q5⟩:=h5;exact rN (J5.EV I.ok) hN hi hk λs6 J6=>⟨_,H',J6,q5⟩
 |cont=>obtain⟨σ',H',J5,q5⟩:=h5;exact rN (J5.EV I.ok) hN hi hk λs6 J6=>⟨_,H',J6,q5⟩
 |ret u=>obtain⟨v,σ',H',J5,r5,q5⟩:=h5;exact rN (J5.EV I.ok) hN hi hk λs6 J6=>⟨v,_,H',J6,r5,q5⟩
end
section
variable{X0:Cx}{pins0:Zn}{Hd:HD}{k:Nat}{f:Addr}{fd:FuncData}{ps:A05}{sp:Sp}{dvs:List V}{ds:Zy}{x:Str}{p pos:Pos}{e:Expr}{es:A01}{t:TA}
def IT(sp:Sp)(dvs:List V)(Hd:HD)(t:TA):TE:=λU H Q=>t U H λvs H1=>sp (vs++dvs) H1 Q (λc o H'=>∃C a,c=.ref C/\o=some a/\Hd U C a H')
def Jr(hex:X0.ex=[])(F:gM X0.prog X0.w X0.K X0.mg X0.base (fO X0.prog X0.w) k f fd ps sp)(hr:dM k X0.A)(hg:Gl X0 x)(hm:X0.mg x=some (.ref f))(hk:PySem.W.keepIn X0.K (.ref f)=true)(hb:Binds X0.K fd ps ds)(hd:Vals dvs ds)(ha:PA (gu X0 pins0 Hd) (e::es) t)(hdb:(x==("__debug__":Str))=false:=by decide)(he:starEach (e::es) X0.env=(false,eval e X0.env)::starEach es X0.env:=by rfl)(hpl:(backTo pos (starEach es X0.env)).any (·.1)=false:=by rfl) : PE (gu X0 pins0 Hd) (.Call (.Name x p) (e::es) [] pos) (IT sp dvs Hd t):=by
 intro pins s U H Q I h;refine YT (oF I hg hm ?_ hdb);refine PySem.W.callWith_K (h₀:=X0.base) I.ok.mod.AO hk (aT (ha pos pins s U H _ I h) λus s1 ⟨vs,H1,I1,r,q⟩=>⟨I1.f9,?_⟩) he hpl;have r2:Vals (vs++dvs) (us++ds):=r.append hd;have hl:(us++ds).length=ps.length:=by rw[<-r2.length];exact F.len _ _ _ _ q
 refine Xl (Wm (F.run X0.A X0.stack s1 H1 ⟨us,[]⟩ (us++ds) (vs++dvs) Q _ hr I1.OB (hb s1 us I1.f9 hl) r2 q) λr s' hq=>?_);cases r with
 |error e=>exact SW hex I1 hq
 |ok fl=>
  cases fl with
  |ret u=>exact I1.after hq
  |next=>exact False.elim hq
  |brk=>exact False.elim hq
  |cont=>exact False.elim hq
end
section
variable{P:Program}{w:World}{K:Zt}{mg:Zm}{base:Heap}
def vL.QO{x qual:Str}{st:Stmt}{f:Addr}{fd:FuncData}{N ps:A05}{k:Nat}{sp:Sp}(F:vL K x qual st f fd)(S:aL N ps (ay st))(len:∀vs H Q E,sp vs H Q E->vs.length=ps.length)(hbody:∀(cdv:Value)(A:Around)(outer:List Env)(s:Shared)(H:Hp)(vs:List V)(Q:VK)(E:XK),dM k (A.deeper (envOfC qual (ay st) s.heap.objs.size f cdv))->sp vs H Q E-> ∃t,mW (ir (fO P w) P w K mg base N qual (ay st) f cdv A outer s H E) (i7 st) t/\t { nx:=λ_ H'=>Q .bU H',rt:=Q } (start N vs) H):gM P w K mg base (fO P w) (k+1) f fd ps sp:=by obtain⟨oc,od,kV,doc,pm,an,cdv,ct,osl,rfl,lk,hcd⟩:=F.ex;refine RK lk hcd S len λA outer s H vs Q E hr hsp=>?_;obtain⟨t,h,q⟩:=hbody cdv A outer s H vs Q E hr hsp;exact⟨t,h,q⟩
def bV(P:Program)(w:World)(K:Zt)(mg:Zm)(base:Heap) (k:Nat) (x:Str)(ps:A05)(sp:Sp):Prop:=
 ∃f fd,mg x=some (.ref f)/\PySem.W.keepIn K (.ref f)=true/\Binds K fd ps []/\gM P w K mg base (fO P w) k f fd ps sp
end
def MP{k:Nat}(hex:X0.ex=[])(h:bV X0.prog X0.w X0.K X0.mg X0.base k x ps sp)(hr:dM k X0.A)(hg:Gl X0 x)(ha:PA (gu X0 pins0 Hd) (e::es) t)(hdb:(x==("__debug__":Str))=false:=by decide)(he:starEach (e::es) X0.env=(false,eval e X0.env)::starEach es X0.env:=by rfl)(hpl:(backTo pos (starEach es X0.env)).any (·.1)=false:=by rfl) : PE (gu X0 pins0 Hd) (.Call (.Name x p) (e::es) [] pos) (IT sp [] Hd t):=by obtain⟨f,fd,h1,h2,h3,h4⟩:=h;exact Jr hex h4 hr hg h1 h2 h3 .nil ha hdb he hpl
end L2
namespace Dv
open PySem L2 PySem.W
def WE(X:Cx)(e:Expr):TE:=λU H Q=>∀(pins:Zn)(s:Shared),Inv X pins U H s->wpAny (model X.prog X.w) X.A (eval e X.env) (EP X pins U Q) X.xe s
def bB:PE X e (WE X e):=λpins s _ _ _ I h=>h pins s I
def WE.of(h:PE X e t)(q:t U H Q):WE X e U H Q:=λpins s I=>h pins s U H Q I q
def WT(X:Cx)(e:Expr):TT:=λU H Q=>∀(pins:Zn)(s:Shared),Inv X pins U H s->wpAny (model X.prog X.w) X.A (isTrue e X.env (eval e X.env)) (TP X pins U Q) X.xe s
def jX:PT X e (WT X e):=λpins s _ _ _ I h=>h pins s I
def WT.of(h:PT X e t)(q:t U H Q):WT X e U H Q:=λpins s I=>h pins s U H Q I q
def vN(X:Cx):A01->TA
 |[],_,H,Q=>Q [] H
 |e::es,U,H,Q=>WE X e U H λv H1=>vN X es U H1 λvs H2=>Q (v::vs) H2
def sel(Y:A03)(U:St):St:=Y.map λi=>(U[i]?).join
def fJ{j i:Nat}(h:Y[j]?=some i)(e:U[i]?=some (some v)):(sel Y U)[j]?=some (some v):=by unfold sel;rw[VQ,h];show some (U[i]?).join=_;rw[e];rfl
def XL(X:Cx)(Ex:XK)(x:XC)(g:Gh):Prop:=∀(c:Str)(d:PyData)(C a:Addr)(H':Hp),X.mg c=some (.ref C)->x c d->(∀p o,p∉g.M->g.H0 p=some o->H' p=some o)->H' a=some (.ext (fP a C none))->g.H0 a=none->Ex (.ref C) (some a) H'
def XL.no:XL X Ex xF g:=λ_ _ _ _ _ _ z=>z.elim
def SE(X:Cx)(Ex:XK)(Y:A03)(e:Expr)(d:DE):Prop:=
 ∀(g:Gh)(x:XC)(E:En)(U:St)(H Hm:Hp)(F:Nat->Zz)(P:A06)(Q:VK),XL X Ex x g->Rl X.K g E U H Hm F->d x E P->
  (∀E' k v u H' Hm' F' fp,P E' k v->Rl X.K g E' U H' Hm' F'->aj Hm Hm'->Tm X.K g F' H' Hm' k u v fp->Q u H')->WE X e (sel Y U) H Q
def ST(X:Cx)(Ex:XK)(Y:A03)(e:Expr)(d:DT):Prop:=
 ∀(g:Gh)(x:XC)(E:En)(U:St)(H Hm:Hp)(F:Nat->Zz)(P:A0A)(Q:Bool->Hp->Prop),XL X Ex x g->Rl X.K g E U H Hm F->d x E P->
  (∀E' b H' Hm' F',P E' b->Rl X.K g E' U H' Hm' F'->aj Hm Hm'->Q b H')->WT X e (sel Y U) H Q
inductive aV(X:Cx)(Ex:XK)(Y:A03):A01->List Arg->Prop
 |nil:aV X Ex Y [] []
 |pk {e:Expr}{es:A01}{as:List Arg}{i j:Nat}:PE X e (pO j)->Y[j]?=some i->aV X Ex Y es as->aV X Ex Y (e::es) (.pk i::as)
 |ev {e:Expr}{es:A01}{as:List Arg}{d:DE}:SE X Ex Y e d->aV X Ex Y es as->aV X Ex Y (e::es) (.ev d::as)
inductive Got(K:Frag)(U:St)(Hm:Hp):List Arg->List (Option PyData)->List V->Prop
 |nil:Got K U Hm [] [] []
 |pk {i:Nat}{v:V}{as:List Arg}{os:A07}{vs:List V}:U[i]?=some (some v)->Got K U Hm as os vs->Got K U Hm (.pk i::as) (none::os) (v::vs)
 |ev {e:DE}{v:V}{d:PyData}{as:List Arg}{os:A07}{vs:List V}:Rp K Hm v d->Got K U Hm as os vs->Got K U Hm (.ev e::as) (some d::os) (v::vs)
def kq{F:Nat->Zz}(R:Rl K g E U H Hm F){i:Nat}(h:here E i=true):∃v,U[i]?=some (some v):=by unfold here at h;split at h;{rename_i kd e;obtain⟨v,h1,_⟩:=R.slot i kd.1 kd.2 e;exact⟨v,h1⟩};cases h
section
variable{X:Cx}{Ex:XK}{Y:A03}{g:Gh}{x:XC}{U:St}
def kC(hx:XL X Ex x g)(S:aV X Ex Y es as):∀{E:En}{H Hm:Hp}{F:Nat->Zz}{P:En->List (Option PyData)->Prop}{Q:List V->Hp->Prop},Rl X.K g E U H Hm F->jB as x E P->(∀E' os vs H' Hm' F',P E' os->Rl X.K g E' U H' Hm' F'->aj Hm Hm'->Got X.K U Hm' as os vs->Q vs H')->vN X es (sel Y U) H Q:=by
 induction S with
 |nil=>exact λR h q=>q _ _ _ _ _ _ h R (aj.refl _) .nil
 |@pk e es as i j hp hj _ ih=>intro E H Hm F P Q R h q;replace h:bK (here E i) _:=h;rw[dh]at h;obtain⟨h1,h2⟩:=h;obtain⟨v,hv⟩:=kq R h1;refine WE.of hp ⟨v,fJ hj hv,ih R h2 λE' os vs H' Hm' F' p R' s G=>q _ _ _ _ _ _ p R' s (.pk hv G)⟩
 |@ev e es as d hd _ ih=>intro E H Hm F P Q R h q;refine hd g x E U H Hm F _ _ hx R h λE1 k v u H1 Hm1 F1 fp p R1 s1 T=>?_;replace p:bK k.fz _:=p;rw[dh]at p;obtain⟨hk,p⟩:=p;obtain⟨Hm2,s2,R2,r⟩:=T.gj R1 hk;exact ih R2 p λE' os vs H' Hm' F' p' R' s' G=>q _ _ _ _ _ _ p' R' (s1.trans (s2.trans s')) (.ev (r.mono s') G)
def oj{F:Nat->Zz}(R:Rl K g E U H Hm F)(s:aj Hm Hm1):∀{as:List Arg}{os:A07}{vs:List V}{ds:Zw},Got K U Hm as os vs->fill as E os=some ds->(∀i∈fM as,∀a∈F i,Hm1 a=H a)->aC K Hm1 vs ds:=by
 intro as os vs ds G;induction G generalizing ds with
 |nil=>intro h _;cases h;exact .nil
 |@pk i v as os vs hv G ih=>
  intro h n;rw[fill]at h;split at h
  .rename_i k d e;by_cases hk:k.rd=true
   .rw[if_pos hk]at h;cases hf:fill as E os with
    |none=>rw[hf]at h;cases h
    |some es=>rw[hf]at h;cases h;obtain⟨v',h1,h2⟩:=R.slot i k d e;rw[hv]at h1;cases h1;exact .cons (h2.rp hk s (n i V1)) (ih hf λj hj=>n j (V5 _ hj))
   rw[if_neg hk]at h;cases h
  cases h
 |@ev d v u as os vs r G ih=>
  intro h n;rw[fill]at h;cases hf:fill as E os with
  |none=>rw[hf]at h;cases h
  |some es=>rw[hf]at h;cases h;exact .cons (r.mono s) (ih hf n)
theorem pT:∀{is:A03}{E E2:En},eE is E=some E2->E2.length=E.length/\∀j,(j∉is->E2[j]?=E[j]?)/\(j∈is->∃k d,E[j]?=some (some (k,d))/\k.fz=true/\E2[j]?=some (some (.sh,d)))
 |[],E,E2,h=>by cases h;exact⟨rfl,λj=>⟨λ_=>rfl,λz=>by cases z⟩⟩
 |i::r,E,E2,h=>by
  have h:(dX E i).bind (eE r)=some E2:=h;cases hf:dX E i with
  |none=>rw[hf]at h;cases h
  |some E1=>
   rw[hf]at h;obtain⟨l1,g1⟩:=pT (is:=r) (E:=E1) (E2:=E2) h;unfold dX at hf;split at hf
   .rename_i k d e;by_cases hk:k.fz=true
    .rw[if_pos hk]at hf;cases hf;have li:i<E.length:=by rcases Vt i E.length with h|h;{exact h};rw[Vr h]at e;cases e
     rw[Vs]at l1;refine⟨l1,λj=>⟨λn=>?_,λm=>?_⟩⟩;{have n1:j≠i:=λz=>n (z▸V1);rw[(g1 j).1 λz=>n (V5 _ z),aq (Ne.symm n1)]};by_cases c:j=i;{subst c;by_cases m':j∈r;{obtain⟨k2,d2,e2,_,e3⟩:=(g1 j).2 m';rw[aO li]at e2;cases e2;exact⟨k,d,e,hk,e3⟩};exact⟨k,d,e,hk,by rw[(g1 j).1 m',aO li]⟩};have m':j∈r:=(V7.mp m).resolve_left c;obtain⟨k2,d2,e2,h2,e3⟩:=(g1 j).2 m';rw[aq (Ne.symm c)]at e2;exact⟨k2,d2,e2,h2,e3⟩
    rw[if_neg hk]at hf;cases hf
   cases hf
def As{F:Nat->Zz}(R:Rl K g E U H Hm F)(hE:(if flat k v=true then some E else eE is E)=some E2)(sH:aj H H')(s1:aj (lend Hm H (is.flatMap F)) Hm2)(s2:aj Hm2 H')(old:∀a,H a≠none->OE (Hm2 a) (lend Hm H (is.flatMap F) a))(o:Own K H' Hm2 k u v fp)(fr:∀a∈fp,H a=none/\Hm2 a=none) : ∃Hm' F',Rl K g E2 U H' Hm' F'/\aj Hm Hm'/\Tm K g F' H' Hm' k u v fp:=by
 have mem:∀{a i},a∈F i->i∈is->a∈is.flatMap F:=λha hi=>Vq.mpr ⟨_,hi,ha⟩;have off:∀a∈is.flatMap F,Hm a=none:=λa ha=>by obtain⟨i,_,h⟩:=Vq.mp ha;exact R.off i a h
 have up:aj Hm (lend Hm H (is.flatMap F)):=jM off;have bI:∀{i a},a∈F i->H a≠none:=λha z=>by obtain⟨u,hu,_⟩:=R.bI _ _ ha;rw[z]at hu;cases hu
 have nfp:∀a∈fp,∀i,a∉F i:=λa ha i=>R.fresh (fr a ha).1;by_cases hf:flat k v=true
 .rw[if_pos hf]at hE;cases hE;refine⟨back Hm2 (is.flatMap F),F,R.grow sH (λb o e=>?_) (AZ s2) (λi a ha=>?_) (λa ha=>?_),λb o e=>?_,⟨o.flat (λa xs h=>?_) hf,λa ha=>?_,nfp,λa ha=>R.gK (fr a ha).1⟩⟩;{rw[dH λz=>by rw[off b z]at e;cases e];exact s1 _ _ (up _ _ e)};{by_cases c:a∈is.flatMap F;{exact jT c};rw[dH c];obtain⟨w,hw,nt⟩:=R.bI i a ha;exact(old a (bI ha)).off (by rw[dQ c];exact R.off i a ha) s2 (sH _ _ hw) nt};{by_cases c:a∈is.flatMap F;{rw[jT c,off a c];exact .inl rfl};have h:=old a (R.rR ha);rw[dQ c]at h;rw[dH c];exact h};{rw[dH λz=>by rw[off b z]at e;cases e];exact s1 _ _ (up _ _ e)}
  .have c:a∉is.flatMap F:=λz=>by obtain⟨i,_,hi⟩:=Vq.mp z;obtain⟨w,hw,nt⟩:=R.bI i a hi;have e2:Hm2 a=some w:=s1 _ _ (by rw[gn z];exact hw);rw[e2]at h;cases h;exact nt xs rfl
   rw[dH c];exact h
  by_cases c:a∈is.flatMap F;{exact jT c};rw[dH c];exact(fr a ha).2
 rw[if_neg hf]at hE;obtain⟨l2,g2⟩:=pT hE;have R':Rl K g E2 U H' Hm2 (λj=>if j∈is then []else F j):={
  len:=l2.trans R.len
  sub:=s2
  slot:=λj k' d' e'=>by
   by_cases c:j∈is
   .obtain⟨k0,d0,e0,hk0,e1⟩:=(g2 j).2 c;rw[e1]at e';cases e';obtain⟨v',h1,h2⟩:=R.slot j k0 _ e0;refine⟨v',h1,?_⟩;rw[if_pos c];exact .sh ((h2.rp (by cases k0<;>first|rfl|cases hk0) up λa ha=>gn (mem ha c)).mono s1)
   .rw[(g2 j).1 c]at e';obtain⟨v',h1,h2⟩:=R.slot j k' d' e';refine⟨v',h1,?_⟩;rw[if_neg c];refine h2.step (up.trans s1) λa ha=>?_
    obtain⟨w,hw,_⟩:=h2.live a ha;rw[hw];exact sH _ _ hw
  off:=λj a ha=>by
   by_cases c:j∈is
   .rw[if_pos c]at ha;cases ha
   .rw[if_neg c]at ha;obtain⟨w,hw,nt⟩:=R.bI j a ha;refine(old a (bI ha)).off ?_ s2 (sH _ _ hw) nt;rw[dQ]
    .exact R.off j a ha
    .intro z;obtain⟨i,hi,h⟩:=Vq.mp z;exact c (R.aW i j a h ha▸hi)
  bI:=λj a ha=>by
   by_cases c:j∈is
   .rw[if_pos c]at ha;cases ha
   .rw[if_neg c]at ha;obtain⟨w,hw,nt⟩:=R.bI j a ha;exact⟨w,sH _ _ hw,nt⟩
  aW:=λj l a h1 h2=>by
   by_cases c:j∈is
   .rw[if_pos c]at h1;cases h1
   .rw[if_neg c]at h1
    by_cases c':l∈is
    .rw[if_pos c']at h2;cases h2
    .rw[if_neg c']at h2;exact R.aW j l a h1 h2
  fr:=λp o hp ho=>sH _ _ (R.fr p o hp ho)
  new:=λj a ha=>by
   by_cases c:j∈is
   .rw[if_pos c]at ha;cases ha
   .rw[if_neg c]at ha;exact R.new j a ha
  pin:=λq hq=>by
   obtain⟨h1,ds',h2⟩:=R.pin q hq;have c:q.1∉is:=λz=>by
    obtain⟨k0,d0,e0,hk0,_⟩:=(g2 q.1).2 z;rw[h2]at e0;cases e0;cases hk0
   exact⟨h1,ds',by rw[(g2 q.1).1 c];exact h2⟩
  old:=λa ha=>by
   refine(old a (R.rR ha)).trans ?_;rw[dQ]
   .exact R.old a ha
   .intro z;obtain⟨i,hi,h⟩:=Vq.mp z;obtain⟨k0,d0,e0,hk0,_⟩:=(g2 i).2 hi;exact ha (R.notM e0 (by cases k0<;>first|rfl|(rename_i p;cases p<;>first|rfl|cases hk0)|cases hk0) h) }
 refine⟨Hm2,_,R',up.trans s1,⟨o,λa ha=>(fr a ha).2,λa ha i=>?_,λa ha=>R.gK (fr a ha).1⟩⟩;by_cases c:i∈is;{rw[if_pos c];simp};rw[if_neg c];exact nfp a ha i
def c7(K:Frag)(f:DR)(r:List V->Hp->VK->Prop):Prop:=
 ∀(H Hm:Hp)(vs:List V)(ds:Zw)(P:A09)(Q:VK),aj Hm H->aC K Hm vs ds->f ds P->
  (∀k v u H' Hm' fp,P k v->aj H H'->aj Hm Hm'->aj Hm' H'->(∀a,H a≠none->OE (Hm' a) (Hm a))->Own K H' Hm' k u v fp->(∀a∈fp,H a=none/\Hm' a=none)->Q u H')->r vs H Q
def fR(S:aV X Ex Y es as)(hr:∀U H Q,vN X es U H (λvs H1=>r vs H1 Q)->WE X e U H Q)(D:c7 X.K f r):SE X Ex Y e (ah f as):=by
 intro g x E U H Hm F P Q hx R h q;refine hr _ _ _ (kC hx S R h λE1 os vs H1 Hm1 F1 p R1 s1 G=>?_);replace p:vD f as E1 os P:=p;unfold vD at p;rw[<-bw,e7]at p;obtain⟨ds,hf,hg⟩:=p;have off:∀a∈(fM as).flatMap F1,Hm1 a=none:=λa ha=>by obtain⟨i,_,h⟩:=Vq.mp ha;exact R1.off i a h
 have up:=jM (Hm:=Hm1) (H:=H1) off;refine D H1 (lend Hm1 H1 ((fM as).flatMap F1)) vs ds _ Q (mP R1.sub) (oj R1 up G hf λi hi a ha=>gn (Vq.mpr ⟨i,hi,ha⟩)) hg λk v u H' Hm2 fp p sH sM sS old o fr=>?_;replace p:aH (tX as E1 k v) _:=p;rw[<-bw,wB]at p;obtain⟨E2,ha,p⟩:=p;obtain⟨Hm',F',R',s',T⟩:=As R1 (is:=fM as) (Aj ha) sH sM sS old o fr;exact q _ _ _ _ _ _ _ _ p R' (s1.trans s') T
end
end Dv
namespace L2
open PySem PySem.Spec PyProof.Rows
section
variable{X:Cx}
def Er(i j:Int):Prop:=0<j/\j<115792089237316195423570985008687907853269984665640564039457584007913129639936
def IV:b5 X (binaryOp .FloorDiv) (rI Er λi j=>.int (i/j)):=Lg λi j _ _ _ _ _ hc q=>by
 have h1:(0:Int)<j:=hc.1;have h2:j<115792089237316195423570985008687907853269984665640564039457584007913129639936:=hc.2;refine floordiv_int (by lia) (by rw[Int.fdiv_eq_ediv_of_nonneg i (by lia)];exact q) (.inl (PyProof.noPylong_of_log2 ?_));have:j.natAbs.log2<256:=(Nat.log2_lt (by lia)).mpr (by
  have:(2:Nat)^256=115792089237316195423570985008687907853269984665640564039457584007913129639936:=by decide
  lia)
 lia
end
end L2
namespace SM
open PySem PySem.SetTable
section
variable{prog:Program}{w:World}{K:Type} [DecidableEq K]{knd:KeyKind prog w K}{A:Around}{E:Zk}{s:Shared}{t:SetTable}{es:Array Ent}
def EG(knd:KeyKind prog w K)(e:Ent)(k:K):Prop:=knd.is k e.2=true/\e.1=knd.hash k/\e.2.scannable=true
structure SP(knd:KeyKind prog w K)(es:Array Ent)(ks:List K):Prop where
 ok:∀e∈es.toList,∃k,k∈ks/\EG knd e k
 on:∀k∈ks,∃e,e∈es.toList/\EG knd e k
 len:es.size=ks.length
structure nL(knd:KeyKind prog w K)(o:Obj)(ks:List K):Prop where
 ex:o.ExactSet
 tb:∃es ep t,o.data=.set es ep t/\TB t es/\es.size*5<t.mask*3/\t.mask<=511/\t.plain=true/\t.led=(!(w.params.followText "set-order"))/\SP knd es ks
def SP.elems(S:SP knd es ks):ElemsOf knd es.toList:=λe he=>by obtain⟨k,_,h1,h2,h3⟩:=S.ok e he;exact⟨⟨k,h1,h2⟩,h3⟩
def SP.perm(S:SP knd es ks)(p:es'.toList.Perm es.toList):SP knd es' ks:=by refine⟨λe he=>S.ok e (p.mem_iff.mp he),λk hk=>?_,?_⟩;{obtain⟨e,h1,h2⟩:=S.on k hk;exact⟨e,p.mem_iff.mpr h1,h2⟩};have:=p.length_eq;rw[W0,W0]at this;rw[this,S.len]
def SP.put{p:Nat}(S:SP knd es ks)(hp:p<=es.size)(hk:knd.is k x=true)(hs:x.scannable=true):SP knd (insertAt es p (knd.hash k,x)) (ks++[k]):=by
 refine⟨λe he=>?_,λk' hk'=>?_,by rw[iR hp,S.len,VD,Wc]⟩;{rcases(lD hp _ _).mp he with rfl|he;{exact⟨k,by simp,hk,rfl,hs⟩};obtain⟨k',h1,h2⟩:=S.ok e he;exact⟨k',by simp[h1],h2⟩};rcases V8.mp hk' with h1|h1;{obtain⟨e,h2,h3⟩:=S.on k' h1;exact⟨e,(lD hp _ _).mpr (.inr h2),h3⟩};have:k'=k:=by simpa using h1
 subst this;exact⟨_,(lD hp _ _).mpr (.inl rfl),hk,rfl,hs⟩
def SP.find(S:SP knd es ks):(k∈ks->∃j,List.findIdx? (λe=>knd.is k e.2) es.toList=some j)/\(k∉ks->List.findIdx? (λe=>knd.is k e.2) es.toList=none):=by
 constructor
 .intro h;obtain⟨e,h1,h2,_⟩:=S.on k h;cases z:List.findIdx? (λe=>knd.is k e.2) es.toList with
  |none=>have:=List.findIdx?_eq_none_iff.mp z e h1;rw[h2]at this;cases this
  |some j=>exact⟨j,rfl⟩
 intro h;refine List.findIdx?_eq_none_iff.mpr λe he=>?_;obtain⟨k',h1,h2,_⟩:=S.ok e he;cases z:knd.is k e.2 with
 |false=>rfl
 |true=>exact absurd (knd.inj e.2 k k' z h2▸h1) h
def NL{N:Nat}{h:Int}(T:TB t es)(hl:N<10*turns t.mask)(hN:¬In t (pr t.mask h N).j)(hw:Way t h N)(room:es.size+1<=t.mask) : layNew t es h x=(insertAt es (t.put (pr t.mask h N).j).2 (h,x),(t.put (pr t.mask h N).j).1,false,false):=by have T1:=T.put (e:=(h,x)) hl hN hw room (vW t.mask h N);have f:=T1.fits;unfold layNew;rw[T.freeSlot hl hN hw];dsimp only at f⊢;unfold orStandIn;rw[f];rfl
def M6{a:Addr}(ha:s.heap.get? a=some o)(S:nL knd o ks)(hk:knd.is k x=true)(hsc:x.scannable=true)(hpl:plainKind x=true)(few:ks.length+1<=127)(q0:k∈ks->Q false s)(q1:k∉ks->∀h' o',Heap.SameBut a s.heap h'->h'.get? a=some o'->nL knd o' (ks++[k])->Q true { s with heap:=h' }) : wpAny (model prog w) A (setAddHashed a x (knd.hash k)) Q E s:=by
 obtain⟨ex,es,ep,t,hd,T,nf,hm,pl,ld,sp⟩:=S;have bnd:es.size<scanBound:=by have z:scanBound=4096:=rfl;have:=sp.len;lia
 unfold setAddHashed setAddHashedIn;refine Vo (V0 (Wt ha hd T.fits ?_));dsimp only;rw[byScan_of hsc bnd sp.elems,if_pos rfl];unfold setAddByScan;refine V0 ?_;refine V0 (Wy ?_);refine V0 (wpAny_setScan_of hk ha hd T.fits sp.elems ?_);by_cases c:k∈ks;{obtain⟨j,hj⟩:=sp.find.1 c;rw[hj];dsimp only;exact V2 (V2 (q0 c))};rw[sp.find.2 c];dsimp only;obtain⟨N,hl,hN,hw⟩:=T.first (knd.hash k);have hj:=vW t.mask (knd.hash k) N;have T1:=T.put (e:=(knd.hash k,x)) hl hN hw (by lia) hj;have hp:(t.put (pr t.mask (knd.hash k) N).j).2<=es.size:=by rw[<-T.sz];exact zo T.ri _
 have S1:=sp.put (x:=x) hp hk hsc;have z1:=iR hp ((knd.hash k,x):Ent);have m1:(t.put (pr t.mask (knd.hash k) N).j).1.mask=t.mask:=rfl;have m2:(t.put (pr t.mask (knd.hash k) N).j).1.plain=t.plain:=rfl;have m3:(t.put (pr t.mask (knd.hash k) N).j).1.led=t.led:=rfl;rw[NL T hl hN hw (by lia)];dsimp only at T1⊢;generalize (t.put (pr t.mask (knd.hash k) N).j).1=t1 at *;generalize (t.put (pr t.mask (knd.hash k) N).j).2=p1 at *;have len1:es.size+1<=127:=by rw[sp.len];exact few
 refine V0 (V2 ?_);rw[if_pos (m2.trans pl)];refine V0 ?_;rw[hashByValue_scannable 8 hsc,hpl];refine V2 ?_;rw[if_pos rfl];refine V0 (Yk ha hd ?_ ?_)
 .have po:=putSet_of (insertAt es p1 (knd.hash k,x)) t1 hd;have g1:(s.heap.update a (Obj.putSet (insertAt es p1 (knd.hash k,x)) t1)).get? a=some { o with data:=.set (insertAt es p1 (knd.hash k,x)) (ep+1) t1 }:=by rw[Wa _ ha (by rw[po];rfl),po]
  have sb:=Wu s.heap a (Obj.putSet (insertAt es p1 (knd.hash k,x)) t1);generalize s.heap.update a (Obj.putSet (insertAt es p1 (knd.hash k,x)) t1)=h1 at *;split;{obtain⟨g2,g3,g4⟩:=Dh (n:=es.size+1) len1;obtain⟨g5,g6⟩:=yt (es.size+1) len1;rw[z1];obtain⟨es3,t3,e3,T3,p3,l3,pl3,m3'⟩:=Af (t:=t1) (es:=insertAt es p1 (knd.hash k,x)) (wanted:=grown (es.size+1)) g2 g3 (by rw[z1];exact g4);rw[e3];dsimp only;have l4:=p3.length_eq;rw[W0,W0,z1]at l4;refine V0 (V2 ?_);refine V0 (Yk (s:={ s with heap:=h1 }) g1 rfl ?_ (by rw[l4];exact VS len1 (by decide)));have po3:=putSet_of (o:={ o with data:=.set (insertAt es p1 (knd.hash k,x)) (ep+1) t1 }) es3 t3 rfl;refine V2 (V2 (q1 c _ _ ⟨?_,λy hy=>?_⟩ (Wa _ g1 (by rw[po3];rfl)) ?_));{exact(Wu h1 a (Obj.putSet es3 t3)).1.trans sb.1};{exact((Wu h1 a (Obj.putSet es3 t3)).2 y hy).trans (sb.2 y hy)};rw[po3];exact⟨ex,es3,_,t3,rfl,T3,by rw[l4,m3'];exact g5,by rw[m3'];lia,pl3.trans (m2.trans pl),l3.trans (m3.trans ld),S1.perm p3⟩}
  next nt=>
  refine V2 (V2 (q1 c _ _ sb g1 ⟨ex,_,_,t1,rfl,T1,?_,by lia,m2.trans pl,m3.trans ld,S1⟩));have e1:¬(t1.fill*5 >= t1.mask*3):=λq=>nt (by
   unfold tooFull;rw[Ve q];rfl)
  have e2:t1.fill=(insertAt es p1 (knd.hash k,x)).size:=by unfold fill;rw[T1.sz,T1.du];rfl
  rw[e2]at e1;lia
 rw[z1];exact VS len1 (by decide)
end
section
variable{prog:Program}{w:World}{K:Type} [DecidableEq K]{knd:KeyKind prog w K}{A:Around}
def fH(f:Nat->K):Nat->List K
 |0=>[]
 |i+1=>if f i∈fH f i then fH f i else fH f i++[f i]
theorem z0(f:Nat->K):∀i,(fH f i).length<=i
 |0=>V3 _
 |i+1=>by have ih:=z0 f i;unfold fH;split;{lia};rw[VD,Wc];lia
theorem zm(f:Nat->K)(k:K):∀i,k∈fH f i↔∃j,j<i/\f j=k
 |0=>⟨λh=>(nomatch h),λ⟨j,h,_⟩=>absurd h (WH _)⟩
 |i+1=>by
  have ih:=zm f k i;have up:(∃j,j<i+1/\f j=k)↔(∃j,j<i/\f j=k)\/f i=k:=by constructor;{rintro⟨j,h,e⟩;rcases Nat.lt_succ_iff_lt_or_eq.mp h with h|h;{exact .inl ⟨j,h,e⟩};subst h;exact .inr e};rintro (⟨j,h,e⟩|e);{exact⟨j,WM h,e⟩};exact⟨i,Wv i,e⟩
  rw[up,<-ih,show fH f (i+1)=if f i∈fH f i then fH f i else fH f i++[f i]from rfl];split
  .next c=>
   exact⟨.inl,λh=>h.elim id λe=>e▸c⟩
  rw[V8,VB];exact⟨λh=>h.elim .inl λe=>.inr e.symm,λh=>h.elim .inl λe=>.inr e.symm⟩
def HY:nL knd { cls:=.type "set",dict:=none,data:=.set #[] 0 (.fresh 0 0 (!(w.params.followText "set-order"))) } []:=by refine⟨⟨rfl,rfl,rfl⟩,#[],0,_,rfl,⟨rfl,?_,?_,rfl,AK,(by decide:7%2=1),VW _,?_⟩,(by decide:0*5<7*3),(by decide:7<=511),rfl,rfl,⟨?_,?_,rfl⟩⟩;{intro i k x y _ hx;cases hx};{intro i j h;cases h};{intro i j e h;cases h};{intro e he;cases he};intro k hk;cases hk
section
variable{R:Result->Shared->Prop}{I:Addr}{fp wr:Zz}{G:Array GenState->Array GenState->Prop}{n:Nat}{P:Nat->Value->Prop}{St:Nat->Shared->Prop}
def EW(W:PySem.WalksS prog w A.in1 I fp wr G n P St)(Z:Addr)(out:Z∉fp)(f:Nat->K)(is:∀i v,P i v->knd.is (f i) v=true/\v.scannable=true/\plainKind v=true)(few:n<=126):∀(d i:Nat)(s:Shared),n-i=d->i<=n->St i s->(∃o,s.heap.get? Z=some o/\nL knd o (fH f i))->(∀s',PySem.Moved (Z::wr) G s s'->(∃o,s'.heap.get? Z=some o/\nL knd o (fH f n))->R (.ok (.ret .none)) s')->codeAny (model prog w) A (.builtin "set.update.loop" ⟨[.ref Z,.ref I],[]⟩) R s:=by
 have zw:Z∉wr:=λh=>out (W.sub _ h);have more:∀b∈wr,b∈Z::wr:=λb hb=>V5 _ hb;intro d;induction d with
 |zero=>
  intro i s hd hi st so fin;have e:i=n:=by lia
  subst e;refine Ww Yl ?_;rw[Xv XA _];refine V0 (m:=pyNext (.ref I)) (W.done s _ _ st λs' mv=>?_);obtain⟨o,ho,so⟩:=so;exact V2 (fin s' (mv.mono more) ⟨o,mv.heap Z o zw ho,so⟩)
 |succ d ih=>
  intro i s hd hi st so fin;have lt:i<n:=by lia
  refine Ww Yl ?_;rw[Xv XA _];refine V0 (m:=pyNext (.ref I)) (W.item i s _ _ lt st λv s' hP st' mv=>?_);obtain⟨kb,ks,kp⟩:=is i v hP;obtain⟨o,ho,so⟩:=so;have ho':=mv.heap Z o zw ho;refine V0 (m:=holding [v] (setAdd Z v)) (Vo ?_);unfold setAdd;refine Vo (V0 (knd.pyHash kb ?_));have ml:=z0 f i;have up:∀(h':Heap)(o':Obj),Heap.SameBut Z s'.heap h'->h'.get? Z=some o'->nL knd o' (fH f (i+1))->∀{tk:Nat},s'.toks<=tk->codeAny (model prog w) A (.builtin "set.update.loop" ⟨[.ref Z,.ref I],[]⟩) R { s' with heap:=h',toks:=tk }:=λh' o' sb ho2 so2 {tk} tl=>by refine ih (i+1) _ (by lia) lt (W.frame _ s' _ _ st' tl λc hc oc ec=>?_) ⟨o',ho2,so2⟩ λs2 mv2 so3=>?_;{rw[sb.2 c (λq=>out (q▸hc))];exact ec};refine fin s2 (PySem.Moved.trans W.gtrans ((mv.mono more).then_heap tl λc oc hc ec=>?_) mv2) so3;rw[sb.2 c (λq=>hc (by rw[q];exact V1))];exact ec
  refine M6 (s:={ s' with toks:=s'.toks+1 }) (A:=A.in1) ho' so kb ks kp (by lia) (λhin=>?_) λhout h' o' sb ho2 so2=>?_;{refine V2 ⟨YC XA _,?_⟩;refine up s'.heap o ⟨rfl,λ_ _=>rfl⟩ ho' ?_ (YD _ _);rw[fH,if_pos hin];exact so};refine V2 ⟨YC XA _,?_⟩;refine up h' o' sb ho2 ?_ (YD _ _);rw[fH,if_neg hout];exact so2
end
end
section
variable{prog:Program}{w:World}{K:Type} [DecidableEq K]{knd:KeyKind prog w K}{A:Around}{E:Zk}{s:Shared}
abbrev iH(w:World):Obj:={ cls:=.type "set",dict:=none,data:=.set #[] 0 (.fresh 0 0 (!(w.params.followText "set-order"))) }
def JW(l:Value)(q:Q (.ref s.heap.objs.size) { s with heap:=s.heap.push (iH w) }) : codeAny (model prog w) A (.call (.builtin "set.__new__") ⟨[.type "set",l],[]⟩) (wants Q E) s:=by
 refine Ym (?_:_);show wpAny _ A.in1 (do
  checkBuiltinCall "set.__new__" ⟨[.type "set",l],[]⟩
  again (.builtin "set.__new__" ⟨[.type "set",l],[]⟩)) _ _ s
 refine V0 (YG (F.newCall_set_1 l) (V2 ⟨YC F.plain_set_new _,Ww F.entry_set_new (?_:_)⟩));rw[Xv F.plain_set_new (_:Args)];unfold Builtin.«set.__new__»;unfold Builtin.Frozenset.newClass;have sub0:=sub_set_self;obtain⟨hp,g,d,tk,os⟩:=s;dsimp only
 wp_walk
 refine Xy (V2 (?_:_));dsimp only;simp only[newObj];refine V0 (wpAny_alloc (V2 (?_:_)));exact V2 q
def AD{l:Addr}{f:Nat->K}(hh:A.handled=none)(hl:s.heap.IsList l its)(few:its.size<=126)(is:∀i v,its[i]?=some v->knd.is (f i) v=true/\v.scannable=true/\plainKind v=true)(q:∀(h':Heap) (tk:Nat)(o:Obj),(∀b o',s.heap.get? b=some o'->h'.get? b=some o')->h'.get? s.heap.objs.size=some o->nL knd o (fH f its.size)->Q (.ref s.heap.objs.size) { s with heap:=h',toks:=tk }) : wpAny (model prog w) A (call (.type "set") [.ref l]) Q E s:=by
 obtain⟨cc,tl,hmro⟩:=F.called_set.mro;have made':=F.called_set.made;have sub':=F.called_set.sub;refine Xl (Ym (?_:wpAny _ _ (callAny (.type "set") _) _ _ _));refine V2 ⟨ZJ _ (by decide+kernel),Ww F.entry_type_call (?_:_)⟩;rw[Around.under_plain (weight_type_call_type "set" [.ref l] []) rfl];have no':=F.called_set.notType;have can':=F.called_set.canCreate;have chk':=F.typeCall_set_1 (.ref l);repeat (any_goals (first|assumption|wp_step))
 refine Wm (JW (.ref l) (E:=E) (Q:=λob s1=>ob=.ref s.heap.objs.size/\s1={ s with heap:=s.heap.push (iH w) }) ⟨rfl,rfl⟩) λr s1 hr1=>?_;cases r with
 |error e=>exact hr1
 |ok fl=>
  cases fl with
  |ret ob=>
   obtain⟨rfl,rfl⟩:=hr1;have zs:(s.heap.push (iH w)).get? s.heap.objs.size=some (iH w):=Vj _ rfl;have ty:Shared.TypeIs { s with heap:=s.heap.push (iH w) } (.ref s.heap.objs.size) "set":=⟨_,zs,rfl⟩;have li':=F.called_set.init.lookup;have bi':=F.called_set.init.bind (.ref s.heap.objs.size);repeat (any_goals (first|assumption|wp_step))
   refine Wm (ZK (R:=wants (λr s2=>r=.none/\∃h' tk o,s2={ s with heap:=h',toks:=tk }/\(∀b o',s.heap.get? b=some o'->h'.get? b=some o')/\h'.get? s.heap.objs.size=some o/\nL knd o (fH f its.size)) E) F.called_set.init.plain F.entry_set_init (check_set_init_1 ty ?_)) λr2 s2 hr2=>?_
   .obtain⟨ol,hol,hcl,nl,hdl⟩:=hl;obtain⟨ocl,odi,oda,osl⟩:=ol;simp only at hcl hdl;subst hcl;subst hdl;have hol2:(s.heap.push (iH w)).get? l=some { cls:=.type "list",dict:=odi,data:=.seq its nl,slots:=osl }:=VM _ hol;have sl1:=F.sub_list_set;have sl2:=F.sub_list_frozenset;have nd':(Value.type "list" == Value.type "dict")=false:=by decide
    have hl1:(s.heap.push (iH w)).IsList l its:=⟨_,hol2,rfl,nl,rfl⟩;unfold Builtin.«set.__init__» noKeywords Builtin.Frozenset.updateFrom;generalize hPI:pyIter=PI
    wp_walk
    subst hPI;refine Xw hl1 (V0 (wpAny_runValue ?_));have lz:l<s.heap.objs.size:=VA hol;have h3:A.in1.in1.in1.handled=none:=by simp[hh]
    have nI:l≠(s.heap.push (iH w)).objs.size:=by rw[Wx];exact VC (WM lz)
    have out:s.heap.objs.size∉[(s.heap.push (iH w)).objs.size,l]:=by rw[Wx];simp only[V7,VE,WN,not_or];exact⟨VC (Wv _),X3 lz⟩
    refine EW (knd:=knd) (Walks.list h3 _ l nI its).toS s.heap.objs.size out f is few its.size 0 _ rfl (VW _) ⟨⟨_,Vj _ rfl,rfl,rfl⟩,hl1.push _⟩ ⟨iH w,VM _ zs,HY⟩ ?fin
    case fin=>
     intro s' mv so;obtain⟨h',g',d',tk',os'⟩:=s';obtain rfl:g'=s.gens:=mv.gens;obtain rfl:d'=s.drawn:=mv.drawn;obtain rfl:os'=s.os:=mv.os;obtain⟨o,ho,so⟩:=so;refine V2 (?_:wpAny _ _ _ _ _ _);refine id (?_:wpAny _ _ (ret Value.none) _ _ _);refine V2 ⟨rfl,h',tk',o,rfl,λb o' hb=>?_,ho,so⟩
     have bz:=VA hb;refine mv.heap b o' ?_ (VM _ (VM _ hb));rw[Wx];simp only[V7,VE,WN,not_or];exact⟨VC bz,VC (WM bz)⟩
   cases r2 with
   |error e=>exact hr2
   |ok fl2=>
    cases fl2 with
    |ret r=>
     obtain⟨rfl,h',tk,o,rfl,kp,ho,so⟩:=hr2;repeat (any_goals (first|assumption|wp_step))
     exact q h' tk o kp ho so
    |_=>exact hr2.elim
  |_=>exact hr1.elim
end
def Eu(hr:iX xs):below xs 0=0:=by
 obtain⟨h1,h2⟩:=jk hr 0;rcases Nat.eq_zero_or_pos (below xs 0)with z|z;{exact z};have hi:0<xs.size:=by lia
 have:=(h2 0 xs[0] (W6 hi)).mp z;lia
def EC(hr:iX xs){i j:Nat}(h:xs[i]?=some j):below xs (j+1)=i+1:=by
 obtain⟨h1,h2⟩:=jk hr (j+1);have a:=(h2 i j h).mpr (Wv j);rcases Vt (i+1) (below xs (j+1))with z|z
 .have hi:i+1<xs.size:=by lia
  have e:=W6 hi;have b:=(h2 (i+1) _ e).mp z;have c:=hr i (i+1) j _ (Wv i) h e;lia
 lia
theorem uE{α:Type}:∀(l:List α) (i:Nat)(h:i<l.length),(l[i]::l.eraseIdx i).Perm l
 |x::l,0,_=>List.Perm.refl _
 |x::l,i+1,h=>by
  have hi:i<l.length:=by simpa using h
  have ih:=uE l i hi;refine List.Perm.trans (List.Perm.swap x l[i] (l.eraseIdx i)) (List.Perm.cons x ih)
theorem CL{α:Type}(next:Nat->Nat):∀(fuel k:Nat)(left:List α)(out:Array α),left.length=fuel->(pickOrder.go next fuel k left out).toList.Perm (out.toList++left)
 |0,k,left,out,h=>by have:left=[]:=YH.mp h;subst this;unfold pickOrder.go;simp
 |fuel+1,k,left,out,h=>by
  unfold pickOrder.go;have lt:next k%left.length<left.length:=XS _ (by lia)
  rw[VX lt];dsimp only;refine(CL next fuel (k+1) _ _ (by rw[List.length_eraseIdx_of_lt lt];lia)).trans ?_;rw[Array.toList_push,W5];refine ZM _ ?_;exact uE _ _ lt
def IJ{α:Type}(next:Nat->Nat)(xs:Array α):(pickOrder next xs).toList.Perm xs.toList:=by
 have:=CL next xs.size 0 xs.toList #[] (by simp)
 simpa[pickOrder]using this
def dY(w:World)(a:Addr) (ep:Nat)(es:Array Ent):Array Ent:=if w.params.followText "set-order"=true then pickOrder (w.params.setOrder a ep) es else es
def Bh(w:World)(a:Addr) (ep:Nat)(es:Array Ent):(dY w a ep es).toList.Perm es.toList:=by unfold dY;split;{exact IJ _ _};exact List.Perm.refl _
def ua(w:World)(a:Addr) (ep:Nat)(es:Array Ent):(dY w a ep es).size=es.size:=by have:=(Bh w a ep es).length_eq;simpa using this
def jE:Slot "set_iterator" "__next__" "set_iterator.__next__" :=
 .of (owner:="set_iterator") (n:="__next__") (by
   rw[typeLookup_type,builtinLookup_eq_fast]
   kernel_rfl) (by decide+kernel) (by decide+kernel) (by decide+kernel)
  (by
   first
   |exact .inl (by decide+kernel)
   |exact .inr (by decide+kernel)) (by
   rw[isSubtype_type]
   kernel_rfl)
def Ah:Slot "set_iterator" "__iter__" "set_iterator.__iter__" :=
 .of (owner:="set_iterator") (n:="__iter__") (by
   rw[typeLookup_type,builtinLookup_eq_fast]
   kernel_rfl) (by decide+kernel) (by decide+kernel) (by decide+kernel)
  (by
   first
   |exact .inl (by decide+kernel)
   |exact .inr (by decide+kernel)) (by
   rw[isSubtype_type]
   kernel_rfl)
def Ct:entryFor table "set_iterator.__next__"=some Builtin.«set_iterator.__next__»:=entryFor_of_tree (by kernel_rfl)
def Ai(a:Value):argsOk "set_iterator.__next__" ⟨[a],[]⟩:=by
 unfold argsOk
 kernel_rfl
def JC(a:Value):argsOk "set_iterator.__iter__" ⟨[a],[]⟩:=by
 unfold argsOk
 kernel_rfl
def MQ:entryFor table "set.__iter__"=some Builtin.«frozenset.__iter__» :=
 entryFor_alias (id':="frozenset.__iter__") (by kernel_rfl) rfl (by decide+kernel) (by kernel_rfl)
def Mr:entryFor table "set_iterator.__iter__"=some Builtin.«dict_keyiterator.__iter__» :=
 entryFor_alias (id':="dict_keyiterator.__iter__") (by kernel_rfl) rfl (by decide+kernel) (by kernel_rfl)
def pN(h:Heap)(it a:Addr) (slot i n ep:Nat):Prop:=∃o,h.get? it=some o/\o.cls=.type "set_iterator"/\o.data=.fields #[.int slot 0,.int i 0,.ref a,.int n 0,.int ep 0]
def g8(w:World)(h:Heap)(a:Addr)(es:Array Ent) (ep:Nat):Prop:=∃o t,h.get? a=some o/\o.ExactSet/\o.data=.set es ep t/\t.fits es.size=true/\iX t.place/\t.place.size=es.size/\t.plain=true/\t.led=(!(w.params.followText "set-order"))
def pN.ty{s:Shared}{it a:Addr}{slot i n ep:Nat}(x:pN s.heap it a slot i n ep):s.TypeIs (.ref it) "set_iterator":=by obtain⟨o,h1,h2,_⟩:=x;exact⟨o,h1,h2⟩
section
variable{prog:Program}{w:World}{A:Around}{E:Zk}{s:Shared}{es:Array Ent}{ep:Nat}{a it:Addr}
def Jt(S:g8 w s.heap a es ep)(q:Q (.ref s.heap.objs.size) { s with heap:=s.heap.push { cls:=.type "set_iterator",data:=.fields #[.int 0 0,.int 0 0,.ref a,.int es.size 0,.int ep 0] } }) : wpAny (model prog w) A (pyIter (.ref a)) Q E s:=by
 obtain⟨o,t,ho,ex,hd,fit,ri,sz,pl,ld⟩:=S;have ty:s.TypeIs (.ref a) "set":=⟨o,ho,ex.1⟩;refine wpAny_pyIter_slot ty F.slot_set_iter (X5 F.slot_set_iter ty MQ ?_ (F.args_set_iter_1 _));unfold Builtin.«frozenset.__iter__»;refine V0 (m:=Builtin.Frozenset.slot0 "__iter__" _) (V2 (?_:_));unfold Builtin.Frozenset.sizeOf;refine V0 (V0 (wpAny_setEntries_of ho hd fit (V2 (?_:_))));unfold setDrawn;refine V0 ?_;refine V0 (Wt ho hd fit ?_);dsimp only;unfold setsByText;refine V0 (V0 (Xy (V2 (?_:_))));refine V2 ?_;have nd:¬((!(w.params.followText "set-order")&&(!t.plain&&decide (es.size>1)))=true):=by rw[pl];simp
 refine Yn (λz=>absurd z nd) λ_=>?_;refine V0 (V2 (?_:_));refine V0 (wpAny_setEpoch_of ho hd fit ?_);unfold newFields;refine V0 (Wo (V2 ⟨_,rfl,"set_iterator",_,⟨_,Vj _ rfl,rfl⟩,jE.lookup,?_⟩));simpa[rawInt]using q
def MB{slot i n:Nat}{Q:Zk}(hit:pN s.heap it a slot i n ep)(q:Q (.ref it) s):wpAny (model prog w) A (pyIter (.ref it)) Q E s:=by refine wpAny_pyIter_slot hit.ty Ah (X5 Ah hit.ty Mr ?_ (JC _));show wpAny _ _ (ret (.ref it)) _ _ s;exact V2 ⟨_,rfl,"set_iterator",_,hit.ty,jE.lookup,q⟩
def AJ{slot i:Nat}(S:g8 w s.heap a es ep)(hs:w.params.followText "set-order"=false->∀o es' ep' t,s.heap.get? a=some o->o.data=.set es' ep' t->below t.place slot=i)(q0:(dY w a ep es)[i]?=none->Q none s)(q1:∀e slot',(dY w a ep es)[i]?=some e->(w.params.followText "set-order"=false->∀o es' ep' t,s.heap.get? a=some o->o.data=.set es' ep' t->below t.place slot'=i+1)->Q (some (e.2,slot')) s) : wpAny (model prog w) A (setNext a slot i ep) Q E s:=by
 obtain⟨o,t,ho,ex,hd,fit,ri,sz,pl,ld⟩:=S;unfold setNext;refine V0 (Wt ho hd fit ?_);dsimp only;unfold setsByText;refine V0 (V0 (Xy (V2 (?_:_))));show wpAny _ _ (if w.params.followText "set-order"=true then _ else _) _ _ _;cases c:w.params.followText "set-order" with
 |true=>
  rw[if_pos rfl];rw[if_neg (by simp)];refine V0 ?_;unfold setWalk;refine V0 (Wt ho hd fit ?_);dsimp only;unfold setsByText;refine V0 (V0 (Xy (V2 (?_:_))));show wpAny _ _ (if w.params.followText "set-order"=true then _ else _) _ _ _;rw[if_pos c];refine V0 (Xy (V2 (?_:_)));refine V2 ?_;have eo:dY w a ep es=pickOrder (w.params.setOrder a ep) es:=by unfold dY;rw[if_pos c]
  rw[eo]at q0 q1;show Q (((pickOrder (w.params.setOrder a ep) es)[i]?).map λe=>(e.2,slot)) s;cases z:(pickOrder (w.params.setOrder a ep) es)[i]? with
  |none=>exact q0 z
  |some e=>exact q1 e slot z (λh=>by rw[c]at h;cases h)
 |false=>
  rw[if_neg VY];have nd:¬((!t.plain&&decide (es.size>1))=true):=by rw[pl];simp
  refine Yn (λz=>absurd z nd) λ_=>?_;have nl:¬((!t.led&&!es.isEmpty)=true):=by rw[ld,c];simp
  refine V0 (?_:wpAny _ _ (if(!t.led&&!es.isEmpty)=true then(unsupported "set:maker-not-led":Sem Unit)else pure ()) _ _ _);rw[if_neg nl];refine V2 (V2 (?_:_));have eo:dY w a ep es=es:=by unfold dY;rw[if_neg (by rw[c];exact VY)]
  rw[eo]at q0 q1;rw[hs c o es ep t ho hd];cases z:es[i]? with
  |none=>exact q0 z
  |some e=>
   have hi:i<t.place.size:=by rw[sz];exact oS z
   have zp:=W6 hi;rw[zp];obtain⟨eh,ev⟩:=e;refine q1 (eh,ev) _ z λ_ o' es' ep' t' h1 h2=>?_;rw[ho]at h1;cases h1;rw[hd]at h2;cases h2;exact EC ri zp
end
section
variable{prog:Program}{w:World}{A:Around}{E:Zk}{s:Shared}{es:Array Ent}{ep:Nat}{a it:Addr}
def LD(w:World)(h:Heap)(a:Addr) (slot i:Nat):Prop:=w.params.followText "set-order"=false->∀o es' ep' t,h.get? a=some o->o.data=.set es' ep' t->below t.place slot=i
theorem g8.sz(S:g8 w s.heap a es ep)(h:P es s):wpAny (model prog w) A (setEntries a) P E s:=by obtain⟨o,t,ho,ex,hd,fit,ri,sz,pl,ld⟩:=S;exact wpAny_setEntries_of ho hd fit h
def next_item{slot i:Nat}(ne:a≠it)(hit:pN s.heap it a slot i es.size ep)(S:g8 w s.heap a es ep)(F:LD w s.heap a slot i)(he:(dY w a ep es)[i]?=some e)(q:∀h' slot',pN h' it a slot' (i+1) es.size ep->LD w h' a slot' (i+1)->Heap.SameBut it s.heap h'->Q (some e.2) { s with heap:=h' }):wpAny (model prog w) A (pyNext (.ref it)) Q E s:=by
 obtain⟨o,ho,hc,hd⟩:=id hit;unfold pyNext;refine V0 (YE (YX (name:=Str.ofString "__next__") hit.ty jE
  (X5 jE hit.ty Ct ?_ (Ai _))))
 unfold Builtin.«set_iterator.__next__»;refine V0 (m:=slotArgs "__next__" 0 _) (V2 (?_:_));refine V0 (wpAny_fieldsOf ho hd ?_);dsimp only;refine V0 (S.sz ?_);rw[if_neg (by simp)];simp only[YW];refine V0 (AJ S F (λz=>by rw[he]at z;cases z) λe' slot' z hF=>?_);rw[he]at z;cases z;dsimp only;refine V0 (XY ho hd (by simp) ?_);have g1:=Wa (Obj.mapFields (·.setIfInBounds 0 (rawInt (slot':Int)))) ho (YF (XZ hd _));have d1:=XZ hd (·.setIfInBounds 0 (rawInt (slot':Int)));have sb1:=Wu s.heap it (Obj.mapFields (·.setIfInBounds 0 (rawInt (slot':Int))));generalize s.heap.update it (Obj.mapFields (·.setIfInBounds 0 (rawInt (slot':Int))))=h1 at *;refine V0 (XY (s:={ s with heap:=h1 }) g1 d1 (by simp) ?_);have g2:=Wa (Obj.mapFields (·.setIfInBounds 1 (rawInt ((i:Int)+1)))) g1 (YF (XZ d1 _));have d2:=XZ d1 (·.setIfInBounds 1 (rawInt ((i:Int)+1)));have sb2:=Wu h1 it (Obj.mapFields (·.setIfInBounds 1 (rawInt ((i:Int)+1))));generalize h1.update it (Obj.mapFields (·.setIfInBounds 1 (rawInt ((i:Int)+1))))=h2 at *;have sb:Heap.SameBut it s.heap h2:=sb1.trans sb2;refine V2 ⟨_,rfl,V2 (q h2 slot' ⟨_,g2,?_,?_⟩ (λc o' es' ep' t h1 h2'=>?_) sb)⟩;{rw[Obj.cls_mapFields,Obj.cls_mapFields];exact hc};{rw[d2];simp[rawInt]};rw[sb.2 a ne]at h1;exact hF c o' es' ep' t h1 h2'
def next_end{slot i:Nat}(hh:A.handled=none)(hit:pN s.heap it a slot i es.size ep)(S:g8 w s.heap a es ep)(F:LD w s.heap a slot i)(he:(dY w a ep es)[i]?=none)(q:∀h',Heap.ExtBut it s.heap h'->Q none { s with heap:=h' }):wpAny (model prog w) A (pyNext (.ref it)) Q E s:=by
 obtain⟨o,ho,hc,hd⟩:=id hit;unfold pyNext;refine V0 (YE (YX (name:=Str.ofString "__next__") hit.ty jE
  (X5 jE hit.ty Ct ?_ (Ai _))))
 unfold Builtin.«set_iterator.__next__»;refine V0 (m:=slotArgs "__next__" 0 _) (V2 (?_:_));refine V0 (wpAny_fieldsOf ho hd ?_);dsimp only;refine V0 (S.sz ?_);rw[if_neg (by simp)];simp only[YW];refine V0 (AJ S F (λz=>?_) λe' slot' z hF=>by rw[he]at z;cases z);dsimp only;refine V0 (XY ho hd (by simp) ?_);refine V0 (m:=newExc (.type "StopIteration") []) ?_;simp only[newExc,newTuple];refine V0 (Wo ?_ (by size_fits));refine V0 (m:=firstArgMember _ _) (YG (a:=Value.none) (by
  first
  |rfl
  | (simp only[firstArgMember];rfl)) ?_)
 refine Wo (?_:_) (by size_fits);simp only[raiseNew];refine V0 (wpAny_handled (?_:_));rw[show A.in1.handled=none from hh];refine V0 (V2 (wpAny_throw (?_:_)));refine V0 (wpAny_isInstance (T:="StopIteration") (b:=true) ⟨_,Vj _ rfl,rfl⟩ isSubtype_stop (?_:_));exact V2 (q _ (((Wu ..).extBut.push _).push _))
def g8.at(S:g8 w h a es ep)(k:∀o,h.get? a=some o->h'.get? a=some o):g8 w h' a es ep:=by obtain⟨o,t,ho,r⟩:=S;exact⟨o,t,k o ho,r⟩
def IU(hh:A.handled=none)(I a:Addr)(ne:a≠I)(es:Array Ent) (ep:Nat) : Walks prog w A I [I,a] [I] es.size (λi v=>∃e,(dY w a ep es)[i]?=some e/\v=e.2) (λi h=>(∃slot,pN h I a slot i es.size ep/\LD w h a slot i)/\g8 w h a es ep) where
 sub:=λb hb=>by
  simp at hb;simp[hb]
 frame:=λi h h' st hk=>by
  obtain⟨⟨slot,⟨o,ho,r⟩,F⟩,S⟩:=st;refine⟨⟨slot,⟨o,hk I (by simp) o ho,r⟩,λc o' es' ep' t h1 h2=>?_⟩,S.at λo e=>hk a (by simp) o e⟩
  obtain⟨ob,tb,hob,r2⟩:=S;have:=hk a (by simp) ob hob
  rw[this]at h1;cases h1;exact F c _ es' ep' t hob h2
 item:=λi s Q E hi st hQ=>by
  obtain⟨⟨slot,hit,F⟩,S⟩:=st;have hi':i<(dY w a ep es).size:=by
   rw[ua];exact hi
  have he:=W6 hi';refine next_item ne hit S F he λh' slot' hit' F' sb=>?_
  exact hQ _ h' s.toks ⟨_,he,rfl⟩ ⟨⟨slot',hit',F'⟩,S.at λo e=>by rw[sb.2 a ne];exact e⟩ λb o hb e=>by rw[sb.2 b (λz=>hb (by simp[z]))];exact e
 done:=λs Q E st hQ=>by
  obtain⟨⟨slot,hit,F⟩,S⟩:=st;refine next_end hh hit S F (Yh (by rw[ua];exact V3 _)) λh' eb=>hQ h' s.toks λb o hb e=>eb b o (λz=>hb (by simp[z])) e
 self:=λi s Q E st hQ=>by
  obtain⟨⟨slot,hit,F⟩,S⟩:=st;exact MB hit hQ
end
end SM
namespace L2
open PySem PySem.Spec PyProof.Rows
theorem jb:∀{us:Zy}{ns:A04},IntsAre us ns->Vals (ns.map V.int) us
 |_,_,.nil=>.nil
 |_,_,.cons k t r=>.cons ⟨t,rfl⟩ (jb r)
section
variable{X:Cx}
def z7:cu X (.builtin "sorted") (λxs H Q=>∃(a:Addr)(ns:A04),xs=[.ref a]/\cz X.K H a (ns.map V.int)/\ns.length<64/\∀(ms:A04)(p:Addr),ms.Perm ns->ms.Pairwise (·<=·)->H p=none->Q (.ref p) (upd H p (.lst (ms.map V.int)))):=by
 intro pins s U H xs us Q I r h;obtain⟨a,ns,rfl,hq,hl,q⟩:=h;obtain⟨u,rfl,ru⟩:=r.one;cases ru;obtain⟨its,rv,p,_⟩:=I.list hq;have hlen:its.length=ns.length:=by rw[<-rv.length,V4]
 refine sorted_ints p.isList (intsAre_of rv) (by lia) λout ms h1 h2 h3=>?_;obtain⟨e,he⟩:=sortedAll_at s.heap its out;have new:s.heap.get? (s.heap.objs.size+1)=none:=Y4 (Y9 _);have rm:=jb h1;have ml:ms.length=ns.length:=h2.length_eq;have I2:=I.y9 (a:=s.heap.objs.size+1) (o:=.lst (ms.map V.int)) (t':=s.toks) (h':=sortedAll s.heap its out) (λb o hb=>sortedAll_old hb) new
  ⟨by rw[V4,ml];exact WX (Vg hl (by decide)),out.toList,e,rm,by simpa using he⟩
 exact⟨.ref (s.heap.objs.size+1),_,I2,rfl,q ms _ h2 h3 (I.iZ new)⟩
end
end L2
namespace SM
open PySem PySem.SetTable PySem.W PyProof.Rows
section
variable{prog:Program}{w:World}{A:Around}{E:Zk}{s:Shared}{es:Array Ent}{ep:Nat}{a it:Addr}
def Kr(ty:s.TypeIs (.ref a) "set")(q:Q false s):wpAny (model prog w) A (Builtin.List.listLengthHint (.ref a)) Q E s:=by
 unfold Builtin.List.listLengthHint;refine V0 (wpAny_specialOf ty F.slot_set_len.lookup (?_:_));generalize hid:("set.__len__":String)=idl
 wp_delta
 rw[show splitId idl=some ("set","__len__")from by
  subst hid;decide+kernel]
 subst hid;refine V0 (wpAny_isInstance (T:="set") (b:=true) ty (by
  rw[isSubtype_type]
  kernel_rfl) (?_:_))
 refine Yn (λz=>absurd z (by decide)) (λ_=>(?_:_));refine Yn (λ_=>(?_:_)) (λz=>absurd (by decide+kernel) z);refine V0 (XO ty (?_:_));exact V2 q
def Mq(a:Addr)(es:Array Ent) (ep:Nat):KdlSrc prog w "set" a a es.size (λi v=>∃e,(dY w a ep es)[i]?=some e/\v=e.2) (λh=>g8 w h a es ep) where
 type:=λs S=>by
  obtain⟨o,t,ho,ex,_⟩:=S;exact⟨o,ho,ex.1⟩
 there:=λh S=>by
  obtain⟨o,t,ho,_⟩:=S;exact⟨VA ho,VA ho⟩
 keep:=λh h' S hk=>S.at λo e=>hk a (.inl rfl) o e
 notList:=by decide
 notTuple:=by decide
 hint:=λA E s Q S q=>by
  obtain⟨o,t,ho,ex,_⟩:=S;exact Kr ⟨o,ho,ex.1⟩ q
 iter:=λA s hh S=>by
  refine⟨_,_,λE Q q=>Jt S q,IU hh _ a ?_ es ep,⟨⟨0,⟨_,Vj _ rfl,rfl,rfl⟩,λc o' es' ep' t h1 h2=>?_⟩,S.at λo e=>VM _ e⟩⟩
  .obtain⟨o,t,ho,_⟩:=S;exact VC (VA ho)
  .obtain⟨o,t,ho,ex,hd,fit,ri,r⟩:=S;rw[VM _ ho]at h1;cases h1;rw[hd]at h2;cases h2;exact Eu ri
def BW(hh:A.handled=none)(S:g8 w s.heap a es ep)(few:es.size<=126)(q:∀h' tk,(∀b o,s.heap.get? b=some o->h'.get? b=some o)->s.heap.objs.size<h'.objs.size->Q ((dY w a ep es).toList.map (·.2)) { s with heap:=h',toks:=tk }):wpAny (model prog w) A (collect (.ref a)) Q E s:=by
 unfold collect;refine V0 (wpAny_runValue (Ww entry_proto_collect' (?_:_)));show wpAny _ _ (do
  again (.builtin "list.__iadd__" ⟨[<-newList [],.ref a],[]⟩)) _ _ s
 refine V0 (Yo (V2 ⟨ZJ _ (by decide+kernel),Ww entry_list_iadd' (?_:_)⟩));rw[Xv (by decide+kernel) _];refine id (?_:wpAny _ _ (Builtin.List.listExtendWith (.ref s.heap.objs.size) (.ref a) (.ref s.heap.objs.size)) _ _ _);have az:a<s.heap.objs.size:=by obtain⟨o,t,ho,_⟩:=S;exact VA ho
 have ne:=X3 az;refine kdl_extend (prog:=prog) (R:=λr s'=>match r with
  |.ok (.ret v)=>wpAny (model prog w) A (match v with
   |.ref a=>do
    let o <-load a
    match o.data with
    |.seq xs _=>pure xs.toList
    |_=>unsupported "internal:collect"
   |_=>unsupported "internal:collect") Q E s'
  |.ok _=>False
  |.error e=>E e s') (s:={ s with heap:=s.heap.push (seqObj "list" #[] 0) }) (A:=A) (Mq a es ep) ?_ (S.at λo e=>VM _ e) s.heap.objs.size ne ne (.ref s.heap.objs.size) 0 (Vj _ rfl) (λh' tk acc c kp hS its=>?_) (VS few (by decide))
 .exact hh
 have e:acc.toList=(dY w a ep es).toList.map (·.2):=by
  refine Wl λj=>?_;obtain⟨z1,z2⟩:=its;rw[VQ,Vp,Vp];cases z:acc[j]? with
  |none=>have:=Array.getElem?_eq_none_iff.mp z;rw[Yh (by rw[ua];lia)];rfl
  |some v=>obtain⟨e,h1,h2⟩:=z2 j v z;rw[h1,h2];rfl
 refine id (?_:wpAny _ _ (do
  let o <-load s.heap.objs.size
  match o.data with
  |.seq xs _=>pure xs.toList
  |_=>unsupported "internal:collect") _ _ _)
 refine V0 (wpAny_load hS (?_:_));refine V2 ?_;rw[e];exact q h' tk (λb o hb=>kp b o (VC (VA hb)) (VM _ hb)) (VA hS)
end
end SM
namespace L2
open PySem PySem.Spec PyProof.Rows
def xD(P:Program)(w:World)(a:Addr)(ks:A04):HO:=.ext λh=>∃o,h.get? a=some o/\SM.nL (intKind P w) o ks
end L2
namespace SM
theorem CB{K:Type} [DecidableEq K](f:Nat->K):∀i,(fH f i).Nodup
 |0=>W8
 |i+1=>by
  have ih:=CB f i;unfold fH;split;{exact ih}
  next c=>
  refine Vv.mpr ⟨ih,Vi.mpr ⟨VE,W8⟩,λx hx y hy e=>?_⟩;cases VB.mp hy;exact c (e▸hx)
end SM
namespace L2
open PySem PySem.Spec PyProof.Rows
section
variable{X:Cx}
def GN(hc:X.calm=true):cu X (.type "set") (λxs H Q=>∃(a:Addr)(ns:A04),xs=[.ref a]/\cz X.K H a (ns.map V.int)/\ns.length<=126/\∀(p:Addr)(ks:A04),H p=none->(∀x,x∈ks↔x∈ns)->ks.Nodup->Q (.ref p) (upd H p (xD X.prog X.w p ks))):=by
 intro pins s U H xs us Q I r h;obtain⟨a,ns,rfl,hq,few,q⟩:=h;obtain⟨u,rfl,ru⟩:=vals1 r;cases ru;obtain⟨its,rv,p,_⟩:=I.list hq;have hlen:its.length=ns.length:=by rw[<-rv.length,V4]
 refine SM.AD (knd:=intKind X.prog X.w) (f:=λi=>ns.getD i 0) (I.ok.hd hc) p.isList (by simp[hlen];lia) (λi v hv=>?_) λh' tk o kp ho st=>?_
 .have hv':its[i]?=some v:=by simpa using hv
  obtain⟨x,hx,rx⟩:=lI rv i v hv';rw[VQ]at hx;cases z:ns[i]? with
  |none=>rw[z]at hx;cases hx
  |some n=>rw[z]at hx;cases hx;obtain⟨t,rfl⟩:=rx;rw[Vk,z];exact⟨intKind_is _ _ n t,rfl,rfl⟩
 rw[VO,hlen]at st;refine⟨.ref s.heap.objs.size,_,I.laid (t':=tk) kp (V3 _) (o:=xD X.prog X.w s.heap.objs.size (SM.fH (λi=>ns.getD i 0) ns.length)) ?_,rfl,q _ _ (I.hok.fresh (V3 _)) (λx=>?_) (SM.CB _ _)⟩;{refine⟨⟨o,ho,st⟩,⟨o,ho⟩,λh1 h2 z k=>?_⟩;obtain⟨o,z1,z2⟩:=z;exact⟨o,k o z1,z2⟩};rw[SM.zm];constructor;{rintro⟨j,h1,rfl⟩;rw[Vk,VX h1];exact Wj h1};intro h;obtain⟨j,h1,h2⟩:=ZN h;refine⟨j,h1,?_⟩;rw[Vk,VX h1];exact h2
end
end L2
namespace TS
open PySem PyProof.Rows
section
variable{prog:Program}{w:World}{A:Around}{E:Zk}{s:Shared}
def wI(prog:Program)(w:World)(A:Around)(s:Shared)(kd:SortKind)(P:Value->Prop):Prop:=∀(E:Zk) x y,P x->P y->∀Q:Bool->Shared->Prop,(∀b,Q b s)->wpAny (model prog w) A (keyLt' kd x y) Q E s
def Good(P:Value->Prop)(xs:Array Keyed):Prop:=∀(i:Nat)(p:Keyed),xs[i]?=some p->P p.1
variable{kd:SortKind}{P:Value->Prop}
def ask{st:SortSt}(L:wI prog w A s kd P)(hk:kindOf st=kd)(hx:P x.1)(hy:P y.1)(h:∀b,Q (some b) st):wpS (model prog w) A E s (lt' x y) Q st:=by rw[lt'_eq];refine VG (wpS_get ?_);rw[hk];refine VG (wpS_lift (YE (L _ _ _ hx hy _ λb=>⟨rfl,?_⟩)));exact VU (h b)
def Dg{st:SortSt}{i:Nat}(hi:i<xs.size)(h:∀p,xs[i]?=some p->Q p st):wpS (model prog w) A E s (elem' xs i) Q st:=by rw[elem'_eq,W6 hi];exact VU (h _ (W6 hi))
end
section
variable{prog:Program}{w:World}{A:Around}{E:Zk}{s:Shared}{kd:SortKind}{P:Value->Prop}
def T7{M:Model}{U α:Type}{a b:Nat}{m1 m2:StateT U Sem α}{Q:α->U->Prop}{st:U}(h1:a=b->wpS M A E s m1 Q st)(h2:a≠b->wpS M A E s m2 Q st):wpS M A E s (if(a==b)=true then m1 else m2) Q st:=by by_cases e:a=b;{rw[if_pos (beq_iff_eq.mpr e)];exact h1 e};rw[if_neg (λz=>e (beq_iff_eq.mp z))];exact h2 e
def ki{M:Model}{U α:Type}{c:Prop} [Decidable c]{m1 m2:StateT U Sem α}{Q:α->U->Prop}{st:U}(h1:c->wpS M A E s m1 Q st)(h2:¬c->wpS M A E s m2 Q st):wpS M A E s (if c then m1 else m2) Q st:=by by_cases e:c;{rw[if_pos e];exact h1 e};rw[if_neg e];exact h2 e
end
structure SB(kd:SortKind)(xs0:Array Keyed)(st:SortSt):Prop where
 perm:(arrOf st).Perm xs0
 kind:kindOf st=kd
 ok:failedOf st=none
theorem SB.size{kd:SortKind}{st:SortSt}(B:SB kd xs0 st):(arrOf st).size=xs0.size:=B.perm.size_eq
def Good.perm(G:Good P ys)(p:xs.Perm ys):Good P xs:=λi q h=>by have m:q∈xs.toList:=VZ (by rw[Vp];exact h);have m2:q∈ys.toList:=(Array.perm_iff_toList_perm.mp p).mem_iff.mp m;obtain⟨j,hj⟩:=We m2;rw[Vp]at hj;exact G j q hj
section
variable{prog:Program}{w:World}{A:Around}{E:Zk}{s:Shared}{kd:SortKind}{P:Value->Prop}{xs0:Array Keyed}
def gR{st:SortSt}{i j:Nat}(L:wI prog w A s kd P)(G:Good P xs0)(B:SB kd xs0 st)(hi:i<xs0.size)(hj:j<xs0.size)(h:∀b,Q (some b) st):wpS (model prog w) A E s (ltAt' i j) Q st:=by rw[ltAt'_eq];refine VG (wpS_get ?_);have G':=G.perm B.perm;refine VG (Dg (by rw[B.size];exact hi) λp hp=>?_);refine VG (Dg (by rw[B.size];exact hj) λq hq=>?_);exact ask L B.kind (G' _ _ hp) (G' _ _ hq) h
def jw{st:SortSt}{i j:Nat}(B:SB kd xs0 st)(h:∀st',SB kd xs0 st'->pendingOf st'=pendingOf st->Q () st'):wpS (model prog w) A E s (reverseSlice' i j) Q st:=by rw[reverseSlice'_eq];exact wpS_modify (h _ ⟨(mirror_perm _ _ _ _).trans B.perm,B.kind,B.ok⟩ rfl)
def Ju{st:SortSt}{lo nrem:Nat}(L:wI prog w A s kd P)(G:Good P xs0)(B:SB kd xs0 st)(h1:1<=nrem)(hn:lo+nrem<=xs0.size)(h:∀m st',SB kd xs0 st'->pendingOf st'=pendingOf st->1<=m->m<=nrem->Q (some m) st') : wpS (model prog w) A E s (countRun' lo nrem) Q st:=by
 unfold countRun';refine VG (Wf (Wg (I:=λx c st'=>st'=st/\c.1=none/\c.2=x) (Q:=λc st'=>st'=st/\c.1=none/\1<=c.2/\c.2<=nrem) ?step ?fin ⟨rfl,rfl,rfl⟩) ?post)
 case step=>
  rintro x⟨o,n⟩st' a b⟨rfl,rfl,rfl⟩;dsimp only;refine VG (gR L G B (by dsimp only at a b;lia) (by dsimp only at a b;lia) λc=>?_)
  dsimp only;refine ki (λ_=>VU ⟨rfl,rfl,by dsimp only at a b⊢;lia,by dsimp only at a b⊢;lia⟩) (λ_=>VU ⟨rfl,rfl,rfl⟩)
 case fin=>
  rintro⟨o,n⟩st'⟨rfl,rfl,e⟩;dsimp only at e;exact⟨rfl,rfl,by dsimp only;lia,by dsimp only;lia⟩
 case post=>
  rintro⟨o,n⟩st'⟨rfl,rfl,n1,n2⟩;dsimp only at n1 n2⊢;refine T7 (λe=>VU (h _ _ B rfl n1 n2)) (λe=>?_)
  refine ki (λn0=>?_) (λn0=>?_)
  .refine VG (gR L G B (by lia) (by lia) λc=>?_)
   dsimp only;refine ki (λ_=>VU (h _ _ B rfl n1 n2)) (λ_=>?_)
   refine VG (jw B λst6 B6 p6=>?_)
   refine VG (wpS_lift (Wy ⟨rfl,?_⟩));refine VG (Wf (Wg (I:=λx c st2=>SB kd xs0 st2/\pendingOf st2=pendingOf st'/\c.1=none/\c.2.1=x) (Q:=λc st2=>SB kd xs0 st2/\pendingOf st2=pendingOf st'/\c.1=none/\1<=c.2.1/\c.2.1<=nrem) ?step1 ?fin1 ⟨B6,p6,rfl,rfl⟩) ?post1)
   case step1=>
    rintro x⟨o,m,q⟩st2 a b⟨B2,p2,rfl,rfl⟩;dsimp only at a b⊢;refine VG (gR L G B2 (by lia) (by lia) λc=>?_)
    dsimp only;refine ki (λ_=>?_) (λ_=>?_)
    .refine ki (λ_=>?_) (λ_=>?_)
     .exact VG (jw B2 λst3 B3 p3=>VU ⟨B3,p3.trans p2,rfl,rfl⟩)
     .exact VU ⟨B2,p2,rfl,rfl⟩
    .refine VG (gR L G B2 (by lia) (by lia) λc2=>?_)
     dsimp only;refine ki (λ_=>?_) (λ_=>?_)
     .exact VU ⟨B2,p2,rfl,by dsimp only;lia,by dsimp only;lia⟩
     .exact VU ⟨B2,p2,rfl,rfl⟩
   case fin1=>
    rintro⟨o,m,q⟩st2⟨B2,p2,rfl,e2⟩;dsimp only at e2;exact⟨B2,p2,rfl,by dsimp only;lia,by dsimp only;lia⟩
   case post1=>
    rintro⟨o,m,q⟩st2⟨B2,p2,rfl,m1,m2⟩;dsimp only at m1 m2⊢;refine ki (λ_=>?_) (λ_=>?_)
    .refine VG (jw B2 λst3 B3 p3=>?_)
     refine VG (jw B3 λst4 B4 p4=>?_)
     refine VG (Wf (Wg (I:=λx c st5=>st5=st4/\c.1=none/\c.2=x) (Q:=λc st5=>st5=st4/\c.1=none/\1<=c.2/\c.2<=nrem) ?stepL2 ?finL2 ⟨rfl,rfl,rfl⟩) ?postL2)
     case stepL2=>
      rintro x⟨o,m⟩st5 a b⟨rfl,rfl,rfl⟩;dsimp only at a b⊢;refine VG (gR L G B4 (by lia) (by lia) λc=>?_)
      dsimp only;refine ki (λ_=>VU ⟨rfl,rfl,by dsimp only;lia,by dsimp only;lia⟩) (λ_=>VU ⟨rfl,rfl,rfl⟩)
     case finL2=>
      rintro⟨o,m⟩st5⟨rfl,rfl,e2⟩;dsimp only at e2;exact⟨rfl,rfl,by dsimp only;lia,by dsimp only;lia⟩
     case postL2=>
      rintro⟨o,m⟩st5⟨rfl,rfl,k1,k2⟩;dsimp only at k1 k2⊢;exact VU (h _ _ B4 (p4.trans (p3.trans p2)) k1 k2)
    .refine VG (jw B2 λst4 B4 p4=>?_)
     refine VG (Wf (Wg (I:=λx c st5=>st5=st4/\c.1=none/\c.2=x) (Q:=λc st5=>st5=st4/\c.1=none/\1<=c.2/\c.2<=nrem) ?stepL3 ?finL3 ⟨rfl,rfl,rfl⟩) ?postL3)
     case stepL3=>
      rintro x⟨o,m⟩st5 a b⟨rfl,rfl,rfl⟩;dsimp only at a b⊢;refine VG (gR L G B4 (by lia) (by lia) λc=>?_)
      dsimp only;refine ki (λ_=>VU ⟨rfl,rfl,by dsimp only;lia,by dsimp only;lia⟩) (λ_=>VU ⟨rfl,rfl,rfl⟩)
     case finL3=>
      rintro⟨o,m⟩st5⟨rfl,rfl,e2⟩;dsimp only at e2;exact⟨rfl,rfl,by dsimp only;lia,by dsimp only;lia⟩
     case postL3=>
      rintro⟨o,m⟩st5⟨rfl,rfl,k1,k2⟩;dsimp only at k1 k2⊢;exact VU (h _ _ B4 (p4.trans p2) k1 k2)
  .have p6:pendingOf st'=pendingOf st':=rfl;refine VG (wpS_lift (Wy ⟨rfl,?_⟩));refine VG (Wf (Wg (I:=λx c st2=>SB kd xs0 st2/\pendingOf st2=pendingOf st'/\c.1=none/\c.2.1=x) (Q:=λc st2=>SB kd xs0 st2/\pendingOf st2=pendingOf st'/\c.1=none/\1<=c.2.1/\c.2.1<=nrem) ?step4 ?fin4 ⟨B,p6,rfl,rfl⟩) ?post4)
   case step4=>
    rintro x⟨o,m,q⟩st2 a b⟨B2,p2,rfl,rfl⟩;dsimp only at a b⊢;refine VG (gR L G B2 (by lia) (by lia) λc=>?_)
    dsimp only;refine ki (λ_=>?_) (λ_=>?_)
    .refine ki (λ_=>?_) (λ_=>?_)
     .exact VG (jw B2 λst3 B3 p3=>VU ⟨B3,p3.trans p2,rfl,rfl⟩)
     .exact VU ⟨B2,p2,rfl,rfl⟩
    .refine VG (gR L G B2 (by lia) (by lia) λc2=>?_)
     dsimp only;refine ki (λ_=>?_) (λ_=>?_)
     .exact VU ⟨B2,p2,rfl,by dsimp only;lia,by dsimp only;lia⟩
     .exact VU ⟨B2,p2,rfl,rfl⟩
   case fin4=>
    rintro⟨o,m,q⟩st2⟨B2,p2,rfl,e2⟩;dsimp only at e2;exact⟨B2,p2,rfl,by dsimp only;lia,by dsimp only;lia⟩
   case post4=>
    rintro⟨o,m,q⟩st2⟨B2,p2,rfl,m1,m2⟩;dsimp only at m1 m2⊢;refine ki (λ_=>?_) (λ_=>?_)
    .refine VG (jw B2 λst3 B3 p3=>?_)
     refine VG (jw B3 λst4 B4 p4=>?_)
     refine VG (Wf (Wg (I:=λx c st5=>st5=st4/\c.1=none/\c.2=x) (Q:=λc st5=>st5=st4/\c.1=none/\1<=c.2/\c.2<=nrem) ?stepL5 ?finL5 ⟨rfl,rfl,rfl⟩) ?postL5)
     case stepL5=>
      rintro x⟨o,m⟩st5 a b⟨rfl,rfl,rfl⟩;dsimp only at a b⊢;refine VG (gR L G B4 (by lia) (by lia) λc=>?_)
      dsimp only;refine ki (λ_=>VU ⟨rfl,rfl,by dsimp only;lia,by dsimp only;lia⟩) (λ_=>VU ⟨rfl,rfl,rfl⟩)
     case finL5=>
      rintro⟨o,m⟩st5⟨rfl,rfl,e2⟩;dsimp only at e2;exact⟨rfl,rfl,by dsimp only;lia,by dsimp only;lia⟩
     case postL5=>
      rintro⟨o,m⟩st5⟨rfl,rfl,k1,k2⟩;dsimp only at k1 k2⊢;exact VU (h _ _ B4 (p4.trans (p3.trans p2)) k1 k2)
    .refine VG (jw B2 λst4 B4 p4=>?_)
     refine VG (Wf (Wg (I:=λx c st5=>st5=st4/\c.1=none/\c.2=x) (Q:=λc st5=>st5=st4/\c.1=none/\1<=c.2/\c.2<=nrem) ?stepL6 ?finL6 ⟨rfl,rfl,rfl⟩) ?postL6)
     case stepL6=>
      rintro x⟨o,m⟩st5 a b⟨rfl,rfl,rfl⟩;dsimp only at a b⊢;refine VG (gR L G B4 (by lia) (by lia) λc=>?_)
      dsimp only;refine ki (λ_=>VU ⟨rfl,rfl,by dsimp only;lia,by dsimp only;lia⟩) (λ_=>VU ⟨rfl,rfl,rfl⟩)
     case finL6=>
      rintro⟨o,m⟩st5⟨rfl,rfl,e2⟩;dsimp only at e2;exact⟨rfl,rfl,by dsimp only;lia,by dsimp only;lia⟩
     case postL6=>
      rintro⟨o,m⟩st5⟨rfl,rfl,k1,k2⟩;dsimp only at k1 k2⊢;exact VU (h _ _ B4 (p4.trans p2) k1 k2)
def QA{st:SortSt}{lo n k:Nat}(L:wI prog w A s kd P)(G:Good P xs0)(B:SB kd xs0 st)(hn:lo+n<=xs0.size)(h:∀st',SB kd xs0 st'->pendingOf st'=pendingOf st->Q true st') : wpS (model prog w) A E s (binarySort' lo n k) Q st:=by
 unfold binarySort';refine VG (Wf (Wg (I:=λx c st'=>SB kd xs0 st'/\pendingOf st'=pendingOf st/\c.1=none) (Q:=λc st'=>SB kd xs0 st'/\pendingOf st'=pendingOf st/\c.1=none) ?step (λ_ _ q=>q) ⟨B,rfl,rfl⟩) ?post)
 case post=>
  rintro⟨o,u⟩st'⟨B1,p1,rfl⟩;exact VU (h _ B1 p1)
 case step=>
  rintro x⟨o,u⟩st' a b⟨B1,p1,rfl⟩;dsimp only;refine VG (Wf (Wg (I:=λy c st2=>st2=st'/\c.1=none/\c.2.2<=x) (Q:=λc st2=>st2=st'/\c.1=none/\c.2.2<=x) ?step1 (λ_ _ q=>q) ⟨rfl,rfl,V3 _⟩) ?post1)
  case step1=>
   rintro y⟨o,l,r⟩st2 _ _⟨rfl,rfl,le⟩;dsimp only at le⊢;refine ki (λ_=>VU ⟨rfl,rfl,le⟩) (λlr=>?_)
   refine VG (gR L G B1 (by lia) (by lia) λc=>?_)
   dsimp only;refine ki (λ_=>VU ⟨rfl,rfl,by dsimp only;lia⟩) (λ_=>VU ⟨rfl,rfl,le⟩)
  case post1=>
   rintro⟨o,l,r⟩st2⟨rfl,rfl,le⟩;dsimp only;refine VG (wpS_modify ?_);exact VU ⟨⟨(bubble_perm _ _ _).trans B1.perm,B1.kind,B1.ok⟩,p1,rfl⟩
end
def IsPair(h:Heap)(v:Value):Prop:=∃(a:Addr)(o:Obj) (i j:Int)(t u:Tok) (n:Nat),v=.ref a/\h.get? a=some o/\o.cls=.type "tuple"/\o.data=.seq #[.int i t,.int j u] n
section
variable{prog:Program}{w:World}{A:Around}{E:Zk}{s:Shared}
def Qs(b:Bool){i j:Int}(h:∀c,Q c s):wpAny (model prog w) A (oneLt' b (.int i t) (.int j u)) Q E s:=by
 cases b with
 |true=>exact oneLt_int (h _)
 |false=>rw[oneLt'_eq];rw[if_neg VY];refine V0 (?_:wpAny _ _ (compareOp .Lt (.int i t) (.int j u)) _ _ _);exact lt_int (XM (h _))
def Fd:wI prog w A s (tuples' true) (IsPair s.heap):=by
 rintro E x y⟨a,o,i,j,t,u,n,rfl,ho,hc,hd⟩⟨a2,o2,i2,j2,t2,u2,n2,rfl,ho2,hc2,hd2⟩Q h;refine V0 (Yp ho hd ?_);refine V0 (Yp ho2 hd2 ?_);dsimp only;refine V0 ?_;refine Yj _ (λrest r s'=>s'=s/\r.1=none/\∀x∈rest,∃(i j:Int)(t u:Tok),x.1=(Value.int i t,Value.int j u)) _ ?_ ?_ _ _ ⟨rfl,rfl,λx hx=>?_⟩
 .rintro⟨⟨p,q⟩,k⟩rest⟨r,⟨⟩⟩s'⟨rfl,rfl,hall⟩;obtain⟨i3,j3,t3,u3,e⟩:=hall _ V1;dsimp only at e;cases e;dsimp only;refine V0 ((intKind prog w).eqBool (a:=i3) (b:=j3) (intKind_is _ _ i3 t3) (intKind_is _ _ j3 u3) ?_);cases decide (i3=j3)with
  |true=>exact V2 ⟨rfl,rfl,λx hx=>hall x (V5 _ hx)⟩
  |false=>exact V0 (Qs _ λc=>V2 (V2 (h c)))
 .rintro⟨r,⟨⟩⟩s'⟨rfl,rfl,_⟩;exact V2 (h _)
 have hx':x=((Value.int i t,Value.int i2 t2),0)\/x=((Value.int j u,Value.int j2 u2),1):=by simpa using hx
 rcases hx' with rfl|rfl;{exact⟨_,_,_,_,rfl⟩};exact⟨_,_,_,_,rfl⟩
def D6(hv:IsPair s.heap v)(h:∀i t,Q (some (.int i t)) s):wpAny (model prog w) A (firstOfTuple' v) Q E s:=by obtain⟨a,o,i,j,t,u,n,rfl,ho,hc,hd⟩:=hv;unfold firstOfTuple';refine V0 (XO (T:="tuple") ⟨o,ho,hc⟩ ?_);rw[if_neg (by decide)];refine V0 (Yp ho hd (V2 ?_));exact h i t
theorem firsts:∀{vs:Zy},(∀v∈vs,IsPair s.heap v)->(∀os:List (Zu),os.length=vs.length->(∀o∈os,∃i t,o=some (Value.int i t))->Q os s)->wpAny (model prog w) A (vs.mapM firstOfTuple') Q E s
 |[],_,h=>by rw[List.mapM_nil];exact V2 (h [] rfl λo ho=>(nomatch ho))
 |v::r,hv,h=>by rw[List.mapM_cons];refine V0 (D6 (hv v V1) λi t=>?_);refine V0 (firsts (λx hx=>hv x (V5 _ hx)) λos ol oh=>?_);refine V2 (h _ (by simp[ol]) λo ho=>?_);rcases V7.mp ho with rfl|ho;{exact⟨i,t,rfl⟩};exact oh o ho
def DZ{Q:SortKind->Shared->Prop}(h0:vs≠[])(hv:∀v∈vs,IsPair s.heap v)(h:Q (tuples' true) s):wpAny (model prog w) A (keyKind' vs.toArray) Q E s:=by
 rw[keyKind'_eq,List.mapM_toArray];rw[map_eq_pure_bind,bind_assoc];refine V0 (firsts hv λos ol oh=>?_);rw[pure_bind];have all:os.toArray.all (·.isSome)=true:=by rw[List.all_toArray,VN];intro o ho;obtain⟨i,t,rfl⟩:=oh o ho;rfl
 rw[if_pos all];refine V0 (Wy ?_);have inte:∃us:Zy,os.toArray.filterMap id=us.toArray/\us≠[]/\∃ns,IntsAre us ns:=by
  have go:∀os:List (Zu),(∀o∈os,∃i t,o=some (Value.int i t))->∃us ns,os.filterMap id=us/\us.length=os.length/\IntsAre us ns:=λos=>by
   induction os with
   |nil=>exact λ_=>⟨[],[],rfl,rfl,.nil⟩
   |cons o r ih=>intro hh;obtain⟨i,t,rfl⟩:=hh o V1;obtain⟨us,ns,e,l,I⟩:=ih λx hx=>hh x (V5 _ hx);exact⟨.int i t::us,i::ns,by simp[e],by simp[l],.cons i t I⟩
  obtain⟨us,ns,e,l,I⟩:=go os oh;refine⟨us,?_,λz=>h0 ?_,ns,I⟩;{rw[List.filterMap_toArray,e]};rw[z]at l;have:vs.length=0:=by rw[<-ol,<-l];rfl
  exact YH.mp this
 obtain⟨us,e,un,ns,I⟩:=inte;rw[e,oneTypeOnly'_eq,List.mapM_toArray,mapM_typeOf_ints I];simp only[map_pure,pure_bind];obtain⟨u0,ur,rfl⟩:=List.exists_cons_of_ne_nil un;have hall:((List.map (λ_=>Value.type "int") (u0::ur)).toArray.all λx=>x==Value.type "int")=true:=by simp only[List.all_toArray,XD,VN];intro _ _;rfl
 have h1:(List.map (λ_=>Value.type "int") (u0::ur)).toArray[0]?=some (Value.type "int"):=by simp
 rw[h1];simp only[hall,if_true,pure_bind];exact V2 h
end
def IsPair.keep{a:Addr}(p:IsPair h v)(ha:h.get? a=some c)(hc:c.cls=.type "list")(k:∀b o,b≠a->h.get? b=some o->h'.get? b=some o):IsPair h' v:=by obtain⟨b,o,i,j,t,u,n,rfl,ho,hco,hd⟩:=p;refine⟨b,o,i,j,t,u,n,rfl,k b o (λz=>?_) ho,hco,hd⟩;rw[z,ha]at ho;cases ho;rw[hc]at hco;injection hco with z;exact absurd z (by decide)
end TS
namespace L2
open PySem PySem.Spec PyProof.Rows
def GV(p:us.Perm its):∀{ys:List V},Vals ys its->∃zs,zs.Perm ys/\Vals zs us:=by
 induction p with
 |nil=>exact λ{ys} r=>⟨ys,List.Perm.refl _,r⟩
 |cons x _ ih=>
  intro ys r;cases r with
  |cons h r=>obtain⟨zs,p1,r1⟩:=ih r;exact⟨_::zs,p1.cons _,.cons h r1⟩
 |swap x y l=>
  intro ys r;cases r with
  |cons h r=>
   cases r with
   |cons h2 r=>exact⟨_::_::_,List.Perm.swap _ _ _,.cons h2 (.cons h r)⟩
 |trans _ _ ih1 ih2=>intro ys r;obtain⟨zs,p1,r1⟩:=ih2 r;obtain⟨ws,p2,r2⟩:=ih1 r1;exact⟨ws,p2.trans p1,r2⟩
def QN(K:Zt)(a:Addr):It:=
 ⟨λi H=>∃xs x,cz K H a xs/\xs[i]?=some x,λi H v H'=>∃T,H T=none/\v=.ref T/\∀xs,cz K H a xs->∃x,xs[i]?=some x/\H'=upd H T (.tup [.int i,x]),λi H=>∃xs,cz K H a xs/\xs.length<=i⟩
def Fv{P:Program}{w:World}{K:Zt}{elts:A01}{x1:Nat}{pos:Pos}(a e it:Addr)(hne:e≠it) : Turn P w K (.Tuple elts x1 pos) (QN K a) [e,it] e (λi h=>(∃old,IsEnum h e it i old)/\h.IsListIter it a i) where
 mem:=by simp
 obj:=λi h st b hb=>by
  obtain⟨⟨old,he⟩,o,e1,c,d⟩:=st;rcases V7.mp hb with z|z
  .subst z;exact⟨_,he,λv q=>by cases q⟩
  .have z:b=it:=by simpa using z
   subst z;exact⟨o,e1,λv q=>by rw[d]at q;cases q⟩
 keep:=λi h h' st k=>by
  obtain⟨⟨old,he⟩,li⟩:=st;exact⟨⟨old,k e (by simp) _ he⟩,li.at λo q=>k it (by simp) o q⟩
 item:=by
  intro X hP hw hK hc i pins s U H E I hf st hg;subst hP hw hK;obtain⟨xs,x,hq,hx⟩:=hg;obtain⟨its,rv,p,hz⟩:=I.list hq;obtain⟨u,hu,ru⟩:=rv.get hx;obtain⟨⟨old,he⟩,hit⟩:=st;have fe:=hf e (by simp)
  have fi:=hf it (by simp)
  refine wpAny_pyNext_enum_item he hit p.isList (x:=u) (by simpa using hu) hne λh1 heo hit1 ht1 hz1 hk1=>⟨_,rfl,?_⟩
  refine wpAny_letOwnedTupleGo_enum heo λh2 he2 hs2=>?_
  have elt:e<s.heap.objs.size:=VA he;have ht2:h2.get? s.heap.objs.size=some { cls:=.type "tuple",data:=.seq #[.int i s.toks,u] }:=(hs2.2 _ (X3 elt)).trans ht1;have hfr:H s.heap.objs.size=none:=I.hok.fresh (V3 _);have k2:∀b o,b≠e->b≠it->s.heap.get? b=some o->h2.get? b=some o:=λb o b1 b2 q=>hs2.extBut b o b1 (hk1 b o b1 b2 q)
  have neT:∀b o,H b=some o->b≠s.heap.objs.size:=λb o q z=>by rw[z,hfr]at q;cases q
  have neS:∀b o,s.heap.get? b=some o->b≠s.heap.objs.size:=λb o q=>VC (VA q)
  have nt:∀b o,H b=some o->b≠e/\b≠it:=λb o q=>⟨(λz=>by rw[z,fe.1]at q;cases q),(λz=>by rw[z,fi.1]at q;cases q)⟩
  have nin:∀b,b∉[e,it]->b≠e/\b≠it:=λb hb=>⟨λz=>hb (by simp[z]),λz=>hb (by simp[z])⟩
  have I2:Inv X pins U (upd H s.heap.objs.size (.tup [.int i,x])) { s with heap:=h2,toks:=s.toks+1 }:=by
   refine I.step (g':=s.gens) (d':=s.drawn) (ch:=[e,it]) (λb hb=>?_) (λb o _ _ hc' q _=>k2 b o (nin b hc').1 (nin b hc').2 q) (λb o _ _ hc' q _=>⟨o.slots,k2 b o (nin b hc').1 (nin b hc').2 q⟩)
    (λb o _ q n=>by rw[aA (neS b o q)];exact n) (λb o hc' q=>⟨o,k2 b o (nin b hc').1 (nin b hc').2 q⟩) (λb ys q=>by rw[aA (neT b _ q)];exact q) (λb o v q=>by rw[aA (neT b _ q)];exact q)
    (λb ps q=>⟨#[],by rw[aA (neT b _ q),q];simp⟩) (λm hm=>?_) (λb o q=>?_) I.bare
   .rcases V7.mp hb with z|z
    .subst z;exact⟨fe.2.2.2.1,fe.2.1,fe.2.2.2.2.1,fe.2.2.2.2.2⟩
    .have z:b=it:=by simpa using z
     subst z;exact⟨fi.2.2.2.1,fi.2.1,fi.2.2.2.2.1,fi.2.2.2.2.2⟩
   .obtain⟨o,es,ep,ho,r⟩:=hm;exact⟨o,es,ep,k2 _ o (Ne.symm fe.2.1) (Ne.symm fi.2.1) ho,r⟩
   .by_cases z:b=s.heap.objs.size
    .subst z;rw[aQ]at q;cases q;exact⟨(by show 2<=sizeLine;decide),[.int i s.toks,u],.cons ⟨_,rfl⟩ (.cons ru .nil),_,ht2,rfl,_,rfl⟩
    .rw[aA z]at q;refine(I.hok b o q).stay (λc v hc' r=>k2 c v ?_ ?_ r) (λc r=>by rw[aA (neT c _ r)];exact r) λc ys r=>by rw[aA (neT c _ r)];exact r
     .rcases hc' with y|y
      .rw[y];exact(nt b o q).1
      .exact(nt c _ y).1
     .rcases hc' with y|y
      .rw[y];exact(nt b o q).2
      .exact(nt c _ y).2
  refine⟨.ref s.heap.objs.size,_,I2,rfl,⟨s.heap.objs.size,hfr,rfl,λys hy=>⟨x,by rw[I.zN hy hq];exact hx,rfl⟩⟩,⟨⟨_,he2⟩,?_⟩,λb hb=>?_⟩
  .exact hit1.at λo q=>hs2.extBut it o (Ne.symm hne) q
  .rcases V7.mp hb with z|z
   .subst z;rw[aA (VC elt)];exact fe.1
   .have z:b=it:=by simpa using z
    subst z;obtain⟨o,q,_⟩:=id hit;rw[aA (VC (VA q))];exact fi.1
 done:=by
  intro X hP hw hK hc i pins s U H E I hf st hg;subst hP hw hK;obtain⟨xs,hq,hx⟩:=hg;obtain⟨its,rv,p,hz⟩:=I.list hq;obtain⟨⟨old,he⟩,hit⟩:=st;obtain⟨f0,f1,f2,f3,f4,f5⟩:=hf it (by simp)
  have hl:=rv.length;exact wpAny_pyNext_enum_end (I.ok.hd hc) he hit p.isList (by simp;lia) λh' eb=>⟨rfl,I.turned (t':=s.toks) (λb o hb q=>eb b o hb q) f0 f1 f3 f4 f5⟩
 self:=λ_ _ _ _ _ st h=>by
  obtain⟨⟨old,he⟩,_⟩:=st;exact wpAny_pyIter_enum he h
section
variable{X:Cx}
inductive FP(K:Zt)(R:(It->Hp->Prop))(vs:List V)(H1:Hp):Prop
 |mk:∀a,(vs=[.ref a])->((∃xs,cz K H1 a xs))->(R (QN K a) H1)->FP K R vs H1
def SR(K:Zt)(ta:TA):TI:=λU H R=>ta U H λvs H1=>FP K R vs H1
def MM{elts:A01}{x1:Nat}{tp p pos:Pos}{e:Expr}{ta:TA}(hg:Gl X "enumerate")(hm:X.mg "enumerate"=none)(ha:PA X [e] ta)(hs:starEach [e] X.env=[(false,eval e X.env)]:=by rfl) : PI X (.Tuple elts x1 tp) (.Call (.Name "enumerate" p) [e] [] pos) (SR X.K ta):=by
 intro pins s U H R I h;refine Call_ (oB I hg hm boot_enumerate (YR (aT (ha pos pins s U H _ I h) λus s1 ⟨vs,H1,I1,r1,q1⟩=>?_) hs rfl));obtain⟨a,ev,⟨xs,hq⟩,q⟩:=q1;subst ev;obtain⟨u,rfl,ru⟩:=r1.one;cases ru;obtain⟨its,rv,pl,hz⟩:=I1.list hq;refine call_enumerate_list pl.isList λh' he hit hsz hk=>?_;refine wpAny_pyIter_enum he ?_;have I2:Inv X pins U H1 { s1 with heap:=h' }:=I1.kept (t':=s1.toks) hk;refine⟨s1.heap.objs.size+1,[s1.heap.objs.size+1,s1.heap.objs.size],_,_,H1,rfl,I2,Fv a _ _ (Nat.succ_ne_self _),⟨⟨_,he⟩,hit⟩,λb hb=>?_,q⟩;have hb:s1.heap.objs.size<=b:=by
  rcases V7.mp hb with z|z;{rw[z];exact Y9 _};have z:b=s1.heap.objs.size:=by simpa using z
  rw[z];exact V3 _
 exact I1.Bw hb (I1.hok.fresh hb)
end
section
variable{prog:Program}{w:World}{A:Around}{R:Result->Shared->Prop}{s:Shared}
abbrev C7(prog:Program)(w:World)(A:Around)(env:Env)(R:Result->Shared->Prop):Zk:=notedBy (model prog w) A env λe s'=>R (.error e) s'
end
end L2
namespace L2
open PySem PySem.Spec PyProof.Rows PySem.W
section
variable{X:Cx}
theorem sY(ns:A04):∀k,k<=ns.length->preSum (λi=>ns.getD i 0) k=(ns.take k).sum
 |0,_=>rfl
 |k+1,h=>by have ih:=sY ns k (by lia);rw[preSum,ih,List.take_succ,VX (show k<ns.length by lia),Vk,VX (show k<ns.length by lia)];rw[Yq];simp
def int_at{ns:A04}{its:Zy}(rv:Vals (ns.map V.int) its){i:Nat}(h:its[i]?=some v):∃t,v=.int (ns.getD i 0) t:=by
 obtain⟨x,hx,rx⟩:=lI rv i v h;rw[VQ]at hx;cases e:ns[i]? with
 |none=>rw[e]at hx;cases hx
 |some b=>rw[e]at hx;cases hx;obtain⟨t,rfl⟩:=rx;exact⟨t,by rw[Vk,e];rfl⟩
def FG(hc:X.calm=true):cu X (.builtin "sum") (λxs H Q=>∃(a:Addr)(ns:A04),xs=[.ref a]/\cz X.K H a (ns.map V.int)/\Q (.int ns.sum) H):=by
 intro pins s U H xs us Q I r h;obtain⟨a,ns,rfl,hq,q⟩:=h;obtain⟨u,rfl,ru⟩:=vals1 r;cases ru;obtain⟨its,rv,p,_⟩:=I.list hq;have hl:=p.isList;have hlt:a<s.heap.objs.size:=by obtain⟨o,ho,_⟩:=id hl;exact VA ho
 have hh:X.A.in1.handled=none:=by simp[I.ok.hd hc]
 have hn:its.toArray.size=ns.length:=by rw[VO,<-rv.length,V4]
 refine call_sum_walkAnyB (Xw hl ?_);refine⟨_,_,_,_,_,_,_,λi=>ns.getD i 0,rfl,(Walks.list hh _ a (VC hlt) its.toArray).toS,?_,?_,?_,?_⟩;{exact⟨⟨_,Vj _ rfl,rfl,rfl⟩,hl.push _⟩};{intro b hb;show b<(s.heap.push _).objs.size;rw[Wx];rcases V7.mp hb with rfl|hb;{exact Wv _};rcases V7.mp hb with rfl|hb;{exact WM hlt};cases hb}
 .intro i v hP;have hP':its[i]?=some v:=by simpa using hP
  obtain⟨t,rfl⟩:=int_at rv hP';exact .inl ⟨t,rfl⟩
 intro s' t' mv;obtain⟨h',g,d,t,os⟩:=s';obtain⟨m1,m2,m3,m4,m5⟩:=mv;dsimp only at m1 m2 m3 m4;subst m2 m3 m4;rw[hn,sY ns _ (V3 _),W9];exact⟨.int _,H,I.kept (t':=t) (old_kept m1),⟨_,rfl⟩,q⟩
end
end L2
namespace Dv
open PySem L2 PySem.W
section
variable{K:Frag}{H Hm:Hp}{P:A09}{Q:VK}
def bP(K:Frag)(H Hm:Hp)(P:A09)(Q:VK):Prop:=∀k v u H' Hm' fp,P k v->aj H H'->aj Hm Hm'->aj Hm' H'->(∀a,H a≠none->OE (Hm' a) (Hm a))->Own K H' Hm' k u v fp->(∀a∈fp,H a=none/\Hm' a=none)->Q u H'
def bP.sc(q:bP K H Hm P Q)(s:aj Hm H)(p:P .sh v)(r:Rp K Hm u v):Q u H:=q _ _ _ _ _ [] p (aj.refl _) (aj.refl _) s (λ_ _=>.inl rfl) (.sh r) λ_ z=>by cases z
def j7(s:aj Hm H){p:Addr}(h:H p=none):Hm p=none:=by
 cases e:Hm p with
 |none=>rfl
 |some o=>rw[s _ _ e]at h;cases h
def bP.nl(q:bP K H Hm P Q)(s:aj Hm H){p:Addr}(pp:P (.ow false) (.list ds))(hp:H p=none)(r:aC K Hm xs ds):Q (.ref p) (upd H p (.lst xs)):=
 q _ _ _ _ Hm [p] pp (cE hp) (aj.refl _) (s.trans (cE hp)) (λ_ _=>.inl rfl) (.ow aQ r) λa ha=>by rw[VB.mp ha];exact⟨hp,j7 s hp⟩
def bP.nt(q:bP K H Hm P Q)(s:aj Hm H){p:Addr}(pp:P .sh (.tuple ds))(hp:H p=none)(r:aC K Hm xs ds):Q (.ref p) (upd H p (.tup xs)):=by
 have n:=j7 s hp;have s2:=cE (o:=.tup xs) n;refine q _ _ _ _ (upd Hm p (.tup xs)) [] pp (cE hp) s2 (λb o e=>?_) (λa ha=>.inl (aA λz=>ha (z▸hp))) (.sh (.tup aQ (r.mono s2))) λ_ z=>by cases z
 by_cases c:b=p;{rw[c,aQ]at e⊢;exact e};rw[aA c]at e⊢;exact s _ _ e
end
def r2(r:R2):List V->Hp->VK->Prop:=λvs H Q=>match vs with
 |[x,y]=>r x y H Q
 |_=>False
def r1(r:V->Hp->VK->Prop):List V->Hp->VK->Prop:=λvs H Q=>match vs with
 |[x]=>r x H Q
 |_=>False
def ee(h:aC K H vs [a]):∃x,vs=[x]/\Rp K H x a:=by
 cases h with
 |cons h t=>cases t;exact⟨_,rfl,h⟩
def jG(h:aC K H vs [a,b]):∃x y,vs=[x,y]/\Rp K H x a/\Rp K H y b:=by
 cases h with
 |cons h t=>obtain⟨y,rfl,h2⟩:=ee t;exact⟨_,_,rfl,h,h2⟩
def b5.or(h:b5 X f r)(k:b5 X f s):b5 X f λx y H Q=>r x y H Q\/s x y H Q:=λpins st U H x y v u Q I a b z=>z.elim (h pins st U H x y v u Q I a b) (k pins st U H x y v u Q I a b)
section
variable{X:Cx}{Ex:XK}{Y:A03}
def n5(ho:b5 X (binaryOp op) r)(D:c7 X.K f (r2 r))(S:aV X Ex Y [a,b] as):SE X Ex Y (.BinOp a op b pos) (ah f as):=fR (r:=r2 r) S (λU H Q h=>WE.of (Sv ho bB bB) h) D
def Sm(ho:LL X (unaryOp op) r)(D:c7 X.K f (r1 r))(S:aV X Ex Y [a] as):SE X Ex Y (.UnaryOp op a pos) (ah f as):=fR (r:=r1 r) S (λU H Q h=>WE.of (SG ho bB) h) D
def IC(ho:b5 X (compareOp op) r)(hm:behindInMarks op b=false)(D:c7 X.K f (r2 r))(S:aV X Ex Y [a,b] as):SE X Ex Y (.Compare a [op] [b] pos) (ah f as):=fR (r:=r2 r) S (λU H Q h=>WE.of (Mh ho bB bB hm) h) D
def RW(ho:qk X r)(hs:oN b)(D:c7 X.K f (r2 r))(S:aV X Ex Y [a,b] as):SE X Ex Y (.Subscript a b pos) (ah f as):=fR (r:=r2 r) S (λU H Q h=>WE.of (Lb ho bB bB hs) h) D
end
def pY(g:Int->Int->PyData):DR:=λds P=>match ds with
 |[.int a,.int b]=>P .sh (g a b)
 |_=>False
def zc(C:Int->Int->Prop)(g:Int->Int->PyData):DR:=λds P=>match ds with
 |[.int a,.int b]=>C a b/\P .sh (g a b)
 |_=>False
def v8{Z:Prop}{f:Int->Int->Prop}(h:match ds with|[PyData.int a,.int b]=>f a b|_=>False)(k:∀a b,ds=[.int a,.int b]->f a b->Z):Z:=by split at h;{exact k _ _ rfl h};exact h.elim
def pQ{g:Int->Int->PyData}{gv:Int->Int->V}(hg:∀a b Hm,Rp K Hm (gv a b) (g a b)):c7 K (pY g) (r2 (qf gv)):=by intro H Hm vs ds P Q s r h q;refine v8 h λa b e p=>?_;subst e;obtain⟨x,y,rfl,h1,h2⟩:=jG r;cases h1;cases h2;exact⟨a,b,rfl,rfl,bP.sc q s p (hg a b Hm)⟩
def wY{g:Int->Int->PyData}{gv:Int->Int->V}(hg:∀a b Hm,Rp K Hm (gv a b) (g a b)):c7 K (zc C g) (r2 (rI C gv)):=by intro H Hm vs ds P Q s r h q;refine v8 h λa b e p=>?_;subst e;obtain⟨x,y,rfl,h1,h2⟩:=jG r;cases h1;cases h2;exact⟨a,b,rfl,rfl,p.1,bP.sc q s p.2 (hg a b Hm)⟩
inductive Fy(K:Frag) (x:V) (y:V)(H:Hp)(Q:VK):Prop
 |mk:∀l b xs zs,(x=.ref l)->(y=.ref b)->(cP K H l xs)->(cP K H b zs)->(xs.length+zs.length<=sizeLine)->(∀p,H p=none->Q (.ref p) (upd H p (.lst (xs++zs))))->Fy K x y H Q
def Lm(K:Frag):R2:=λx y H Q=>Fy K x y H Q
section
variable{X:Cx}
def NV:b5 X (binaryOp .Add) (Lm X.K):=by
 intro pins s U H x y v u Q I rx ry h;obtain⟨l,b,xs,zs,rfl,rfl,hH,hB,hz,q⟩:=h;cases rx;cases ry;obtain⟨z,its,n,r,e⟩:=hH.get I;obtain⟨z2,its2,n2,r2,e2⟩:=hB.get I;have hl:=r.length;have hl2:=r2.length;refine PySem.P.add_list e e2 ?_ (by rw[VO,VO];lia);have ea:its.toArray++its2.toArray=(its++its2).toArray:=by simp
 rw[ea];exact⟨.ref _,_,I.Rr (t':=s.toks) (r.append r2) (by rw[VD];lia),rfl,q _ I.fresh⟩
end
def TQ(f:PyData->Prop):Zw->Prop
 |[x]=>f x
 |_=>False
def Cm(f:PyData->PyData->Prop):Zw->Prop
 |[x,y]=>f x y
 |_=>False
def TM(f:PyData->PyData->PyData->Prop):Zw->Prop
 |[x,y,z]=>f x y z
 |_=>False
def AQ(d:PyData)(f:Int->Prop):Prop:=match d with
 |.int i=>f i
 |_=>False
def rK(r:Rp K H x d)(h:AQ d f):∃i,x=.int i/\f i:=by
 cases r with
 |int i=>exact⟨i,rfl,h⟩
 |_=>exact h.elim
def Pw(r:aC K H vs ds)(h:TQ f ds):∃x d,vs=[x]/\ds=[d]/\Rp K H x d/\f d:=by
 cases r with
 |nil=>exact h.elim
 |cons h1 r=>
  cases r with
  |nil=>exact⟨_,_,rfl,rfl,h1,h⟩
  |cons=>exact h.elim
def qC(r:aC K H vs ds)(h:Cm f ds):∃x y d e,vs=[x,y]/\ds=[d,e]/\Rp K H x d/\Rp K H y e/\f d e:=by
 cases r with
 |nil=>exact h.elim
 |cons h1 r=>
  cases r with
  |nil=>exact h.elim
  |cons h2 r=>
   cases r with
   |nil=>exact⟨_,_,_,_,rfl,rfl,h1,h2,h⟩
   |cons=>exact h.elim
def O0(r:aC K H vs ds)(h:TM f ds):∃x y z d e d',vs=[x,y,z]/\ds=[d,e,d']/\Rp K H x d/\Rp K H y e/\Rp K H z d'/\f d e d':=by
 cases r with
 |nil=>exact h.elim
 |cons h1 r=>
  cases r with
  |nil=>exact h.elim
  |cons h2 r=>
   cases r with
   |nil=>exact h.elim
   |cons h3 r=>
    cases r with
    |nil=>exact⟨_,_,_,_,_,_,rfl,rfl,h1,h2,h3,h⟩
    |cons=>exact h.elim
def dW:DR:=λds P=>Cm (λx y=>match x,y with
 |.int a,.int b=>P .sh (.int (a+b))
 |.list a,.list b=>a.length+b.length<=sizeLine/\P (.ow false) (.list (a++b))
 |.tuple a,.tuple b=>(a≠[]/\a.length+b.length<=sizeLine)/\P .sh (.tuple (a++b))
 |.str a,.str b=>a.length+b.length<=sizeLine/\P .sh (.str (a++b))
 |_,_=>False) ds
def KN(K:Frag):R2:=λx y H Q=>(((qf λi j=>.int (i+j)) x y H Q\/Lm K x y H Q)\/LU K x y H Q)\/∃i j,x=.str i/\y=.str j/\i.length+j.length<=sizeLine/\Q (.str (i++j)) H
def Ny:b5 X (binaryOp .Add) (KN X.K):=((Rz.or NV).or NR).or Eg
def Mt:c7 K dW (r2 (KN K)):=by
 intro H Hm vs ds P Q s r h q;obtain⟨x,y,d,e,rfl,rfl,h1,h2,h⟩:=qC r h;cases h1 with
 |int a=>
  cases h2 with
  |int b=>exact .inl (.inl (.inl ⟨_,_,rfl,rfl,bP.sc q s h (.int _)⟩))
  |_=>exact h.elim
 |lst a1 r1=>
  cases h2 with
  |lst a2 r2=>exact .inl (.inl (.inr ⟨_,_,_,_,rfl,rfl,cP.mono s a1,cP.mono s a2,by rw[r1.len,r2.len];exact h.1,λp hp=>bP.nl q s h.2 hp (r1.app r2)⟩))
  |_=>exact h.elim
 |@tup a xs ds1 a1 r1=>
  cases h2 with
  |@tup b ys ds2 a2 r2=>refine .inl (.inr ⟨_,_,_,_,rfl,rfl,cG.of (s _ _ a1),cG.of (s _ _ a2),λz=>h.1.1 ?_,by rw[r1.len,r2.len];exact h.1.2,λz=>?_,λ_ p hp=>bP.nt q s h.2 hp (r1.app r2)⟩);{subst z;cases r1;rfl};subst z;cases r2;have h:P .sh (.tuple (ds1++[])):=h.2;rw[Vm]at h;exact bP.sc q s h (.tup a1 r1)
  |_=>exact h.elim
 |str a=>
  cases h2 with
  |str b=>exact .inr ⟨_,_,rfl,rfl,h.1,bP.sc q s h.2 (.str _)⟩
  |_=>exact h.elim
 |_=>exact h.elim
inductive HH(K:Frag) (x:V) (y:V)(H:Hp)(Q:VK):Prop
 |mk:∀l k xs,(x=.ref l)->(y=.int k)->(cP K H l xs)->(-(2^63)<=k)->(k<2^63)->(xs.length*k.toNat<=sizeLine)->(∀p,H p=none->Q (.ref p) (upd H p (.lst (List.replicate k.toNat xs).flatten)))->HH K x y H Q
def K8(K:Frag):R2:=λx y H Q=>HH K x y H Q
section
variable{X:Cx}
open PyProof.Rows in
def Nt:b5 X (binaryOp .Mult) (K8 X.K):=by
 intro pins s U H x y v u Q I rx ry h;obtain⟨l,k,xs,rfl,rfl,hH,h1,h2,hz,q⟩:=h;cases rx;obtain⟨t,rfl⟩:=ry;obtain⟨z,its,n,r,e⟩:=hH.get I;have hl:=r.length;have hlen:its.toArray.size*k.toNat<=sizeLine:=by rw[VO,<-hl];exact hz
 have hcap:¬its.toArray.size*k.toNat>(2^63-1)/8:=by
  have:(sizeLine:Nat)<=(2^63-1)/8:=by decide
  lia
 have hfit:¬(!Builtin.List.listFitsIndex k)=true:=by rw[fitsIndex_both h1 h2];exact VY
 have hlong:¬Builtin.List.listTooLong (its.toArray.size*k.toNat)=true:=by rw[By hlen];exact VY
 have hnew:List.foldl (λx1 x2=>x1++x2) #[] (List.replicate (if its.toArray.isEmpty=true then 0 else k.toNat) its.toArray)=(List.replicate k.toNat its).flatten.toArray:=by
  have f0:∀m:Nat,List.foldl (λx1 x2=>x1++x2) #[] (List.replicate m its.toArray)=(List.replicate m its).flatten.toArray:=λm=>by have:=foldl_rep its m [];rw[Xz]at this;exact this
  rw[f0];cases its with
  |nil=>simp
  |cons a r'=>rw[if_neg (by simp)]
 refine wpAny_binaryOp_repeat_ref (T:="list") (U:="int") (by decide) ⟨_,e,rfl⟩ (λs'=>typeIs_int s' k t) noFill_list_mul F.fills_int_mul F.slot_int_rmul repeat_list F.slot_int_index.lookup
  (Xp F.slot_int_rmul (typeIs_int s k t) F.entry_int_rmul (F.args_int_rmul_2 _ _) (int___rmul___int_list k t l its.toArray n)
   ⟨e,rfl,⟨_,e,rfl⟩,Xp F.slot_list_mul ⟨_,e,rfl⟩ F.entry_list_mul (F.args_list_mul_2 _ _) (AutoListH.list___mul___list_int_3 l its.toArray n k t hfit hcap hlong) ⟨e,?_⟩⟩)
 rw[hnew];exact⟨.ref _,_,I.Rr (t':=s.toks) (r.rep k.toNat) (by rw[len_rep,Nat.mul_comm];exact hz),rfl,q _ I.fresh⟩
end
theorem aC.rep(r:aC K H xs ds):∀n:Nat,aC K H (List.replicate n xs).flatten (List.replicate n ds).flatten
 |0=>.nil
 |n+1=>by rw[XR,XR,Wb,Wb];exact r.app (r.rep n)
def ie:DR:=λds P=>match ds with
 |[.int a,.int b]=>kY a b/\P .sh (.int (a*b))
 |[.list a,.int k]=>(-(2^63)<=k/\k<2^63/\a.length*k.toNat<=sizeLine)/\P (.ow false) (.list (List.replicate k.toNat a).flatten)
 |_=>False
def LG(K:Frag):R2:=λx y H Q=>(rI kY λi j=>.int (i*j)) x y H Q\/K8 K x y H Q
def Mb:b5 X (binaryOp .Mult) (LG X.K):=O4.or Nt
def MH:c7 K ie (r2 (LG K)):=by
 intro H Hm vs ds P Q s r h q;unfold ie at h;split at h;{obtain⟨x,y,rfl,h1,h2⟩:=jG r;cases h1;cases h2;exact .inl ⟨_,_,rfl,rfl,h.1,bP.sc q s h.2 (.int _)⟩}
 .obtain⟨x,y,rfl,h1,h2⟩:=jG r;cases h2;cases h1 with
  |lst a1 r1=>exact .inr ⟨_,_,_,rfl,rfl,cP.mono s a1,h.1.1,h.1.2.1,by rw[r1.len];exact h.1.2.2,λp hp=>bP.nl q s h.2 hp (r1.rep _)⟩
 exact h.elim
end Dv
namespace L2
open PySem PySem.Spec PyProof.Rows
section
variable{prog:Program}{w:World}{A:Around}{E:Zk}{s:Shared}
def yQ{t sl:Addr}{items:Zv}{vl vu:Value}{lo hi:Option Int}{Q:Zk}(ht:IsTup s.heap t items)(hs:s.heap.IsSliceOf sl vl vu .none)(pl:IsPart vl lo)(pu:IsPart vu hi)(w0:HT.aU items.size 0 lo=0)(w1:HT.aU items.size items.size hi=items.size)(h:Q (.ref t) s):wpAny (model prog w) A (getItem (.ref t) (.ref sl)) Q E s:=by
 obtain⟨os,hos,hcs,hds⟩:=id hs;have hTs:s.TypeIs (.ref sl) "slice":=⟨os,hos,hcs⟩;unfold getItem;refine Vo (?_:_);refine V0 (wpAny_sequenceKey ht.typeIs (by decide) (?_:_));refine V0 (YX (name:=Str.ofString "__getitem__") ht.typeIs YY
  (X5 YY ht.typeIs entry_tuple_getitem (?_:_) (args_tuple_getitem _ _)))
 refine id (?_:wpAny _ _ (Builtin.Tuple.tupleItemsOf (.ref t)>>=_) _ _ s);refine V0 (tupleItemsOf_ ht (?_:_));refine V0 (XO hTs (?_:_));rw[if_pos (by decide)];refine V0 (HT.mj hs pl pu (?_:_));have yes:(((HT.aU items.size 0 lo:Nat):Int)==0&&(1:Int)==1&&(HT.aU items.size items.size hi-HT.aU items.size 0 lo)==items.size)=true:=by rw[w0,w1,Yr];simp
 refine id (?_:wpAny _ _ (if(((HT.aU items.size 0 lo:Nat):Int)==0&&(1:Int)==1&&(HT.aU items.size items.size hi-HT.aU items.size 0 lo)==items.size)=true then _ else _) _ _ s);rw[if_pos yes];refine V0 (m:=Builtin.Tuple.tupleIsExact _) (V0 (XO ht.typeIs (V2 (?_:_))));rw[if_pos (by decide)];refine V0 (Wy (?_:_));exact V2 ⟨_,rfl,V2 h⟩
end
section
variable{X:Cx}
def Ll(K:Zt):V->Option Int->Option Int->Hp->VK->Prop:=λx lo hi H Q=>∃a xs,x=.ref a/\cG K H a xs /\
 (HT.aU xs.length 0 lo=0/\HT.aU xs.length xs.length hi=xs.length->Q (.ref a) H)/\(¬(HT.aU xs.length 0 lo=0/\HT.aU xs.length xs.length hi=xs.length)->∀p,H p=none->Q (.ref p) (upd H p (.tup (pS xs lo hi))))
def Ms:FD X (Ll X.K):=by
 intro pins s U H x v vl vu lo hi sl Q I rx hs pl pu h;obtain⟨a,xs,rfl,hx,q1,q2⟩:=h;by_cases c:HT.aU xs.length 0 lo=0/\HT.aU xs.length xs.length hi=xs.length
 .cases rx;obtain⟨its,r,ht,hz⟩:=I.tuple hx;have hlen:its.toArray.size=xs.length:=by rw[VO];exact r.length.symm
  refine⟨"tuple",_,Zf,ht.typeIs,?_⟩;exact yQ ht hs pl pu (by rw[hlen];exact c.1) (by rw[hlen];exact c.2) ⟨.ref a,H,I,rfl,q1 c⟩
 exact RB pins s U H (.ref a) v vl vu lo hi sl Q I rx hs pl pu ⟨a,xs,rfl,hx,c,q2 c⟩
end
end L2
namespace Dv
open PySem L2 PySem.W
def dl:Nat->PyData->Bool
 |_,.none=>true
 |_,.int _=>true
 |_,.str x=>PyData.strOk x
 |n+1,.list ds=>ds.all (dl n)
 |n+1,.tuple ds=>ds.all (dl n)
 |_,_=>false
theorem ou:∀{ds:Zw},(∀d∈ds,d.canLay0=true)->PyData.canLayAll0 ds=true
 |[],_=>rfl
 |d::ds,h=>by rw[PyData.canLayAll0,h d V1,ou λe he=>h e (V5 _ he)];rfl
theorem qD{n:Nat}:∀{ds:Zw},(∀d∈ds,d.depth<=n)->PyData.depthAll ds<=n
 |[],_=>by rw[PyData.depthAll];exact VW _
 |d::ds,h=>by rw[PyData.depthAll];exact Nat.max_le.mpr ⟨h d V1,qD λe he=>h e (V5 _ he)⟩
theorem jv:∀{n:Nat}{d:PyData},dl n d=true->d.canLay0=true/\d.depth<=n
 |_,.none,_=>⟨rfl,VW _⟩
 |_,.int _,_=>⟨rfl,VW _⟩
 |n,.str x,h=>⟨by cases n<;>exact h,VW _⟩
 |n+1,.list ds,h=>by have h:ds.all (dl n)=true:=h;rw[VN]at h;refine⟨by rw[PyData.canLay0];exact ou λd hd=>(jv (h d hd)).1,?_⟩;rw[PyData.depth];have:=qD (n:=n) (ds:=ds) λd hd=>(jv (h d hd)).2;lia
 |n+1,.tuple ds,h=>by have h:ds.all (dl n)=true:=h;rw[VN]at h;refine⟨by rw[PyData.canLay0];exact ou λd hd=>(jv (h d hd)).1,?_⟩;rw[PyData.depth];have:=qD (n:=n) (ds:=ds) λd hd=>(jv (h d hd)).2;lia
 |0,.list _,h=>by cases h
 |0,.tuple _,h=>by cases h
 |n,.bool _,h=>by cases n<;>cases h
 |n,.dict _,h=>by cases n<;>cases h
theorem qI:∀{ds:Zw},(∀d∈ds,nd d=true)->nd.nds ds=true
 |[],_=>rfl
 |d::ds,h=>by rw[nd.nds,h d V1,qI λe he=>h e (V5 _ he)];rfl
theorem mU:∀{n:Nat}{d:PyData},dl n d=true->nd d=true
 |_,.none,_=>rfl
 |_,.int _,_=>rfl
 |_,.str _,_=>rfl
 |_,.bool _,_=>rfl
 |n+1,.list ds,h=>by have h:ds.all (dl n)=true:=h;rw[VN]at h;rw[nd];exact qI λd hd=>mU (h d hd)
 |n+1,.tuple ds,h=>by have h:ds.all (dl n)=true:=h;rw[VN]at h;rw[nd];exact qI λd hd=>mU (h d hd)
 |0,.list _,h=>by cases h
 |0,.tuple _,h=>by cases h
 |n,.dict _,h=>by cases n<;>cases h
theorem qm(hf:∀a b,f a=true->f b=true->SeqAt.noMix a b=true):∀{xs ys:Zw},xs.all f=true->ys.all f=true->SeqAt.noMixAll xs ys=true
 |[],[],_,_=>rfl
 |[],_::_,_,_=>rfl
 |_::_,[],_,_=>rfl
 |x::xs,y::ys,h1,h2=>by rw[VP,V9]at h1 h2;rw[SeqAt.noMixAll,hf x y h1.1 h2.1,qm hf h1.2 h2.2];rfl
def IL:∀(n:Nat)(a b:PyData),dl n a=true->dl n b=true->SeqAt.noMix a b=true:=by
 intro n;induction n with
 |zero=>intro a b ha hb;cases a<;>first|(cases ha;done)|(cases b<;>first|(cases hb;done)|rfl)
 |succ n ih=>
  intro a b ha hb;cases a with
  |list xs=>
   cases b with
   |list ys=>rw[SeqAt.noMix];exact qm ih ha hb
   |dict _=>cases hb
   |bool _=>cases hb
   |_=>rfl
  |tuple xs=>
   cases b with
   |tuple ys=>rw[SeqAt.noMix];exact qm ih ha hb
   |dict _=>cases hb
   |bool _=>cases hb
   |_=>rfl
  |dict _=>cases ha
  |bool _=>cases ha
  |_=>cases b<;>first|(cases hb;done)|rfl
def Fj{n:Nat}(ha:dl n a=true)(hb:dl n b=true):PyData.eqv a b=decide (a=b):=by rw[<-SeqAt.same_eq_eqv a b (IL n a b ha hb),Wi,PyProof.Rows.same_iff,W2]
def yr{n:Nat}(h:dl n d=true)(l:n<=60):SeqAt.shaped d=true:=by obtain⟨h1,h2⟩:=jv h;unfold SeqAt.shaped;rw[h1,Ve (VS h2 (by lia))];rfl
def Lx(a b:PyData)(P:Bool->Prop):Prop:=match a,b with
 |.int a,.int b=>P (decide (a=b))
 |.str a,.str b=>P (decide (a=b))
 |.bool a,.bool b=>P (decide (a=b))
 |.none,.none=>P true
 |a,b=>(dl 8 a=true/\dl 8 b=true)/\P (decide (a=b))
def gB:DR:=λds P=>match ds with
 |[a,b]=>Lx a b λc=>P .sh (.bool c)
 |_=>False
def l6:DR:=λds P=>match ds with
 |[a,b]=>Lx a b λc=>P .sh (.bool !c)
 |_=>False
def tP(K:Frag)(neg:Bool):R2:=λx y H Q=>KG K neg x y H Q\/(if neg then Tu x y H Q else Tq x y H Q)
section
variable{X:Cx}
def IB(hu:X.A.units+64<cLine):b5 X (compareOp .Eq) (tP X.K false):=(Rg hu).or (RO (X:=X))
def Oe(hu:X.A.units+64<cLine):b5 X (compareOp .NotEq) (tP X.K true):=(QK hu).or (Sb (X:=X))
end
def GJ(neg:Bool)(s:aj Hm H)(h1:Rp K Hm x a)(h2:Rp K Hm y b)(h:Lx a b Pb)(q:∀c,Pb c->Q (.bl (if neg then !c else c)) H):tP K neg x y H Q:=by
 have gen:dl 8 a=true/\dl 8 b=true->Pb (decide (a=b))->tP K neg x y H Q:=λhd p=>by
  refine .inl ⟨a,b,(h1.mono s).qp (mU hd.1),(h2.mono s).qp (mU hd.2),yr hd.1 (by decide),yr hd.2 (by decide),IL 8 a b hd.1 hd.2,?_⟩;have e:Spec.same a b=decide (a=b):=by rw[Wi,PyProof.Rows.same_iff,W2]
  rw[e];exact q _ p
 have sc:IZ x y=true->Pb (decide (x=y))->tP K neg x y H Q:=λhs p=>by
  refine .inr ?_;cases neg with
  |true=>exact⟨hs,q _ p⟩
  |false=>exact⟨hs,q _ p⟩
 unfold Lx at h;split at h;{cases h1;cases h2;refine sc rfl ?_;simpa using h};{cases h1;cases h2;refine sc rfl ?_;simpa using h};{cases h1;cases h2;refine sc rfl ?_;simpa using h};{cases h1;cases h2;exact gen ⟨rfl,rfl⟩ (by simpa using h)};exact gen h.1 h.2
def HJ:c7 K gB (r2 (tP K false)):=by intro H Hm vs ds P Q s r h q;unfold gB at h;split at h;{obtain⟨x,y,rfl,h1,h2⟩:=jG r;exact GJ false s h1 h2 h λc p=>bP.sc q s p (.bl _)};exact h.elim
def OP:c7 K l6 (r2 (tP K true)):=by intro H Hm vs ds P Q s r h q;unfold l6 at h;split at h;{obtain⟨x,y,rfl,h1,h2⟩:=jG r;exact GJ true s h1 h2 h λc p=>bP.sc q s p (.bl _)};exact h.elim
def kO(neg:Bool):DR:=λds P=>match ds with
 |[a,.none]=>P .sh (.bool (if neg then !decide (a=.none)else decide (a=.none)))
 |_=>False
def Lf(neg:Bool):DR:=λds P=>match ds with
 |[d,.list xs]=>(xs.all (dl 8)=true/\dl 8 d=true)/\P .sh (.bool (if neg then !decide (d∈xs)else decide (d∈xs)))
 |[d,.tuple xs]=>(xs.all (dl 8)=true/\dl 8 d=true)/\P .sh (.bool (if neg then !decide (d∈xs)else decide (d∈xs)))
 |_=>False
inductive LB(K:Frag)(neg:Bool) (x:V) (y:V)(H:Hp)(Q:VK):Prop
 |mk:∀(d:PyData)(xs:Zw),(m7 K H x d)->((m7 K H y (.list xs)\/m7 K H y (.tuple xs)))->(PyData.canLayAll0 xs=true)->(d.canLay0=true)->(d.depth<=60)->(Q (.bl (if neg then !xs.any λy=>PyData.eqv y d else xs.any λy=>PyData.eqv y d)) H)->LB K neg x y H Q
def Ea(K:Frag)(neg:Bool):R2:=λx y H Q=>LB K neg x y H Q
section
variable{X:Cx}
def QB(hu:X.A.units+64<cLine):b5 X (compareOp .In) (Ea X.K false):=by intro pins s U H x y v u Q I rx ry h;obtain⟨d,xs,hx,hy,l1,l2,dp,q⟩:=h;obtain⟨bs,rb⟩:=I.reads hx rx;rcases hy with hy|hy;{obtain⟨as,ra⟩:=I.reads hy ry;exact SeqAt.in_list_reads ra rb l1 l2 (by lia) ⟨.bl _,H,I,rfl,q⟩};obtain⟨as,ra⟩:=I.reads hy ry;exact SeqAt.in_tuple_reads ra rb l1 l2 (by lia) ⟨.bl _,H,I,rfl,q⟩
def HB(hu:X.A.units+64<cLine):b5 X (compareOp .NotIn) (Ea X.K true):=by intro pins s U H x y v u Q I rx ry h;obtain⟨d,xs,hx,hy,l1,l2,dp,q⟩:=h;obtain⟨bs,rb⟩:=I.reads hx rx;rcases hy with hy|hy;{obtain⟨as,ra⟩:=I.reads hy ry;exact SeqAt.notIn_list_reads ra rb l1 l2 (by lia) ⟨.bl _,H,I,rfl,q⟩};obtain⟨as,ra⟩:=I.reads hy ry;exact SeqAt.notIn_tuple_reads ra rb l1 l2 (by lia) ⟨.bl _,H,I,rfl,q⟩
end
def Cq{n:Nat}{xs:Zw}(h:xs.all (dl n)=true)(hd:dl n d=true):(xs.any λy=>PyData.eqv y d)=decide (d∈xs):=by rw[Wi,YI,W2];rw[VN]at h;constructor;{rintro⟨y,hy,e⟩;rw[Fj (h y hy) hd,W2]at e;exact e▸hy};intro m;exact⟨d,m,by rw[Fj hd hd];simp⟩
def N8{K:Frag}(neg:Bool):c7 K (Lf neg) (r2 (Ea K neg)):=by intro H Hm vs ds P Q s r h q;unfold Lf at h;split at h;{rename_i d xs;obtain⟨x,y,rfl,h1,h2⟩:=jG r;obtain⟨⟨ha,hd⟩,p⟩:=h;refine⟨d,xs,(h1.mono s).qp (mU hd),.inl ((h2.mono s).qp (by rw[nd];exact qI λd hd=>mU (VN.mp ha d hd))),ou λe he=>(jv (VN.mp ha e he)).1,(jv hd).1,VS (jv hd).2 (by decide),?_⟩;rw[Cq ha hd];exact bP.sc q s p (.bl _)};{rename_i d xs;obtain⟨x,y,rfl,h1,h2⟩:=jG r;obtain⟨⟨ha,hd⟩,p⟩:=h;refine⟨d,xs,(h1.mono s).qp (mU hd),.inr ((h2.mono s).qp (by rw[nd];exact qI λd hd=>mU (VN.mp ha d hd))),ou λe he=>(jv (VN.mp ha e he)).1,(jv hd).1,VS (jv hd).2 (by decide),?_⟩;rw[Cq ha hd];exact bP.sc q s p (.bl _)};exact h.elim
def LV:DR:=λds P=>match ds with
 |[.list xs,.int i]=>∃d,eZ xs i=some d/\P .sh d
 |[.tuple xs,.int i]=>∃d,eZ xs i=some d/\P .sh d
 |_=>False
theorem aC.eZ(r:aC K H vs ds){i:Int}(h:L2.eZ ds i=some d):∃v,L2.eZ vs i=some v/\Rp K H v d:=by
 unfold L2.eZ at h⊢;rw[r.len];cases e:oA ds.length i with
 |none=>rw[e]at h;cases h
 |some j=>rw[e]at h;exact r.get h
def QM:c7 K LV (r2 (QD K)):=by
 intro H Hm vs ds P Q s r h q;unfold LV at h;split at h
 .obtain⟨x,y,rfl,h1,h2⟩:=jG r;obtain⟨d,e,p⟩:=h;cases h2;cases h1 with
  |lst a1 r1=>obtain⟨v,e2,rv⟩:=r1.eZ e;exact .inl ⟨_,_,_,v,rfl,rfl,(cP.mono s a1).sq,e2,bP.sc q s p rv⟩
 .obtain⟨x,y,rfl,h1,h2⟩:=jG r;obtain⟨d,e,p⟩:=h;cases h2;cases h1 with
  |tup a1 r1=>obtain⟨v,e2,rv⟩:=r1.eZ e;exact .inr (.inl ⟨_,_,_,v,rfl,rfl,cG.of (s _ _ a1),e2,bP.sc q s p rv⟩)
 exact h.elim
def cutD(xs:Zw)(lo hi:Option Int):Zw:=(xs.drop (HT.aU xs.length 0 lo)).take (HT.aU xs.length xs.length hi-HT.aU xs.length 0 lo)
def aC.cut(r:aC K H vs ds)(lo hi:Option Int):aC K H (pS vs lo hi) (cutD ds lo hi):=by unfold pS cutD;rw[r.len];exact(r.drop _).take _
def FT(d:PyData)(lo hi:Option Int)(P:A09):Prop:=match d with
 |.list xs=>P (.ow false) (.list (cutD xs lo hi))
 |.tuple xs=>P .sh (.tuple (cutD xs lo hi))
 |_=>False
def sF(bl bh:Bool):DR:=λds P=>match bl,bh with
 |false,false=>TQ (λd=>FT d none none P) ds
 |true,false=>Cm (λd e=>AQ e λa=>FT d (some a) none P) ds
 |false,true=>Cm (λd e=>AQ e λb=>FT d none (some b) P) ds
 |true,true=>TM (λd e e'=>AQ e λa=>AQ e' λb=>FT d (some a) (some b) P) ds
def wu(K:Frag):V->Option Int->Option Int->Hp->VK->Prop:=λx lo hi H Q=>OQ K x lo hi H Q\/Ll K x lo hi H Q
def Qi:FD X (wu X.K):=λpins s U H x v vl vu lo hi sl Q I rx hs pl pu h=>h.elim (NU pins s U H x v vl vu lo hi sl Q I rx hs pl pu) (Ms pins s U H x v vl vu lo hi sl Q I rx hs pl pu)
def LJ(bl bh:Bool)(K:Frag):List V->Hp->VK->Prop:=λvs H Q=>match bl,bh,vs with
 |false,false,[x]=>wu K x none none H Q
 |true,false,[x,a]=>∃i,a=.int i/\wu K x (some i) none H Q
 |false,true,[x,b]=>∃i,b=.int i/\wu K x none (some i) H Q
 |true,true,[x,a,b]=>∃i,a=.int i/\∃j,b=.int j/\wu K x (some i) (some j) H Q
 |_,_,_=>False
def Fe(h:HT.aU xs.length 0 lo=0/\HT.aU xs.length xs.length hi=xs.length):cutD xs lo hi=xs:=by unfold cutD;rw[h.1,h.2,List.drop_zero,Yr,W9]
def uO(q:bP K H Hm P Q)(s:aj Hm H)(h1:Rp K Hm x d)(h:FT d lo hi P):wu K x lo hi H Q:=by
 cases h1 with
 |lst a1 r1=>exact .inl ⟨_,_,rfl,(cP.mono s a1).sq,λp hp=>bP.nl q s h hp (r1.cut lo hi)⟩
 |tup a1 r1=>refine .inr ⟨_,_,rfl,cG.of (s _ _ a1),λw=>?_,λ_ p hp=>bP.nt q s h hp (r1.cut lo hi)⟩;rw[r1.len]at w;have h:P .sh (.tuple (cutD _ lo hi)):=h;rw[Fe w]at h;exact bP.sc q s h (.tup a1 r1)
 |_=>exact h.elim
def HU(bl bh:Bool):c7 K (sF bl bh) (LJ bl bh K):=by
 intro H Hm vs ds P Q s r h q;cases bl with
 |false=>
  cases bh with
  |false=>obtain⟨x,d,rfl,rfl,h1,h⟩:=Pw r h;exact uO q s h1 h
  |true=>obtain⟨x,y,d,e,rfl,rfl,h1,h2,h⟩:=qC r h;obtain⟨i,rfl,h⟩:=rK h2 h;exact⟨_,rfl,uO q s h1 h⟩
 |true=>
  cases bh with
  |false=>obtain⟨x,y,d,e,rfl,rfl,h1,h2,h⟩:=qC r h;obtain⟨i,rfl,h⟩:=rK h2 h;exact⟨_,rfl,uO q s h1 h⟩
  |true=>obtain⟨x,y,z,d,e,e',rfl,rfl,h1,h2,h3,h⟩:=O0 r h;obtain⟨i,rfl,h⟩:=rK h2 h;obtain⟨j,rfl,h⟩:=rK h3 h;exact⟨_,rfl,_,rfl,uO q s h1 h⟩
section
variable{X:Cx}{Ex:XK}{Y:A03}{a l u:Expr}{pos p2:Pos}{as:List Arg}
def Oa(S:aV X Ex Y [a,u] as):SE X Ex Y (.Subscript a (.Slice none (some u) none p2) pos) (ah (sF false true) as):=fR (r:=LJ false true X.K) S (λU H Q h=>WE.of (KC Qi bB MI (Nm bB)) h) (HU _ _)
open PyProof.Rows in
def ON(h:vN X [a,l,u] U H λvs H1=>LJ true true X.K vs H1 Q):WE X (.Subscript a (.Slice (some l) (some u) none p2) pos) U H Q:=by intro pins s I;refine Subscript_ (aT (h pins s I) λv s1 ⟨x,H1,I1,r1,q1⟩=>?_);refine wpAny_Slice ?_;rw[evalPart_some];refine aT (q1 pins s1 I1) λvl s2 ⟨y,H2,I2,pl,q2⟩=>?_;rw[evalPart_some];refine aT (q2 pins s2 I2) λvu s3 ⟨z,H3,I3,pu,q3⟩=>?_;obtain⟨i,rfl,j,rfl,q3⟩:=q3;obtain⟨t1,rfl⟩:=pl;obtain⟨t2,rfl⟩:=pu;rw[evalPart_none];refine V2 ?_;have I4:Inv X pins U H3 { s3 with heap:=s3.heap.push { cls:=.type "slice",data:=.fields #[.int i t1,.int j t2,.none] } }:=I3.kept (t':=s3.toks) λb ob q=>VM _ q;obtain⟨T,id,hT,ht,hg⟩:=Qi pins { s3 with heap:=s3.heap.push { cls:=.type "slice",data:=.fields #[.int i t1,.int j t2,.none] } } U H3 x v (.int i t1) (.int j t2) (some i) (some j) s3.heap.objs.size Q I4 r1 (Heap.IsSliceOf.new ..) (.int i t1) (.int j t2) q3;show wpAny (model X.prog X.w) X.A (subscriptTail a (.Slice (some l) (some u) none p2) v (.ref s3.heap.objs.size)) (EP X pins U Q) X.xe { s3 with heap:=s3.heap.push { cls:=.type "slice",data:=.fields #[.int i t1,.int j t2,.none] } };exact tail_any (ops:=[.ref s3.heap.objs.size,v]) ht hT hg (by with_unfolding_all rfl)
def PK(S:aV X Ex Y [a,l,u] as):SE X Ex Y (.Subscript a (.Slice (some l) (some u) none p2) pos) (ah (sF true true) as):=fR (r:=LJ true true X.K) S (λU H Q h=>ON h) (HU _ _)
end
end Dv
namespace L2
open PySem PySem.Spec PyProof.Rows
section
variable{X:Cx}
def Hj(hc:X.calm=true):cu X (.builtin "any") (λxs H Q=>∃(a:Addr)(bs:A00),xs=[.ref a]/\cz X.K H a (bs.map V.bl)/\Q (.bl (bs.any id)) H):=by
 intro pins s U H xs us Q I r h;obtain⟨a,bs,rfl,hq,q⟩:=h;obtain⟨u,rfl,ru⟩:=vals1 r;cases ru;obtain⟨its,rv,p,_⟩:=I.list hq;have hl:=p.isList;have hlt:a<s.heap.objs.size:=by obtain⟨o,ho,_⟩:=id hl;exact VA ho
 have hh:X.A.in1.handled=none:=by simp[I.ok.hd hc]
 refine call_any_walk (Xw hl ?_);refine⟨_,_,_,_,_,_,λi=>bs.getD i false,rfl,Walks.list hh _ a (VC hlt) its.toArray,⟨⟨_,Vj _ rfl,rfl,rfl⟩,hl.push _⟩,λi v s' Q' E' hP hQ=>?_,λh' tk hk=>?_⟩
 .have hP':its[i]?=some v:=by simpa using hP
  obtain⟨x,hx,rx⟩:=lI rv i v hP';rw[VQ]at hx;cases e:bs[i]? with
  |none=>rw[e]at hx;cases hx
  |some b=>
   rw[e]at hx;cases hx;cases rx;have e2:bs.getD i false=b:=by rw[Vk,e];rfl
   dsimp only at hQ;rw[e2]at hQ;exact XM hQ
 have kp:∀b o,s.heap.get? b=some o->h'.get? b=some o:=λb o hb=>hk b o (by
  have:=VA hb;simp only[VB];exact VC this) (VM _ hb)
 have len:its.toArray.size=bs.length:=by rw[VO,<-rv.length,V4]
 refine⟨.bl _,H,I.kept (t':=tk) kp,rfl,?_⟩;have e:(List.range its.toArray.size).any (λi=>bs.getD i false)=bs.any id:=by rw[len,Wi,YI,YI];constructor;{rintro⟨i,hi,h⟩;have hi':=VL.mp hi;rw[Vk,VX hi']at h;exact⟨_,Wj hi',h⟩};rintro⟨b,hb,h⟩;obtain⟨i,hi⟩:=We hb;refine⟨i,VL.mpr (Vz.mp hi).1,?_⟩;rw[Vk,hi];exact h
 rw[e];exact q
end
section
variable{X:Cx}
def BO:cu X (.type "range") (λxs H Q=>∃j:Int,xs=[.int j]/\∀p,H p=none->Q (.ref p) (upd H p (.sX 0 j))):=by intro pins s U H xs us Q I r h;obtain⟨j,rfl,q⟩:=h;obtain⟨u,rfl,ru⟩:=vals1 r;obtain⟨t,rfl⟩:=ru;refine call_range_1 (?_:_);exact⟨.ref s.heap.objs.size,_,I.laid (o:=.sX 0 j) (λb o e=>VM _ e) (V3 _) ⟨_,_,_,Vj _ rfl⟩,rfl,q _ (I.hok.fresh (V3 _))⟩
def Ei(hc:X.calm=true):cu X (.type "list") (λxs H Q=>∃(a:Addr) (j:Int),xs=[.ref a]/\H a=some (.sX 0 j)/\0<=j/\j<=1000/\∀l,H l=none->Q (.ref l) (upd H l (.lst (((List.range j.toNat).map λi:Nat=>(i:Int)).map V.int)))):=by
 intro pins s U H xs us Q I r h;obtain⟨a,j,rfl,ha,j0,j1,q⟩:=h;obtain⟨u,rfl,ru⟩:=vals1 r;cases ru;obtain⟨t,u,v,e⟩:=I.hok a _ ha;refine call_list_range (n:=j.toNat) (I.ok.hd hc) e (small_one (by decide) (by decide) (by lia) (by lia)) (by rw[rangeSize_one];split<;>lia) (by lia) λh' tk acc c kp hS its=>?_;obtain⟨z1,z2⟩:=its;have rv:Vals (((List.range j.toNat).map λi:Nat=>(i:Int)).map V.int) acc.toList:=by
  have go:∀(l:Zy) (k:Nat),(∀(i:Nat)(v:Value),l[i]?=some v->∃t:Tok,v=Value.int ((k+i:Nat):Int) t)->Vals (((List.range' k l.length).map λi:Nat=>(i:Int)).map V.int) l:=λl=>by
   induction l with
   |nil=>exact λk _=>.nil
   |cons x l ih=>intro k h;obtain⟨t,e⟩:=h 0 x rfl;refine .cons ⟨t,by simpa using e⟩ (ih (k+1) λi v hv=>?_);obtain⟨t,e⟩:=h (i+1) v hv;exact⟨t,by rw[e,Nat.add_assoc,Nat.add_comm 1 i]⟩
  have:=go acc.toList 0 λi v hv=>by obtain⟨t,e⟩:=z2 i v (by simpa using hv);exact⟨t,by rw[e];simp⟩
  rw[ZG];simpa[z1]using this
 exact⟨.ref s.heap.objs.size,_,I.laid (t':=tk) kp (V3 _) (o:=.lst _) ⟨by rw[V4,V4,VI];exact VS (show j.toNat<=1000 by lia) (by decide),acc.toList,c,rv,by simpa using hS⟩,rfl,q _ (I.hok.fresh (V3 _))⟩
end
end L2
namespace L2
open PySem PySem.Spec PyProof.Rows PySem.W
section
variable{X:Cx}{a:Expr}{ta:TE}{pos:Pos}
def Nl(ha:PE X a ta):PE X (.UnaryOp .Not a pos) (λU H Q=>ta U H λx H1=>∃k,uy X.K x H1 k/\Q (.bl (!k)) H1):=by intro pins s U H Q I h;refine UnaryOp_ (aT (ha pins s U H _ I h) λv s1 ⟨x,H1,I1,r1,k,tk,q1⟩=>?_);refine not_of (aT (zZ pins s1 U H1 x v (λb H2=>Q (.bl (!b)) H2) I1 r1 ⟨k,tk,q1⟩) λb s2 ⟨H2,I2,q2⟩=>?_);exact⟨.bl (!b),H2,I2,rfl,q2⟩
end
end L2
namespace Dv
open PySem L2 PySem.W
section
variable{X:Cx}{Ex:XK}{Y:A03}
def Ef(h:PE X e (tC u))(r:∀Hm,Rp X.K Hm u v):SE X Ex Y e (dC v):=λg x E U H Hm F P Q hx R p q=>WE.of h (q _ _ _ _ _ _ _ [] p R (aj.refl _) (Tm.sh (r Hm)))
def O7{i j:Nat}(h:PE X e (pO j))(hj:Y[j]?=some i):SE X Ex Y e (aS i):=by
 intro g x E U H Hm F P Q hx R p q;replace p:F7 E i P:=p;unfold F7 at p;split at p
 rotate_left
 .exact p.elim
 rename_i k d e1;rw[<-bw,Cf]at p;obtain⟨E',e2,p⟩:=p;obtain⟨v,Hm',F',h1,s,R',r⟩:=R.dX e1 e2;exact WE.of h ⟨v,fJ hj h1,q _ _ _ _ _ _ _ [] p R' s (Tm.sh r)⟩
def bO(X:Cx)(Ex:XK)(Y:A03)(e:Expr)(d:DE):Prop:=
 ∀(g:Gh)(x:XC)(E:En)(U:St)(H Hm:Hp)(F:Nat->Zz)(P:A06)(Q:Bool->Hp->Prop),XL X Ex x g->Rl X.K g E U H Hm F->d x E P->
  (∀E' k v H' Hm' F',P E' k v->Rl X.K g E' U H' Hm' F'->aj Hm Hm'->∃b,lZ v=some b/\Q b H')->WT X e (sel Y U) H Q
def bO.st{e:Expr}{d:DE}(h:bO X Ex Y e d):ST X Ex Y e (bS d):=by rw[MU];exact λg x E U H Hm F P Q hx R p q=>h g x E U H Hm F _ Q hx R p λE' k v H' Hm' F' ⟨b,e1,p⟩ R' s=>⟨b,e1,q _ _ _ _ _ p R' s⟩
theorem Rp.lZ{b:Bool}(r:Rp K H u v)(h:Dv.lZ v=some b):uy K u H b:=by
 cases r with
 |bU=>cases h;rfl
 |bl c=>cases h;rfl
 |int i=>cases h;show(!decide (i=0))=(i != 0);rw[bne,Bool.beq_eq_decide_eq]
 |str _=>cases h
 |lst a r1=>cases h;refine .inl ⟨_,a.sq,?_⟩;cases r1<;>rfl
 |tup a r1=>cases h;refine .inr (.inl ⟨_,cG.of a,?_⟩);cases r1<;>rfl
 |dk _ _=>cases h
 |dt _ _=>cases h
 |exc _ _=>cases h
theorem Own.lZ{b:Bool}(o:Own K H Hm k u v fp)(s:aj Hm H)(h:Dv.lZ v=some b):uy K u H b:=by by_cases hk:k.rd=true;{exact(o.rp (Hm':=H) hk s λ_ _=>rfl).lZ h};cases o<;>first|exact absurd rfl hk|cases h
def SE.yj(h:SE X Ex Y e d)(he:∀whole,isTrue e X.env whole=(do let v <-whole;standAt e.pos;holding [v] (truthy v))):bO X Ex Y e d:=by intro g x E U H Hm F P Q hx R p q;refine WT.of (zD bB he) (h g x E U H Hm F P _ hx R p λE' k v u H' Hm' F' fp p' R' s T=>?_);obtain⟨b,e1,q'⟩:=q _ _ _ _ _ _ p' R' s;exact⟨b,T.own.lZ R'.sub e1,q'⟩
def Qh(ho:b5 X (compareOp op) r)(hm:behindInMarks op b=false)(h:vN X [a,b] U H λvs H1=>r2 r vs H1 λx H'=>∃k,uy X.K x H' k/\Q k H'):WT X (.Compare a [op] [b] pos) U H Q:=by intro pins s I;refine wpAny_isTrue_Compare1 (aT (h pins s I) λv s1 ⟨x,H1,I1,r1,q1⟩=>aT (q1 pins s1 I1) λu s2 ⟨y,H2,I2,r2,q2⟩=>aT (ho pins s2 U H2 x y v u _ I2 r1 r2 q2) λc s3 ⟨z,H3,I3,r3,q3⟩=>?_) hm;exact zZ pins s3 U H3 z c Q I3 r3 q3
def Rq(S:aV X Ex Y es as)(hr:∀U H (Q:Bool->Hp->Prop),vN X es U H (λvs H1=>r vs H1 λx H'=>∃k,uy X.K x H' k/\Q k H')->WT X e U H Q)(D:c7 X.K f r):bO X Ex Y e (ah f as):=by
 intro g x E U H Hm F P Q hx R h q;refine hr _ _ _ (kC hx S R h λE1 os vs H1 Hm1 F1 p R1 s1 G=>?_);replace p:vD f as E1 os P:=p;unfold vD at p;rw[<-bw,e7]at p;obtain⟨ds,hf,hg⟩:=p;have off:∀a∈(fM as).flatMap F1,Hm1 a=none:=λa ha=>by obtain⟨i,_,h⟩:=Vq.mp ha;exact R1.off i a h
 have up:=jM (Hm:=Hm1) (H:=H1) off;refine D H1 (lend Hm1 H1 ((fM as).flatMap F1)) vs ds _ _ (mP R1.sub) (oj R1 up G hf λi hi a ha=>gn (Vq.mpr ⟨i,hi,ha⟩)) hg λk v u H' Hm2 fp p sH sM sS old o fr=>?_;replace p:aH (tX as E1 k v) _:=p;rw[<-bw,wB]at p;obtain⟨E2,ha,p⟩:=p;obtain⟨Hm',F',R',s',T⟩:=As R1 (is:=fM as) (Aj ha) sH sM sS old o fr;obtain⟨b,e1,q'⟩:=q _ _ _ _ _ _ p R' (s1.trans s');exact⟨b,o.lZ sS e1,q'⟩
def jI(ho:b5 X (compareOp op) r)(hm:behindInMarks op b=false)(D:c7 X.K f (r2 r))(S:aV X Ex Y [a,b] as):bO X Ex Y (.Compare a [op] [b] pos) (ah f as):=Rq S (λU H Q h=>Qh ho hm h) D
theorem Own.bool{c:Bool}(o:Own K H Hm k u (.bool c) fp):u=.bl c:=by
 cases o with
 |sh r=>cases r;rfl
theorem Own.int{i:Int}(o:Own K H Hm k u (.int i) fp):u=.int i:=by
 cases o with
 |sh r=>cases r;rfl
def GU(h:SE X Ex Y a d):SE X Ex Y (.BoolOp op [a] pos) d:=λg x E U H Hm F P Q hx R p q=>WE.of (Pc bB) (h g x E U H Hm F P Q hx R p q)
def Ib{a b:Expr}{rest:A01}{pos:Pos}{d e:DE}(ha:SE X Ex Y a d)(hb:SE X Ex Y (.BoolOp .And (b::rest) pos) e):SE X Ex Y (.BoolOp .And (a::b::rest) pos) (wX d e):=by
 rw[Mi];intro g x E U H Hm F P Q hx R p q;refine WE.of (PD bB bB) (ha g x E U H Hm F _ _ hx R p λE1 k v u H1 Hm1 F1 fp p1 R1 s1 T=>?_);obtain⟨c,rfl,p1⟩:=p1;refine⟨c,T.own.bool,?_⟩;cases c with
 |true=>exact qY (hb g x E1 U H1 Hm1 F1 P Q hx R1 p1 λE' k v u H' Hm' F' fp p' R' s' T'=>q _ _ _ _ _ _ _ _ p' R' (s1.trans s') T')
 |false=>exact qy (q _ _ _ _ _ _ _ [] p1 R1 s1 (Tm.sh (.bl false)))
def QJ(ha:SE X Ex Y a d):SE X Ex Y (.UnaryOp .Not a pos) (mK d):=by rw[Dk];intro g x E U H Hm F P Q hx R p q;refine WE.of (Nl bB) (ha g x E U H Hm F _ _ hx R p λE1 k v u H1 Hm1 F1 fp p1 R1 s1 T=>?_);obtain⟨c,hc,p1⟩:=p1;exact⟨c,T.own.lZ R1.sub hc,q _ _ _ _ _ _ _ [] p1 R1 s1 (Tm.sh (.bl _))⟩
def oW(ha:bO X Ex Y a d):bO X Ex Y (.UnaryOp .Not a pos) (mK d):=by rw[Dk];intro g x E U H Hm F P Q hx R p q;refine WT.of (FU jX) (ha g x E U H Hm F _ _ hx R p λE1 k v H1 Hm1 F1 p1 R1 s1=>?_);obtain⟨c,hc,p1⟩:=p1;obtain⟨b,e1,q'⟩:=q _ _ _ _ _ _ p1 R1 s1;refine⟨c,hc,?_⟩;cases e1;exact q'
def WW(X:Cx)(e:Expr):TT:=λU H Q=>∀(whole:Sem Value)(pins:Zn)(s:Shared),Inv X pins U H s->wpAny (model X.prog X.w) X.A (isTrue e X.env whole) (TP X pins U Q) X.xe s
def pw_ww:PW X e (WW X e):=λwh pins s _ _ _ I h=>h wh pins s I
def WW.of(h:PW X e t)(q:t U H Q):WW X e U H Q:=λwh pins s I=>h wh pins s U H Q I q
def rE(X:Cx)(Ex:XK)(Y:A03)(e:Expr)(d:DE):Prop:=
 ∀(g:Gh)(x:XC)(E:En)(U:St)(H Hm:Hp)(F:Nat->Zz)(P:A06)(Q:Bool->Hp->Prop),XL X Ex x g->Rl X.K g E U H Hm F->d x E P->
  (∀E' k v H' Hm' F',P E' k v->Rl X.K g E' U H' Hm' F'->aj Hm Hm'->∃b,lZ v=some b/\Q b H')->WW X e (sel Y U) H Q
def rE.yj(h:rE X Ex Y e d):bO X Ex Y e d:=λg x E U H Hm F P Q hx R p q=>WT.of (PW.pt pw_ww) (h g x E U H Hm F P Q hx R p q)
def lK(h:bO X Ex Y a d):rE X Ex Y (.BoolOp op [a] pos) d:=λg x E U H Hm F P Q hx R p q=>by
 cases op with
 |And=>exact WW.of (pw_and1 jX) (h g x E U H Hm F P Q hx R p q)
 |Or=>exact WW.of (pw_or1 jX) (h g x E U H Hm F P Q hx R p q)
def kH{a b:Expr}{rest:A01}{pos:Pos}{d e:DE}(ha:bO X Ex Y a d)(hb:rE X Ex Y (.BoolOp .Or (b::rest) pos) e):rE X Ex Y (.BoolOp .Or (a::b::rest) pos) (qc d e):=by
 rw[OS];intro g x E U H Hm F P Q hx R p q;refine WW.of (pw_or jX pw_ww) (ha g x E U H Hm F _ _ hx R p λE1 k v H1 Hm1 F1 p1 R1 s1=>?_);obtain⟨c,rfl,p1⟩:=p1;refine⟨c,rfl,?_⟩;cases c with
 |true=>obtain⟨b,e1,q'⟩:=q _ _ _ _ _ _ p1 R1 s1;cases e1;exact qY q'
 |false=>exact qy (hb g x E1 U H1 Hm1 F1 P Q hx R1 p1 λE' k v H' Hm' F' p' R' s'=>q _ _ _ _ _ _ p' R' (s1.trans s'))
def ye(ho:b5 X (compareOp op) (qf λi j=>.bl (f i j)))(ho':b5 X (compareOp op') (qf λi j=>.bl (f' i j)))(hm:lastMarks [op,op'] [b,c]=false)(ha:SE X Ex Y a da)(hb:SE X Ex Y b db)(hc:SE X Ex Y c dc):bO X Ex Y (.Compare a [op,op'] [b,c] pos) (pC f f' da db dc):=by rw[Il];intro g x E U H Hm F P Q hx R p q;refine WT.of (JI ho ho' bB bB bB hm) (ha g x E U H Hm F _ _ hx R p λE1 k1 v1 u1 H1 Hm1 F1 fp1 p1 R1 s1 T1=>?_);obtain⟨i,rfl,p1⟩:=p1;cases T1.own.int;refine hb g x E1 U H1 Hm1 F1 _ _ hx R1 p1 λE2 k2 v2 u2 H2 Hm2 F2 fp2 p2 R2 s2 T2=>?_;obtain⟨j,rfl,p2⟩:=p2;cases T2.own.int;refine⟨i,j,rfl,rfl,f i j,rfl,?_⟩;by_cases z:f i j=true;{rw[if_pos z]at p2⊢;refine hc g x E2 U H2 Hm2 F2 _ _ hx R2 p2 λE3 k3 v3 u3 H3 Hm3 F3 fp3 p3 R3 s3 T3=>?_;obtain⟨k,rfl,p3⟩:=p3;cases T3.own.int;obtain⟨b',e1,q'⟩:=q _ _ _ _ _ _ p3 R3 (s1.trans (s2.trans s3));cases e1;exact⟨j,k,rfl,rfl,_,rfl,q'⟩};rw[if_neg z]at p2⊢;obtain⟨b',e1,q'⟩:=q _ _ _ _ _ _ p2 R2 (s1.trans s2);cases e1;exact⟨_,rfl,q'⟩
def EJ(hc:ST X Ex Y c t)(ha:SE X Ex Y a d)(hb:SE X Ex Y b e):SE X Ex Y (.IfExp c a b pos) (zK t d e):=by
 rw[QV];intro g x E U H Hm F P Q hx R p q;refine WE.of (JO jX bB bB) (hc g x E U H Hm F _ _ hx R p λE1 b H1 Hm1 F1 p1 R1 s1=>?_);cases b with
 |true=>exact qY (ha g x E1 U H1 Hm1 F1 P Q hx R1 (by simpa using p1) λE' k v u H' Hm' F' fp p' R' s' T'=>q _ _ _ _ _ _ _ _ p' R' (s1.trans s') T')
 |false=>exact qy (hb g x E1 U H1 Hm1 F1 P Q hx R1 (by simpa using p1) λE' k v u H' Hm' F' fp p' R' s' T'=>q _ _ _ _ _ _ _ _ p' R' (s1.trans s') T')
def Uk{i j:Nat}(h:PE X e (pO j))(hj:Y[j]?=some i)(he:∀whole,isTrue e X.env whole=(do let v <-whole;standAt e.pos;holding [v] (truthy v))):ST X Ex Y e (CD i):=by
 intro g x E U H Hm F P Q hx R p q;replace p:Ht E i P:=p;unfold Ht at p;split at p
 rotate_left
 .exact p.elim
 rename_i k d e1;rw[dh,<-DV]at p;obtain⟨hk,b,ht,p⟩:=p;obtain⟨v,h1,h2⟩:=R.slot i k d e1;exact WT.of (zD h he) ⟨v,fJ hj h1,b,h2.lZ R.sub ht,q _ _ _ _ _ p R (aj.refl _)⟩
def rB(ha:ST X Ex Y a t):ST X Ex Y (.UnaryOp .Not a pos) (sI t):=by intro g x E U H Hm F P Q hx R p q;exact WT.of (FU jX) (ha g x E U H Hm F _ _ hx R p λE1 b H1 Hm1 F1 p1 R1 s1=>q _ _ _ _ _ p1 R1 s1)
end
def noStar:Expr->Bool
 |.Starred ..=>false
 |_=>true
def bG(h:noStar e=true):starEach (e::es) env=(false,eval e env)::starEach es env:=by cases e<;>first|rfl|cases h
theorem fT:∀{es:A01},es.all noStar=true->(backTo pos (starEach es env)).any (·.1)=false
 |[],_=>rfl
 |e::es,h=>by rw[VP,V9]at h;rw[bG h.1];show(false||(backTo pos (starEach es env)).any (·.1))=false;rw[fT h.2];rfl
section
variable{X:Cx}{Ex:XK}{Y:A03}
theorem d9:∀{es:A01},es.all noStar=true->PA X es (vN X es)
 |[],_=>mF
 |e::es,h=>by rw[VP,V9]at h;exact ia bB (d9 h.2) (bG h.1)
def f7{x:Str}{id:String}{p pos:Pos}{e:Expr}{es:A01}{as:List Arg}{f:DR}{r:List V->Hp->VK->Prop}(hc:cu X (.builtin id) r)(D:c7 X.K f r)(hg:Gl X x)(hm:X.mg x=none)(hv:bootBuiltins x=some (.builtin id))(hn:x≠"__name__")(hd:(x==("__debug__":Str))=false)(ns:(e::es).all noStar=true)(S:aV X Ex Y (e::es) as):SE X Ex Y (.Call (.Name x p) (e::es) [] pos) (ah f as):=
 fR S (λU H Q h=>WE.of (mQ hc hg hm hv (d9 ns) hn hd (bG (by rw[VP,V9]at ns;exact ns.1)) (fT (by rw[VP,V9]at ns;exact ns.2))) h) D
def yd(hc:cu X (.type T) r)(D:c7 X.K f r)(hg:Gl X x)(hm:X.mg x=none)(hv:bootBuiltins x=some (.type T))(hn:x≠"__name__")(hd:(x==("__debug__":Str))=false)(ns:(e::es).all noStar=true)(S:aV X Ex Y (e::es) as):SE X Ex Y (.Call (.Name x p) (e::es) [] pos) (ah f as):=
 fR S (λU H Q h=>WE.of (kB hc hg hm hv (d9 ns) hn hd (bG (by rw[VP,V9]at ns;exact ns.1)) (fT (by rw[VP,V9]at ns;exact ns.2))) h) D
def bW:DR:=λds P=>ds.length<=sizeLine/\P (.ow false) (.list ds)
def jF:DR:=λds P=>ds.length<=sizeLine/\P .sh (.tuple ds)
def ME:c7 K bW λxs H Q=>xs.length<=sizeLine/\∀p,H p=none->Q (.ref p) (upd H p (.lst xs)):=λH Hm vs ds P Q s r h q=>⟨by rw[r.len];exact h.1,λp hp=>bP.nl q s h.2 hp r⟩
def MG:c7 K jF λxs H Q=>xs.length<=sizeLine/\∀p,H p=none->Q (.ref p) (upd H p (.tup xs)):=λH Hm vs ds P Q s r h q=>⟨by rw[r.len];exact h.1,λp hp=>bP.nt q s h.2 hp r⟩
def PX(ns:es.all noStar=true)(S:aV X Ex Y es as):SE X Ex Y (.List es pos) (ah bW as):=fR S (λU H Q h=>WE.of (OA (d9 ns)) h) ME
def QI{k:Nat}(ns:es.all noStar=true)(S:aV X Ex Y es as):SE X Ex Y (.Tuple es k pos) (ah jF as):=fR S (λU H Q h=>WE.of (Rw (d9 ns)) h) MG
def JY:DR:=λds P=>match ds with
 |[.list xs]=>P .sh (.int xs.length)
 |[.tuple xs]=>P .sh (.int xs.length)
 |_=>False
def Mn:c7 K JY λxs H Q=>∃p ys,xs=[.ref p]/\(cz K H p ys\/cG K H p ys)/\Q (.int ys.length) H:=by
 intro H Hm vs ds P Q s r h q;unfold JY at h;split at h
 .obtain⟨x,rfl,h1⟩:=ee r;cases h1 with
  |lst a r1=>exact⟨_,_,rfl,.inl (cP.mono s a).sq,by rw[r1.len];exact bP.sc q s h (.int _)⟩
 .obtain⟨x,rfl,h1⟩:=ee r;cases h1 with
  |tup a r1=>exact⟨_,_,rfl,.inr (cG.of (s _ _ a)),by rw[r1.len];exact bP.sc q s h (.int _)⟩
 exact h.elim
def jm:DR:=λds P=>match ds with
 |[.list xs]=>P (.ow false) (.list xs)
 |[.tuple xs]=>P (.ow false) (.list xs)
 |_=>False
def Kn:c7 K jm λxs H Q=>∃p ys,xs=[.ref p]/\(cz K H p ys\/cG K H p ys)/\∀l,H l=none->Q (.ref l) (upd H l (.lst ys)):=by
 intro H Hm vs ds P Q s r h q;unfold jm at h;split at h
 .obtain⟨x,rfl,h1⟩:=ee r;cases h1 with
  |lst a r1=>exact⟨_,_,rfl,.inl (cP.mono s a).sq,λp hp=>bP.nl q s h hp r1⟩
 .obtain⟨x,rfl,h1⟩:=ee r;cases h1 with
  |tup a r1=>exact⟨_,_,rfl,.inr (cG.of (s _ _ a)),λp hp=>bP.nl q s h hp r1⟩
 exact h.elim
def kJ:DR:=λds P=>match ds with
 |[.list xs]=>P .sh (.tuple xs)
 |[.tuple xs]=>P .sh (.tuple xs)
 |_=>False
def Hy:c7 K kJ λxs H Q=>∃p ys,xs=[.ref p]/\((cz K H p ys/\∀l,H l=none->Q (.ref l) (upd H l (.tup ys)))\/(cG K H p ys/\Q (.ref p) H)):=by
 intro H Hm vs ds P Q s r h q;unfold kJ at h;split at h
 .obtain⟨x,rfl,h1⟩:=ee r;cases h1 with
  |lst a r1=>exact⟨_,_,rfl,.inl ⟨(cP.mono s a).sq,λp hp=>bP.nt q s h hp r1⟩⟩
 .obtain⟨x,rfl,h1⟩:=ee r;cases h1 with
  |tup a r1=>exact⟨_,_,rfl,.inr ⟨cG.of (s _ _ a),bP.sc q s h (.tup a r1)⟩⟩
 exact h.elim
def uH:DR:=pY λi j=>.int (if j<i then j else i)
def vz:DR:=pY λi j=>.int (if j>i then j else i)
def Lz{f:Int->Int->Int}:c7 K (pY λi j=>.int (f i j)) λxs H Q=>∃i j,xs=[.int i,.int j]/\Q (.int (f i j)) H:=by intro H Hm vs ds P Q s r h q;refine v8 h λa b e p=>?_;subst e;obtain⟨x,y,rfl,h1,h2⟩:=jG r;cases h1;cases h2;exact⟨a,b,rfl,bP.sc q s p (.int _)⟩
def BC:DR:=λds P=>match ds with
 |[.int i]=>P .sh (.int (if i<0 then-i else i))
 |_=>False
def Nq:c7 K BC λxs H Q=>∃i,xs=[.int i]/\Q (.int (if i<0 then-i else i)) H:=by intro H Hm vs ds P Q s r h q;unfold BC at h;split at h;{obtain⟨x,rfl,h1⟩:=ee r;cases h1;exact⟨_,rfl,bP.sc q s h (.int _)⟩};exact h.elim
def HW:DR:=λds P=>match ds with
 |[.int i]=>P .sh (.int i)
 |[.bool k]=>P .sh (.int (if k then 1 else 0))
 |_=>False
theorem l5:∀{vs:List V}{ns:A04},aC K H vs (ns.map PyData.int)->vs=ns.map V.int
 |_,[],h=>by cases h;rfl
 |_,n::ns,h=>by
  cases h with
  |cons h t=>cases h;rw[l5 t];rfl
theorem mz:∀(ns:A04),aC K H (ns.map V.int) (ns.map PyData.int)
 |[]=>.nil
 |n::ns=>.cons (.int n) (mz ns)
theorem qG:∀{vs:List V}{ns:A00},aC K H vs (ns.map PyData.bool)->vs=ns.map V.bl
 |_,[],h=>by cases h;rfl
 |_,n::ns,h=>by
  cases h with
  |cons h t=>cases h;rw[qG t];rfl
def gU(h:Rp K H x (.list ds)):∃a xs,x=.ref a/\cP K H a xs/\aC K H xs ds:=by
 cases h with
 |lst a r=>exact⟨_,_,rfl,a,r⟩
def DH:DR:=λds P=>∃ns:A04,ds=[.list (ns.map .int)]/\P .sh (.int ns.sum)
def M1:c7 K DH λxs H Q=>∃(a:Addr)(ns:A04),xs=[.ref a]/\cz K H a (ns.map V.int)/\Q (.int ns.sum) H:=by rintro H Hm vs ds P Q s r⟨ns,rfl,h⟩q;obtain⟨x,rfl,h1⟩:=ee r;obtain⟨a,xs,rfl,ha,r1⟩:=gU h1;cases l5 r1;exact⟨a,ns,rfl,(cP.mono s ha).sq,bP.sc q s h (.int _)⟩
def ER:DR:=λds P=>∃bs:A00,ds=[.list (bs.map .bool)]/\P .sh (.bool (bs.any id))
def wU:DR:=λds P=>∃bs:A00,ds=[.list (bs.map .bool)]/\P .sh (.bool (bs.all id))
def Mp:c7 K ER λxs H Q=>∃(a:Addr)(bs:A00),xs=[.ref a]/\cz K H a (bs.map V.bl)/\Q (.bl (bs.any id)) H:=by rintro H Hm vs ds P Q s r⟨ns,rfl,h⟩q;obtain⟨x,rfl,h1⟩:=ee r;obtain⟨a,xs,rfl,ha,r1⟩:=gU h1;cases qG r1;exact⟨a,ns,rfl,(cP.mono s ha).sq,bP.sc q s h (.bl _)⟩
def MD:c7 K wU λxs H Q=>∃(a:Addr)(bs:A00),xs=[.ref a]/\cz K H a (bs.map V.bl)/\Q (.bl (bs.all id)) H:=by rintro H Hm vs ds P Q s r⟨ns,rfl,h⟩q;obtain⟨x,rfl,h1⟩:=ee r;obtain⟨a,xs,rfl,ha,r1⟩:=gU h1;cases qG r1;exact⟨a,ns,rfl,(cP.mono s ha).sq,bP.sc q s h (.bl _)⟩
def lX:DR:=λds P=>∃ns:A04,ds=[.list (ns.map .int)]/\ns.length<64/\∀ms:A04,ms.Perm ns->ms.Pairwise (·<=·)->P (.ow false) (.list (ms.map .int))
def Hu:c7 K lX λxs H Q=>∃(a:Addr)(ns:A04),xs=[.ref a]/\cz K H a (ns.map V.int)/\ns.length<64/\∀(ms:A04)(p:Addr),ms.Perm ns->ms.Pairwise (·<=·)->H p=none->Q (.ref p) (upd H p (.lst (ms.map V.int))):=by rintro H Hm vs ds P Q s r⟨ns,rfl,hn,h⟩q;obtain⟨x,rfl,h1⟩:=ee r;obtain⟨a,xs,rfl,ha,r1⟩:=gU h1;cases l5 r1;exact⟨a,ns,rfl,(cP.mono s ha).sq,hn,λms p m1 m2 hp=>bP.nl q s (h ms m1 m2) hp (mz ms)⟩
def pD(p:Int×Int):PyData:=.tuple [.int p.1,.int p.2]
inductive CK(vs:List V)(H:Hp)(Q:VK):Prop
 |mk:∀j:Int,(vs=[.int j])->(∀p,H p=none->0<=j/\j<=1000/\∀l,upd H p (.sX 0 j) l=none->Q (.ref l) (upd (upd H p (.sX 0 j)) l (.lst (((List.range j.toNat).map λi:Nat=>(i:Int)).map V.int))))->CK vs H Q
def Gi:List V->Hp->VK->Prop:=λvs H Q=>CK vs H Q
def iG:DR:=λds P=>match ds with
 |[.int j]=>(0<=j/\j<=1000)/\P (.ow false) (.list (k8 0 j.toNat))
 |_=>False
def MN(n:Nat):aC K H (((List.range n).map λi:Nat=>(i:Int)).map V.int) (k8 0 n):=by have:=mz (K:=K) (H:=H) ((List.range n).map λi:Nat=>(i:Int));rw[VR (l:=List.range n) (g:=PyData.int)]at this;unfold k8;rw[show(λi:Nat=>PyData.int (0+i))=PyData.int∘λi:Nat=>(i:Int)from funext λi=>by simp];exact this
def Ho:c7 K iG Gi:=by intro H Hm vs ds P Q s r h q;unfold iG at h;split at h;{obtain⟨x,rfl,h1⟩:=ee r;cases h1;rename_i j;refine⟨j,rfl,λp hp=>⟨h.1.1,h.1.2,λl hl=>?_⟩⟩;have s1:=cE (o:=.sX 0 j) hp;have s2:=cE (o:=.lst (((List.range j.toNat).map λi:Nat=>(i:Int)).map V.int)) hl;refine q _ _ _ _ Hm [l] h.2 (s1.trans s2) (aj.refl _) (s.trans (s1.trans s2)) (λ_ _=>.inl rfl) (.ow aQ (MN _)) λa ha=>?_;rw[VB.mp ha];have:H l=none:=s1.free hl;exact⟨this,j7 s this⟩};exact h.elim
def JF(hc:X.calm=true)(g1:Gl X "list")(m1:X.mg "list"=none)(g2:Gl X "range")(m2:X.mg "range"=none)(ns:noStar a=true)(S:aV X Ex Y [a] as) : SE X Ex Y (.Call (.Name "list" p1) [.Call (.Name "range" p2) [a] [] pos2] [] pos) (ah iG as):=
 fR (r:=Gi) S (λU H Q h=>WE.of (kB (Ei hc) g1 m1 ZO (ia (kB BO g2 m2 PyProof.Rows.boot_range (d9 (es:=[a]) (by rw[VP,ns];rfl)) (by decide) (by decide) (bG ns) (by rfl)) mF)) (by
  refine λpins s I=>aT (h pins s I) λv s1 ⟨x,H1,I1,r1,j,e,q⟩=>⟨x,H1,I1,r1,?_⟩
  cases e;refine⟨j,rfl,λp hp=>?_⟩
  obtain⟨q1,q2,q3⟩:=q p hp;exact⟨p,j,rfl,aQ,q1,q2,q3⟩)) Ho
end
inductive Ag(K:Frag)(H Hm:Hp):A00->List V->Zw->Zz->Prop
 |nil:Ag K H Hm [] [] [] []
 |sh {ms:A00}{vs:List V}{ds:Zw}{as:Zz}{v:V}{d:PyData}:Rp K Hm v d->Ag K H Hm ms vs ds as->Ag K H Hm (false::ms) (v::vs) (d::ds) as
 |mu {ms:A00}{vs:List V}{ds:Zw}{as:Zz}{a:Addr}{xs:List V}{es:Zw}:H a=some (.lst xs)->aC K Hm xs es->Hm a=none->a∉as->Ag K H Hm ms vs ds as->Ag K H Hm (true::ms) (.ref a::vs) (.list es::ds) (a::as)
inductive Bk(K:Frag)(H Hm:Hp):Zz->Zw->Prop
 |nil:Bk K H Hm [] []
 |cons {a:Addr}{xs:List V}{es:Zw}{as:Zz}{us:Zw}:H a=some (.lst xs)->aC K Hm xs es->Hm a=none->Bk K H Hm as us->Bk K H Hm (a::as) (.list es::us)
def cC(mg:Zm)(K:Frag)(ms:A00)(sp:bF):Sp:=λvs H Q Ex=>∃(ds:Zw)(as:Zz)(Hm:Hp)(P:Zw->Kd->PyData->Prop)(x:XC),aj Hm H/\Ag K H Hm ms vs ds as/\sp ds P x /\
 (∀us k r u H' Hm' fp,P us k r->aj Hm Hm'->aj Hm' H'->(∀p o,p∉as->H p=some o->H' p=some o)->(∀a,a∉as->H a≠none->OE (Hm' a) (Hm a))->Bk K H' Hm' as us->Own K H' Hm' k u r fp->(∀a∈fp,H a=none/\Hm' a=none)->Q u H') /\
 (∀c d C a H',mg c=some (.ref C)->x c d->(∀p o,p∉as->H p=some o->H' p=some o)->H' a=some (.ext (fP a C none))->H a=none->Ex (.ref C) (some a) H')
section
variable{K:Frag}{g:Gh}{U:St}
def Sa{F:Nat->Zz}(R:Rl K g E U H Hm F)(s:aj Hm Hm1):∀{ms:A00}{as:List Arg}{os:A07}{vs:List V}{ds:Zw},Got K U Hm as os vs->fill as E os=some ds->shape ms as=true->(lent ms as).Nodup->(∀i∈lent ms as,∃p es,E[i]?=some (some (.ow p,.list es)))->(∀i∈kept ms as,∀a∈F i,Hm1 a=H a)->(∀i∈lent ms as,∀a∈F i,Hm1 a=none)->∃ix:List (Nat×Addr),ix.map (·.1)=lent ms as/\Ag K H Hm1 ms vs ds (ix.map (·.2))/\∀q∈ix,U[q.1]?=some (some (.ref q.2))/\F q.1=[q.2]:=by
 intro ms as os vs ds G;induction G generalizing ms ds with
 |nil=>
  intro h sh nd hl hk hn;cases ms with
  |nil=>cases h;exact⟨[],rfl,.nil,λ_ z=>by cases z⟩
  |cons b ms=>cases b<;>cases sh
 |@pk i v as os vs hv G ih=>
  intro h sh nd hl hk hn;cases ms with
  |nil=>cases sh
  |cons b ms=>
   cases b with
   |false=>
    rw[fill]at h;split at h
    .rename_i k d e;by_cases hr:k.rd=true
     .rw[if_pos hr]at h;cases hf:fill as E os with
      |none=>rw[hf]at h;cases h
      |some es=>rw[hf]at h;cases h;obtain⟨v',h1,h2⟩:=R.slot i k d e;rw[hv]at h1;cases h1;obtain⟨ix,e1,e2,e3⟩:=ih (ms:=ms) hf sh nd hl (λj hj=>hk j (V5 _ hj)) hn;exact⟨ix,e1,.sh (h2.rp hr s (hk i V1)) e2,e3⟩
     rw[if_neg hr]at h;cases h
    cases h
   |true=>
    rw[fill]at h;obtain⟨p,es0,e0⟩:=hl i V1;rw[e0]at h;have h:(if(Kd.ow p).rd=true then(fill as E os).map (PyData.list es0::·)else none)=some _:=h;rw[if_pos (show(Kd.ow p).rd=true from rfl)]at h;cases hf:fill as E os with
    |none=>rw[hf]at h;cases h
    |some es=>
     rw[hf]at h;cases h;obtain⟨v',h1,h2⟩:=R.slot i _ _ e0;rw[hv]at h1;cases h1;have nd':=Vi.mp (show(i::lent ms as).Nodup from nd);obtain⟨ix,e1,e2,e3⟩:=ih (ms:=ms) hf sh nd'.2 (λj hj=>hl j (V5 _ hj)) hk (λj hj=>hn j (V5 _ hj));have hFi:=hn i V1;generalize hF:F i=fi at h2 hFi;cases h2 with
     |@ow _ a xs _ ha hr=>refine⟨(i,a)::ix,?_,.mu ha (hr.mono s) (hFi a V1) ?_ e2,?_⟩;{show i::ix.map (·.1)=i::lent ms as;rw[e1]};{intro m;obtain⟨q,hq,rfl⟩:=V6.mp m;have:=R.aW i q.1 q.2 (by rw[hF];exact V1) (by rw[(e3 q hq).2];exact V1);exact nd'.1 (e1▸(this▸V6.mpr ⟨q,hq,rfl⟩))};intro q hq;rcases V7.mp hq with rfl|hq;{exact⟨hv,hF⟩};exact e3 q hq
 |@ev d0 v u as os vs r G ih=>
  intro h sh nd hl hk hn;cases ms with
  |nil=>cases sh
  |cons b ms=>
   cases b with
   |true=>cases sh
   |false=>
    rw[fill]at h;cases hf:fill as E os with
    |none=>rw[hf]at h;cases h
    |some es=>rw[hf]at h;cases h;obtain⟨ix,e1,e2,e3⟩:=ih (ms:=ms) hf sh nd hl hk hn;exact⟨ix,e1,.sh (r.mono s) e2,e3⟩
theorem pK:∀{ms:A00}{as:List Arg}{us:Zw}{E E2:En},t9 ms as us E=some E2->(lent ms as).Nodup->E2.length=E.length/\(∀j,j∉lent ms as->E2[j]?=E[j]?)/\(lent ms as).length=us.length /\ ∀(n i:Nat)(u:PyData),(lent ms as)[n]?=some i->us[n]?=some u->∃p es es',u=.list es'/\E[i]?=some (some (.ow p,.list es))/\E2[i]?=some (some (.ow p,.list es'))
 |[],[],[],E,E2,h,_=>by cases h;exact⟨rfl,λ_ _=>rfl,rfl,λ_ _ _ z=>by cases z⟩
 |[],[],_::_,E,E2,h,_=>by cases h
 |[],_::_,_,E,E2,h,_=>by cases h
 |false::ms,.pk j::r,us,E,E2,h,nd=>pK (ms:=ms) (as:=r) (us:=us) h nd
 |false::ms,.ev _::r,us,E,E2,h,nd=>pK (ms:=ms) (as:=r) (us:=us) h nd
 |false::ms,[],us,E,E2,h,_=>by cases h
 |true::ms,[],us,E,E2,h,_=>by cases h
 |true::ms,.ev _::r,us,E,E2,h,_=>by cases h
 |true::ms,.pk i::r,[],E,E2,h,_=>by cases h
 |true::ms,.pk i::r,u::us,E,E2,h,nd=>by
  rw[t9]at h;obtain⟨n1,n2⟩:=Vi.mp (show(i::lent ms r).Nodup from nd);split at h
  .rename_i p es e;by_cases hu:Cj u=true
   .rw[if_pos hu]at h;cases u with
    |list es'=>
     have li:i<E.length:=by rcases Vt i E.length with h|h;{exact h};rw[Vr h]at e;cases e
     obtain⟨l1,g1,l2,g2⟩:=pK (ms:=ms) (as:=r) (us:=us) h n2;rw[Vs]at l1;refine⟨l1,λj hj=>?_,congrArg (·+1) l2,λn j v h1 h2=>?_⟩;{have hj':j∉lent ms r:=λz=>hj (V5 _ z);have hne:i≠j:=λz=>hj (z▸V1);rw[g1 j hj',aq hne]};cases n with
     |zero=>cases h1;cases h2;exact⟨p,es,es',rfl,e,by rw[g1 i n1,aO li]⟩
     |succ n=>have h1:(lent ms r)[n]?=some j:=h1;have h2:us[n]?=some v:=h2;obtain⟨p',fs,fs',e1,e2,e3⟩:=g2 n j v h1 h2;have hne:i≠j:=λz=>n1 (z▸VZ h1);rw[aq hne]at e2;exact⟨p',fs,fs',e1,e2,e3⟩
    |_=>cases hu
   rw[if_neg hu]at h;cases h
  cases h
theorem Bk.get:∀{as:Zz}{us:Zw}{n:Nat}{a:Addr},Bk K H Hm as us->as[n]?=some a->∃xs es,us[n]?=some (.list es)/\H a=some (.lst xs)/\aC K Hm xs es/\Hm a=none
 |_,_,_,_,.nil,h=>by simp at h
 |_,_,0,_,.cons h1 h2 h3 _,h=>by simp at h;subst h;exact⟨_,_,rfl,h1,h2,h3⟩
 |_,_,n+1,_,.cons _ _ _ t,h=>t.get (n:=n) (by simpa using h)
def E9{E E2 E3:En}{H H' Hm Hm2:Hp}{F:Nat->Zz}{is:A03}{ix:List (Nat×Addr)}{us:Zw}{k:Kd}{u:V}{v:PyData}{fp:Zz}(R:Rl K g E U H Hm F)(hix:∀q∈ix,U[q.1]?=some (some (.ref q.2))/\F q.1=[q.2])(hik:∀q∈ix,q.1∉is)(l2:E2.length=E.length)(hs:∀j,j∉ix.map (·.1)->E2[j]?=E[j]?)(hu:∀q∈ix,∃p es xs' es',PyData.list es'∈us/\E[q.1]?=some (some (.ow p,.list es))/\E2[q.1]?=some (some (.ow p,.list es'))/\H' q.2=some (.lst xs')/\aC K Hm2 xs' es'/\Hm2 q.2=none)(hE:(if(flat k v&&us.all (flat (.ow false)))=true then some E2 else eE is E2)=some E3)(s1:aj (lend Hm H (is.flatMap F)) Hm2)(s2:aj Hm2 H')(sH:∀p o,p∉ix.map (·.2)->H p=some o->H' p=some o)(old:∀a,a∉ix.map (·.2)->H a≠none->OE (Hm2 a) (lend Hm H (is.flatMap F) a))(o:Own K H' Hm2 k u v fp)(fr:∀a∈fp,H a=none/\Hm2 a=none) : ∃Hm' F',Rl K g E3 U H' Hm' F'/\aj Hm Hm'/\Tm K g F' H' Hm' k u v fp:=by
 have mem:∀{a i},a∈F i->i∈is->a∈is.flatMap F:=λha hi=>Vq.mpr ⟨_,hi,ha⟩;have off:∀a∈is.flatMap F,Hm a=none:=λa ha=>by obtain⟨i,_,h⟩:=Vq.mp ha;exact R.off i a h
 have up:aj Hm (lend Hm H (is.flatMap F)):=jM off;have bI:∀{i a},a∈F i->H a≠none:=λha z=>by obtain⟨u,hu,_⟩:=R.bI _ _ ha;rw[z]at hu;cases hu
 have own:∀q∈ix,q.2∈F q.1:=λq hq=>by rw[(hix q hq).2];exact V1
 have lentF:∀{i a},a∈F i->a∈ix.map (·.2)->i∈ix.map (·.1):=λ{i a} ha m=>by obtain⟨q,hq,rfl⟩:=V6.mp m;exact V6.mpr ⟨q,hq,(R.aW i q.1 q.2 ha (own q hq)).symm⟩
 have lis:∀a,a∈ix.map (·.2)->a∉is.flatMap F:=λa m z=>by obtain⟨q,hq,rfl⟩:=V6.mp m;obtain⟨i,hi,h⟩:=Vq.mp z;exact hik q hq (R.aW i q.1 q.2 h (own q hq)▸hi)
 have nfp:∀a∈fp,∀i,a∉F i:=λa ha i=>R.fresh (fr a ha).1;have m2:∀{a},H a≠none->a∉is.flatMap F->(a∉ix.map (·.2)/\OE (Hm2 a) (Hm a))\/(a∈ix.map (·.2)/\Hm2 a=none):=λ{a} h c=>by by_cases z:a∈ix.map (·.2);{obtain⟨q,hq,rfl⟩:=V6.mp z;obtain⟨_,_,_,_,_,_,_,_,_,e⟩:=hu q hq;exact .inr ⟨z,e⟩};refine .inl ⟨z,?_⟩;have h':=old a z h;rw[dQ c]at h';exact h'
 have offI:∀{i a},a∈F i->a∉is.flatMap F->Hm2 a=none:=λ{i a} ha c=>by rcases m2 (bI ha) c with⟨z,e⟩|⟨_,e⟩;{obtain⟨w,hw,nt⟩:=R.bI i a ha;exact e.off (R.off i a ha) s2 (sH a w z hw) nt};exact e
 have od:∀{a},g.H0 a≠none->a∉is.flatMap F->OE (Hm2 a) (g.jA a):=λ{a} h c=>by rcases m2 (R.rR h) c with⟨_,e⟩|⟨z,e⟩;{exact e.trans (R.old a h)};obtain⟨q,hq,rfl⟩:=V6.mp z;have h':=R.old _ h;rw[R.off q.1 q.2 (own q hq)]at h';rw[e];exact h'
 have hliv:∀{i a},a∈F i->∃w,H' a=some w/\sO w:=λ{i a} ha=>by by_cases z:a∈ix.map (·.2);{obtain⟨q,hq,rfl⟩:=V6.mp z;obtain⟨_,_,_,_,_,_,_,e,_,_⟩:=hu q hq;exact⟨_,e,o9⟩};obtain⟨w,hw,nt⟩:=R.bI i a ha;exact⟨w,sH a w z hw,nt⟩
 have keepH:∀{j a},j∉ix.map (·.1)->a∈F j->H' a=H a:=λ{j a} hj ha=>by obtain⟨w,hw,_⟩:=R.bI j a ha;rw[hw];exact sH a w (λz=>hj (lentF ha z)) hw
 have frm:∀p o,p∉g.M->g.H0 p=some o->H' p=some o:=λp o hp ho=>by refine sH p o (λz=>?_) (R.fr p o hp ho);obtain⟨q,hq,rfl⟩:=V6.mp z;rcases R.new q.1 q.2 (own q hq)with y|y;{exact hp y};rw[y]at ho;cases ho
 have pinn:∀{E4:En},(∀j,j∉is->E4[j]?=E2[j]?)->(∀j∈is,E4[j]?=E2[j]?\/∃k d,E2[j]?=some (some (k,d))/\k.fz=true)->∀q∈g.pins,U[q.1]?=some (some (.ref q.2))/\∃ds,E4[q.1]?=some (some (.ow true,.list ds)):=λ{E4} h4 h5 q hq=>by
  obtain⟨h1,ds',h2⟩:=R.pin q hq;refine⟨h1,?_⟩;have e2:∃ds,E2[q.1]?=some (some (.ow true,.list ds)):=by by_cases z:q.1∈ix.map (·.1);{obtain⟨q',hq',e⟩:=V6.mp z;obtain⟨p,es,xs',es',_,g1,g2,_⟩:=hu q' hq';rw[e,h2]at g1;cases g1;exact⟨es',e▸g2⟩};exact⟨ds',by rw[hs _ z];exact h2⟩
  obtain⟨ds,e2⟩:=e2;by_cases z:q.1∈is;{rcases h5 _ z with y|⟨k0,d0,y,yk⟩;{exact⟨ds,y.trans e2⟩};rw[e2]at y;cases y;cases yk};exact⟨ds,(h4 _ z).trans e2⟩
 by_cases hf:(flat k v&&us.all (flat (.ow false)))=true
 .rw[if_pos hf]at hE;cases hE;rw[V9,VN]at hf;have st:mV Hm2 (back Hm2 (is.flatMap F)):=λa xs h=>by
   have c:a∉is.flatMap F:=λz=>by obtain⟨i,_,hi⟩:=Vq.mp z;obtain⟨w,hw,nt⟩:=R.bI i a hi;have e2:Hm2 a=some w:=s1 _ _ (by rw[gn z];exact hw);rw[e2]at h;cases h;exact nt xs rfl
   rw[dH c];exact h
  have upB:aj Hm (back Hm2 (is.flatMap F)):=λb o e=>by rw[dH λz=>by rw[off b z]at e;cases e];exact s1 _ _ (up _ _ e)
  have R':Rl K g E2 U H' (back Hm2 (is.flatMap F)) F:={
   len:=l2.trans R.len
   sub:=AZ s2
   slot:=λj k' d' e'=>by
    by_cases z:j∈ix.map (·.1)
    .obtain⟨q,hq,rfl⟩:=V6.mp z;obtain⟨p,es,xs',es',mu,g1,g2,g3,g4,_⟩:=hu q hq;rw[g2]at e';cases e';obtain⟨h1,h2⟩:=hix q hq;exact⟨_,h1,by rw[h2];exact .ow g3 (g4.BD st (hf.2 _ mu))⟩
    .rw[hs j z]at e';obtain⟨v',h1,h2⟩:=R.slot j k' d' e';exact⟨v',h1,h2.step upB λa ha=>keepH z ha⟩
   off:=λi a ha=>by
    by_cases c:a∈is.flatMap F
    .exact jT c
    .rw[dH c];exact offI ha c
   bI:=λi a ha=>hliv ha
   aW:=R.aW
   fr:=frm
   new:=R.new
   pin:=pinn (λj _=>rfl) λj _=>.inl rfl
   old:=λa ha=>by
    by_cases c:a∈is.flatMap F
    .have h':=R.old a ha;rw[off a c]at h';rw[jT c];exact h'
    .rw[dH c];exact od ha c }
  refine⟨_,F,R',upB,⟨o.flat st hf.1,λa ha=>?_,nfp,λa ha=>R.gK (fr a ha).1⟩⟩;by_cases c:a∈is.flatMap F;{exact jT c};rw[dH c];exact(fr a ha).2
 rw[if_neg hf]at hE;obtain⟨l3,g3⟩:=pT hE;have R':Rl K g E3 U H' Hm2 (λj=>if j∈is then []else F j):={
  len:=l3.trans (l2.trans R.len)
  sub:=s2
  slot:=λj k' d' e'=>by
   by_cases c:j∈is
   .obtain⟨k0,d0,e0,hk0,e1⟩:=(g3 j).2 c;rw[e1]at e';cases e';have z:j∉ix.map (·.1):=λz=>by
     obtain⟨q,hq,rfl⟩:=V6.mp z;exact hik q hq c
    rw[hs j z]at e0;obtain⟨v',h1,h2⟩:=R.slot j k0 _ e0;refine⟨v',h1,?_⟩;rw[if_pos c];exact .sh ((h2.rp (by cases k0<;>first|rfl|cases hk0) up λa ha=>gn (mem ha c)).mono s1)
   .rw[(g3 j).1 c]at e';rw[if_neg c]
    by_cases z:j∈ix.map (·.1)
    .obtain⟨q,hq,rfl⟩:=V6.mp z;obtain⟨p,es,xs',es',mu,g1,g2,g4,g5,_⟩:=hu q hq;rw[g2]at e';cases e';obtain⟨h1,h2⟩:=hix q hq;exact⟨_,h1,by rw[h2];exact .ow g4 g5⟩
    .rw[hs j z]at e';obtain⟨v',h1,h2⟩:=R.slot j k' d' e';exact⟨v',h1,h2.step (up.trans s1) λa ha=>keepH z ha⟩
  off:=λj a ha=>by
   by_cases c:j∈is
   .rw[if_pos c]at ha;cases ha
   .rw[if_neg c]at ha;exact offI ha λz=>by
     obtain⟨i,hi,h⟩:=Vq.mp z;exact c (R.aW i j a h ha▸hi)
  bI:=λj a ha=>by
   by_cases c:j∈is
   .rw[if_pos c]at ha;cases ha
   .rw[if_neg c]at ha;exact hliv ha
  aW:=λj l a h1 h2=>by
   by_cases c:j∈is
   .rw[if_pos c]at h1;cases h1
   .rw[if_neg c]at h1
    by_cases c':l∈is
    .rw[if_pos c']at h2;cases h2
    .rw[if_neg c']at h2;exact R.aW j l a h1 h2
  fr:=frm
  new:=λj a ha=>by
   by_cases c:j∈is
   .rw[if_pos c]at ha;cases ha
   .rw[if_neg c]at ha;exact R.new j a ha
  pin:=pinn (λj hj=>(g3 j).1 hj) λj hj=>by
   obtain⟨k0,d0,e0,hk0,_⟩:=(g3 j).2 hj;exact .inr ⟨k0,d0,e0,hk0⟩
  old:=λa ha=>by
   refine od ha λz=>?_
   obtain⟨i,hi,h⟩:=Vq.mp z;obtain⟨k0,d0,e0,hk0,_⟩:=(g3 i).2 hi;have zi:i∉ix.map (·.1):=λz=>by
    obtain⟨q,hq,rfl⟩:=V6.mp z;exact hik q hq hi
   rw[hs i zi]at e0;exact ha (R.notM e0 (by cases k0<;>first|rfl|(rename_i p;cases p<;>first|rfl|cases hk0)|cases hk0) h) }
 refine⟨Hm2,_,R',up.trans s1,⟨o,λa ha=>(fr a ha).2,λa ha i=>?_,λa ha=>R.gK (fr a ha).1⟩⟩;by_cases c:i∈is;{rw[if_pos c];simp};rw[if_neg c];exact nfp a ha i
end
section
variable{X:Cx}{Ex:XK}{Y:A03}
def NY{x:Str}{k:Nat}{ps:A05}{ms:A00}{sp:bF}{p pos:Pos}{e:Expr}{es:A01}{as:List Arg}(F:bV X.prog X.w X.K X.mg X.base k x ps (cC X.mg X.K ms sp))(hp:Passes (fO X.prog X.w) X Ex)(hr:dM k X.A)(hg:Gl X x)(hd:(x==("__debug__":Str))=false)(ns:(e::es).all noStar=true)(S:aV X Ex Y (e::es) as):SE X Ex Y (.Call (.Name x p) (e::es) [] pos) (aG sp ms as):=by
 intro g xc E U H Hm Fo P Q hx R h q;obtain⟨f,fd,h1,h2,h3,h4⟩:=F;refine WE.of (Nb (E:=Ex) h4 hr hg h1 h2 h3 .nil hp (d9 ns) hd (bG (by rw[VP,V9]at ns;exact ns.1)) (fT (by rw[VP,V9]at ns;exact ns.2))) ?_;refine kC hx S R h λE1 os vs H1 Hm1 F1 p R1 s1 G=>?_;replace p:GQ sp ms as xc E1 os P:=p;unfold GQ at p;rw[<-bw,e7]at p;obtain⟨ds,hf,p⟩:=p;rw[dh,Kq]at p;obtain⟨hl,hsp⟩:=p;unfold A0 at hl;rw[V9,V9,W2,VN]at hl;obtain⟨⟨l1,l2⟩,l3⟩:=hl;have hlent:∀i∈lent ms as,i∉kept ms as/\∃p es,E1[i]?=some (some (.ow p,.list es)):=λi hi=>by have:=l3 i hi;rw[V9]at this;refine⟨λz=>?_,?_⟩;{have y:=this.1;rw[Xa,XI]at y;simp[z]at y};have y:=this.2;split at y;{rename_i p es e;exact⟨p,es,e⟩};cases y
 have off:∀a∈(kept ms as).flatMap F1,Hm1 a=none:=λa ha=>by obtain⟨i,_,h⟩:=Vq.mp ha;exact R1.off i a h
 have up:=jM (Hm:=Hm1) (H:=H1) off;obtain⟨ix,e1,e2,e3⟩:=Sa R1 up (ms:=ms) G hf l1 l2 (λi hi=>(hlent i hi).2) (λi hi a ha=>gn (Vq.mpr ⟨i,hi,ha⟩)) λi hi a ha=>by
  rw[dQ λz=>by
   obtain⟨j,hj,h⟩:=Vq.mp z;exact(hlent i hi).1 (R1.aW j i a h ha▸hj)]
  exact R1.off i a ha
 show cC X.mg X.K ms sp (vs++[]) H1 Q Ex;rw[Vm];refine⟨ds,ix.map (·.2),lend Hm1 H1 ((kept ms as).flatMap F1),_,xc,mP R1.sub,e2,hsp,λus k r u H' Hm' fp p sM sS fr old bk o new=>?_,λc d C a H' hC hxc fr ha hn=>?_⟩
 .replace p:IF ms as E1 us k r P:=p;unfold IF at p;rw[<-bw,xG]at p;obtain⟨E2,hu,p⟩:=p;rw[<-bw,KD]at p;obtain⟨E3,ha,p⟩:=p;obtain⟨u1,u2,u3,u4⟩:=pK hu l2;have hu':∀q∈ix,∃p es xs' es',PyData.list es'∈us/\E1[q.1]?=some (some (.ow p,.list es))/\E2[q.1]?=some (some (.ow p,.list es'))/\H' q.2=some (.lst xs')/\aC X.K Hm' xs' es'/\Hm' q.2=none:=λq hq=>by
   obtain⟨n,hn⟩:=We hq;have hn1:(lent ms as)[n]?=some q.1:=by rw[<-e1,VQ,hn];rfl
   have hn2:(ix.map (·.2))[n]?=some q.2:=by rw[VQ,hn];rfl
   obtain⟨xs',es',g1,g2,g3,g4⟩:=bk.get hn2;obtain⟨p',es,es'',g5,g6,g7⟩:=u4 n q.1 _ hn1 g1;cases g5;exact⟨p',es,xs',es',VZ g1,g6,g7,g2,g3,g4⟩
  obtain⟨Hm'',F'',R'',s'',T⟩:=E9 R1 (is:=kept ms as) (ix:=ix) (us:=us) e3 (λq hq=>(hlent q.1 (e1▸V6.mpr ⟨q,hq,rfl⟩)).1) u1 (λj hj=>u2 j (e1▸hj)) hu' (Aj ha) sM sS fr old o new;exact q _ _ _ _ _ _ _ _ p R'' (s1.trans s'') T
 refine hx c d C a H' hC hxc (λp o hp ho=>?_) ha (R1.gK hn);refine fr p o (λz=>?_) (R1.fr p o hp ho);obtain⟨q,hq,rfl⟩:=V6.mp z;rcases R1.new q.1 q.2 (by rw[(e3 q hq).2];exact V1)with y|y;{exact hp y};rw[y]at ho;cases ho
end
def WS(X:Cx)(st:Stmt):TS:=λD U H=>∀(pins:Zn)(s:Shared),Inv X pins U H s->wpAny (model X.prog X.w) X.A (exec st X.env) (SP X pins D) X.xe s
def mL(X:Cx)(st:A02):TS:=λD U H=>∀(pins:Zn)(s:Shared),Inv X pins U H s->wpAny (model X.prog X.w) X.A (execs st X.env) (SP X pins D) X.xe s
def Fb:PS X st (WS X st):=λpins s _ _ _ I h=>h pins s I
def fG:mW X st (mL X st):=λpins s _ _ _ I h=>h pins s I
def WS.of(h:PS X st t)(q:t D U H):WS X st D U H:=λpins s I=>h pins s U H D I q
def mL.of(h:mW X st t)(q:t D U H):mL X st D U H:=λpins s I=>h pins s U H D I q
def bq{α:Type}{l:List α}{i:Nat}{a:α}(h:l[i]?=some a):i<l.length:=by rcases Vt i l.length with z|z;{exact z};rw[Vr z]at h;cases h
def iY{Y:A03}{U:St}{j i:Nat}{v:Option V}(nd:Y.Nodup)(h:Y[j]?=some i)(hi:i<U.length):(sel Y U).set j v=sel Y (U.set i v):=by
 have lj:j<Y.length:=bq h;refine Wl λk=>?_;by_cases c:k=j;{subst c;rw[aO (by unfold sel;rw[V4];exact lj)];unfold sel;rw[VQ,h];show some v=some ((U.set i v)[i]?).join;rw[aO hi];rfl};rw[aq (Ne.symm c)];unfold sel;rw[VQ,VQ];cases e:Y[k]? with
 |none=>rfl
 |some m=>
  have ne:i≠m:=λz=>c (by
   have h1:=Vz.mp e;have h2:=Vz.mp h;obtain⟨l1,e1⟩:=h1;obtain⟨l2,e2⟩:=h2;exact(List.getElem_inj nd).mp (e1.trans (z.symm.trans e2.symm)))
  show some (U[m]?).join=some ((U.set i v)[m]?).join;rw[aq ne]
abbrev aM(X:Cx):A03:=List.range X.N.length
def TH(X:Cx)(Ex:XK)(w:TS)(d:DS):Prop:=
 ∀(g:Gh)(D':gw)(E:En)(U:St)(H Hm:Hp)(F:Nat->Zz)(D:Ends),XL X Ex D'.xc g->Rl X.K g E U H Hm F->d D' E->
  (∀E' σ' H' Hm' F',D'.nx E'->Rl X.K g E' σ' H' Hm' F'->aj Hm Hm'->D.nx (sel (aM X) σ') H')->
  (∀E' k v u σ' H' Hm' F' fp,D'.rt E' k v->Rl X.K g E' σ' H' Hm' F'->Tm X.K g F' H' Hm' k u v fp->D.rt u H')->w D (sel (aM X) U) H
abbrev S1(X:Cx)(Ex:XK)(st:Stmt)(d:DS):Prop:=TH X Ex (WS X st) d
abbrev SS(X:Cx)(Ex:XK)(st:A02)(d:DS):Prop:=TH X Ex (mL X st) d
section
variable{X:Cx}{Ex:XK}
def cy:SS X Ex [] dJ:=λg D' E U H Hm F D hx R h nx rt=>mL.of MZ (nx _ _ _ _ _ h R (aj.refl _))
def ai{st:Stmt}{rest:A02}{a b:DS}(h1:S1 X Ex st a)(h2:SS X Ex rest b):SS X Ex (st::rest) (au a b):=by intro g D' E U H Hm F D hx R h nx rt;refine mL.of (Ao Fb fG) (h1 g { D' with nx:=b D' } E U H Hm F _ hx R h (λE1 σ1 H1 Hm1 F1 p1 R1 s1=>?_) rt);exact h2 g D' E1 σ1 H1 Hm1 F1 D hx R1 p1 (λE2 σ2 H2 Hm2 F2 p2 R2 s2=>nx _ _ _ _ _ p2 R2 (s1.trans s2)) rt
def FL{st:Stmt}{rest:A02}{a b:DS}(h1:S1 X Ex st a)(h2:SS X Ex rest b):SS X Ex (st::rest) (Em a b):=by intro g D' E U H Hm F D hx R h nx rt;obtain⟨J,h,hJ⟩:=h;refine mL.of (Ao Fb fG) (h1 g { D' with nx:=J } E U H Hm F _ hx R h (λE1 σ1 H1 Hm1 F1 p1 R1 s1=>?_) rt);exact h2 g D' E1 σ1 H1 Hm1 F1 D hx R1 (hJ E1 p1) (λE2 σ2 H2 Hm2 F2 p2 R2 s2=>nx _ _ _ _ _ p2 R2 (s1.trans s2)) rt
def ao(h1:S1 X Ex st a):SS X Ex [st] a:=λg D' E U H Hm F D hx R h nx rt=>mL.of (xE Fb) (h1 g D' E U H Hm F D hx R h nx rt)
def T4(hc:ST X Ex (aM X) c t)(ha:SS X Ex a d)(hb:SS X Ex b2 e):S1 X Ex (.If c a b2 pos) (cO t d e):=by
 rw[MO];intro g D' E U H Hm F D hx R h nx rt;refine WS.of (K9 jX fG fG) (hc g D'.xc E U H Hm F _ (λb H1=>if b=true then mL X a D _ H1 else mL X b2 D _ H1) hx R h λE1 b H1 Hm1 F1 p1 R1 s1=>?_);cases b with
 |true=>exact qY (ha g D' E1 U H1 Hm1 F1 D hx R1 (by simpa using p1) (λE2 σ2 H2 Hm2 F2 p2 R2 s2=>nx _ _ _ _ _ p2 R2 (s1.trans s2)) rt)
 |false=>exact qy (hb g D' E1 U H1 Hm1 F1 D hx R1 (by simpa using p1) (λE2 σ2 H2 Hm2 F2 p2 R2 s2=>nx _ _ _ _ _ p2 R2 (s1.trans s2)) rt)
def Sd(h:SE X Ex (aM X) e d):S1 X Ex (.Return (some e) pos) (bY d):=λg D' E U H Hm F D hx R p nx rt=>WS.of (GO bB) (h g D'.xc E U H Hm F _ _ hx R p λE' k v u H' Hm' F' fp p' R' s' T=>rt _ _ _ _ _ _ _ _ _ p' R' T)
def Qc(h:SE X Ex (aM X) e d)(hs:swapsWith e none pos.line X.env=pure false):S1 X Ex (.Expr e pos) (eN d):=λg D' E U H Hm F D hx R p nx rt=>WS.of (CW bB hs) (h g D'.xc E U H Hm F _ _ hx R p λE' k v u H' Hm' F' fp p' R' s' T=>nx _ _ _ _ _ p' R' s')
def Rl.move{K:Frag}{g:Gh}{E:En}{U:St}{H Hm:Hp}{F:Nat->Zz}(R:Rl K g E U H Hm F){i:Nat}{k:Kd}{d:PyData}(e:E[i]?=some (some (k,d)))(hk:k.pin=false):∃v F',U[i]?=some (some v)/\Rl K g (E.set i none) U H Hm F'/\Tm K g F' H Hm k v d (F i):=by
 obtain⟨v,h1,h2⟩:=R.slot i k d e;have li:=bq e;refine⟨v,λj=>if j=i then []else F j,h1,?_,⟨h2,R.off i,λa ha j=>?_,λa ha=>R.notM e hk ha⟩⟩
 .exact {
   len:=by rw[Vs];exact R.len
   sub:=R.sub
   slot:=λj k' d' e'=>by
    by_cases c:j=i
    .subst c;rw[aO li]at e';cases e'
    .rw[aq (Ne.symm c)]at e';obtain⟨u,g1,g2⟩:=R.slot j k' d' e';exact⟨u,g1,by rw[if_neg c];exact g2⟩
   off:=λj a ha=>by
    by_cases c:j=i
    .rw[if_pos c]at ha;cases ha
    .rw[if_neg c]at ha;exact R.off j a ha
   bI:=λj a ha=>by
    by_cases c:j=i
    .rw[if_pos c]at ha;cases ha
    .rw[if_neg c]at ha;exact R.bI j a ha
   aW:=λj l a g1 g2=>by
    by_cases c:j=i
    .rw[if_pos c]at g1;cases g1
    .rw[if_neg c]at g1
     by_cases c':l=i
     .rw[if_pos c']at g2;cases g2
     .rw[if_neg c']at g2;exact R.aW j l a g1 g2
   fr:=R.fr
   new:=λj a ha=>by
    by_cases c:j=i
    .rw[if_pos c]at ha;cases ha
    .rw[if_neg c]at ha;exact R.new j a ha
   pin:=λq hq=>by
    obtain⟨g1,ds',g2⟩:=R.pin q hq;have c:i≠q.1:=λz=>by
     rw[<-z,e]at g2;cases g2;cases hk
    exact⟨g1,ds',by rw[aq c];exact g2⟩
   old:=R.old }
 by_cases c:j=i;{rw[if_pos c];simp};rw[if_neg c];exact λz=>c (R.aW j i a z ha)
def fE{n i:Nat}(h:i<n):(List.range n)[i]?=some i:=W7 h
def P4{i:Nat}(h:PE X e (pO i))(hi:i<X.N.length):S1 X Ex (.Return (some e) pos) (gW i):=by
 intro g D' E U H Hm F D hx R p nx rt;replace p:Gg E i D'.rt:=p;unfold Gg at p;split at p
 rotate_left
 .exact p.elim
 rename_i k d e1;rw[dh]at p;obtain⟨hk,p⟩:=p;have hk:k.pin=false:=by simpa using hk
 obtain⟨v,F',h1,R',T⟩:=R.move e1 hk;exact WS.of (GO h) ⟨v,fJ (fE hi) h1,rt _ _ _ _ _ _ _ _ _ p R' T⟩
def gk{i:Nat}(h:bN E i=true):i<E.length:=by rcases Vt i E.length with z|z;{exact z};unfold bN at h;rw[Vr z]at h;cases h
def S6{i:Nat}{x:Str}{e:Expr}{pos pos':Pos}{d:DE}(hN:X.N.Nodup)(hi:X.N[i]?=some x)(hl:Loc X.env.scope x)(hs:swapsWith e (some (.Name x pos')) pos.line X.env=pure false)(hf:X.fn x=true\/X.env.scope.names.lookup x=some .local)(h:SE X Ex (aM X) e d):S1 X Ex (.Assign [.Name x pos'] e pos) (aK i d):=by rw[xo];intro g D' E U H Hm F D hx R p nx rt;refine WS.of (RD hN hi hl bB hs hf) (h g D'.xc E U H Hm F _ _ hx R p λE' k v u H' Hm' F' fp p' R' s' T=>?_);show D.nx ((sel (aM X) U).set i (some u)) H';rw[iY WC (fE (bq hi)) (R'.len▸gk p'.1)];exact nx _ _ _ _ _ p'.2 (R'.put T p'.1) s'
inductive lM(X:Cx)(Y:A03):A01->A03->Prop
 |nil:lM X Y [] []
 |cons {x:Str}{p:Pos}{j i:Nat}{ts:A01}{is:A03}:X.N[j]?=some x->Y[j]?=some i->Loc X.env.scope x->(X.fn x=true\/X.env.scope.names.lookup x=some .local)->lM X Y ts is->lM X Y (.Name x p::ts) (i::is)
inductive gH(X:Cx)(Y:A03):Expr->Tg->Prop
 |nm {x:Str}{p:Pos}{j i:Nat}:X.N[j]?=some x->Y[j]?=some i->Loc X.env.scope x->(X.fn x=true\/X.env.scope.names.lookup x=some .local)->gH X Y (.Name x p) (.nm i)
 |tp {ts:A01}{k:Nat}{p:Pos}{is:A03}:lM X Y ts is->gH X Y (.Tuple ts k p) (.tp is)
def UT(X:Cx)(Y:A03)(tg:Tg)(G:TG):Prop:=∀{g:Gh}{d:PyData}{v:V}{E E2:En}{U:St}{H Hm:Hp}{F:Nat->Zz}{Q:St->Hp->Prop},cT tg d E=some E2->Rp X.K Hm v d->Rl X.K g E U H Hm F->(∀σ' F',Rl X.K g E2 σ' H Hm F'->(∀j,j∉tg.slots->σ'[j]?=U[j]?)->Q (sel Y σ') H)->G v (sel Y U) H Q
def Ko(hN:X.N.Nodup)(nd:Y.Nodup)(h:lM X Y ts is):∃G:sL,Gu X ts G/\(assignEach ts X.env).length=is.length/\(assignEach ts X.env).findIdx? (·.1)=none /\ ∀{g:Gh}{ds:Zw}{vs:List V}{E E2:En}{U:St}{H Hm:Hp}{F:Nat->Zz}{Q:St->Hp->Prop},b9 is ds E=some E2->aC X.K Hm vs ds->Rl X.K g E U H Hm F->(∀σ' F',Rl X.K g E2 σ' H Hm F'->(∀j,j∉is->σ'[j]?=U[j]?)->Q (sel Y σ') H)->vs.length=is.length/\G vs (sel Y U) H Q:=by
 induction h with
 |nil=>
  refine⟨Rx,NG,rfl,rfl,λ{g ds vs E E2 U H Hm F Q} h r R q=>?_⟩;cases ds with
  |nil=>cases h;cases r;exact⟨rfl,rfl,q _ _ R λ_ _=>rfl⟩
  |cons _ _=>cases h
 |@cons x p j i ts is h1 h2 h3 h4 _ ih=>
  obtain⟨G,g1,g2,g3,g4⟩:=ih;refine⟨Ls (rP j) G,Kz (CS hN h1 h3 h4) g1,?_,?_,λ{g ds vs E E2 U H Hm F Q} h r R q=>?_⟩;{show(assignEach ts X.env).length+1=_;rw[g2];rfl};{show List.findIdx? (·.1) ((false,assign (.Name x p) X.env)::assignEach ts X.env)=none;rw[List.findIdx?_cons,g3];rfl};cases ds with
  |nil=>cases h
  |cons d ds=>
   rw[b9]at h;by_cases o:bN E i=true
   .rw[if_pos o]at h;cases r with
    |cons r1 r2=>
     obtain⟨l,k⟩:=g4 h r2 (R.put (Tm.sh r1) o) λσ' F' R' a=>q σ' F' R' λj' hj=>by have ne:i≠j':=λz=>hj (z▸V1);exact(a j' λz=>hj (V5 _ z)).trans (aq ne)
     refine⟨congrArg (·+1) l,_,_,rfl,?_⟩;show G _ ((sel Y U).set j (some _)) H Q;rw[iY nd h2 (R.len▸gk o)];exact k
   rw[if_neg o]at h;cases h
def vU(hc:X.calm=true)(hN:X.N.Nodup)(nd:Y.Nodup)(h:gH X Y e tg):∃G,PG X e G/\UT X Y tg G:=by
 cases h with
 |@nm x p j i h1 h2 h3 h4=>refine⟨rP j,CS hN h1 h3 h4,λ{g d v E E2 U H Hm F Q} h r R q=>?_⟩;have h:b9 [i] [d] E=some E2:=h;rw[b9]at h;by_cases o:bN E i=true;{rw[if_pos o]at h;cases h;show Q ((sel Y U).set j (some v)) H;rw[iY nd h2 (R.len▸gk o)];exact q _ _ (R.put (Tm.sh r) o) λj' hj=>aq (show i≠j' from λz=>hj (z▸V1))};rw[if_neg o]at h;cases h
 |@tp ts k p is h=>
  obtain⟨G,g1,g2,g3,g4⟩:=Ko hN nd h;refine⟨_,RC hc g1 g2 g3,λ{g d v E E2 U H Hm F Q} h r R q=>?_⟩;cases d with
  |tuple ds=>
   have h:b9 is ds E=some E2:=h;cases r with
   |tup a r=>obtain⟨l,k⟩:=g4 h r R q;exact⟨_,_,rfl,cG.of (R.sub _ _ a),l,k⟩
  |_=>cases h
def RZ{k:Nat}(hc:X.calm=true)(hN:X.N.Nodup)(ht:lM X (aM X) ts is)(hs:swapsWithSole [.Tuple ts k p] e pos.line X.env=pure false)(hw:swappedStores [.Tuple ts k p] e X.env=pure none)(h:SE X Ex (aM X) e d):S1 X Ex (.Assign [.Tuple ts k p] e pos) (qF is d):=by
 intro g D' E U H Hm F D hx R pp nx rt;obtain⟨G,g1,g2⟩:=vU hc hN WC (gH.tp (k:=k) (p:=p) ht);refine WS.of (HF bB g1 hs hw) (h g D'.xc E U H Hm F _ _ hx R pp λE' k v u H' Hm' F' fp p' R' s' T=>?_);replace p':bK k.fz _:=p';rw[dh]at p';obtain⟨hk,p'⟩:=p';unfold Lo at p';split at p'
 rotate_left
 .exact p'.elim
 rename_i ds;rw[<-bw,HS]at p';obtain⟨E2,e2,p'⟩:=p';have e2:cT (.tp is) (.tuple ds) E'=some E2:=e2;obtain⟨Hm2,s2,R2,r2⟩:=T.gj R' hk;exact g2 e2 r2 R2 λσ' F' R3 _=>nx _ _ _ _ _ p' R3 (s'.trans s2)
def Nu(hp:PassesOwn (model X.prog X.w) X.A X.env X.xe)(hc:ST X Ex (aM X) c t)(hb:SS X Ex b d):S1 X Ex (.While c b [] pos) (qE t d):=by
 intro g D' E U H Hm F D hx R h nx rt;obtain⟨W,⟨m0,w0⟩,step⟩:=h;refine WS.of (J1 hp jX fG) ⟨λm τ H'=>∃E' σ' Hm' F',W m E'/\Rl X.K g E' σ' H' Hm' F'/\aj Hm Hm'/\τ=sel (aM X) σ',⟨m0,E,U,Hm,F,w0,R,aj.refl _,rfl⟩,?_⟩;rintro m τ H1⟨E1,σ1,Hm1,F1,w1,R1,s1,rfl⟩;refine hc g D'.xc E1 σ1 H1 Hm1 F1 _ _ hx R1 (step m E1 w1) λE2 b2 H2 Hm2 F2 p2 R2 s2=>?_;cases b2 with
 |true=>
  refine qY ⟨λτ H'=>∃m',m'<m/\∃E' σ' Hm' F',W m' E'/\Rl X.K g E' σ' H' Hm' F'/\aj Hm Hm'/\τ=sel (aM X) σ',λ_ _ z=>z,?_⟩;exact hb g { D' with nx:=λE'=>∃m',m'<m/\W m' E' } E2 σ1 H2 Hm2 F2 _ hx R2 (by simpa using p2) (λE3 σ3 H3 Hm3 F3 p3 R3 s3=>by
   obtain⟨m',hm,w3⟩:=p3;exact⟨m',hm,E3,σ3,Hm3,F3,w3,R3,s1.trans (s2.trans s3),rfl⟩) rt
 |false=>exact qy (nx _ _ _ _ _ (by simpa using p2) R2 (s1.trans s2))
def CJ(K:Frag)(J:It)(xs:Zw)(jA:Hp):Prop:=∀(i:Nat)(H Hm:Hp),aj jA Hm->aj Hm H->
 (∀d,xs[i]?=some d->J.go i H/\∀x H',J.sJ i H x H'->∃Hm',aj Hm Hm'/\aj Hm' H'/\aj H H'/\(∀a,H a≠none->OE (Hm' a) (Hm a))/\Rp K Hm' x d)/\(xs.length<=i->J.stop i H)
def SI(X:Cx)(Ex:XK)(Y:A03)(tg e:Expr)(d:DI):Prop:=∃wi:TI,PI X tg e wi /\
 ∀(g:Gh)(x:XC)(E:En)(U:St)(H Hm:Hp)(F:Nat->Zz)(P:En->Zw->Prop)(R:It->Hp->Prop),XL X Ex x g->Rl X.K g E U H Hm F->d x E P->
  (∀E' xs J H' Hm' F',P E' xs->Rl X.K g E' U H' Hm' F'->aj Hm Hm'->CJ X.K J xs Hm'->R J H')->wi (sel Y U) H R
def Rl.turn{F:Nat->Zz}(R:Rl K g E U H Hm F)(s1:aj Hm Hm')(s2:aj Hm' H')(s3:aj H H')(old:∀a,H a≠none->OE (Hm' a) (Hm a)):Rl K g E U H' Hm' F:=
 R.grow s3 s1 s2 (λi a ha=>by
  obtain⟨u,hu,nt⟩:=R.bI i a ha;exact(old a (by rw[hu];simp)).off (R.off i a ha) s2 (s3 _ _ hu) nt) λa ha=>old a (R.rR ha)
def Si(hp:PassesOwn (model X.prog X.w) X.A X.env X.xe)(hc:X.calm=true)(hN:X.N.Nodup)(hi:SI X Ex (aM X) tg it di)(ht:gH X (aM X) tg t)(hb:SS X Ex b d)(hs:∀x,foldedSetIterable it X.env x=pure x):S1 X Ex (.For tg it b [] pos) (eB di t d):=by
 intro g D' E U H Hm F D hx R h nx rt;obtain⟨wi,hpi,hw⟩:=hi;obtain⟨G,g1,g2⟩:=vU hc hN WC ht;refine WS.of (Rb hp hc hpi g1 fG hs) (hw g D'.xc E U H Hm F _ _ hx R h λE1 xs J H1 Hm1 F1 p1 R1 s1 it1=>?_);obtain⟨I,i0,step,fin⟩:=p1;refine⟨λi m τ H'=>m=xs.length-i/\i<=xs.length/\∃E' σ' Hm' F',I i E'/\Rl X.K g E' σ' H' Hm' F'/\aj Hm1 Hm'/\τ=sel (aM X) σ',⟨xs.length,by simp,VW _,E1,U,Hm1,F1,i0,R1,aj.refl _,rfl⟩,?_⟩;rintro i m τ H2⟨rfl,hi,E2,σ2,Hm2,F2,i2,R2,s2,rfl⟩;obtain⟨go,stop⟩:=it1 i H2 Hm2 s2 R2.sub;by_cases c:i<xs.length;{obtain⟨go,sJ⟩:=go xs[i] (VX c);refine .inr ⟨go,λτ H'=>i+1<=xs.length/\∃E' σ' Hm' F',I (i+1) E'/\Rl X.K g E' σ' H' Hm' F'/\aj Hm1 Hm'/\τ=sel (aM X) σ',λτ H' z=>⟨xs.length-(i+1),by lia,rfl,z⟩,λx H3 y=>?_⟩;obtain⟨Hm3,t1,t2,t3,old,r⟩:=sJ x H3 y;have R3:=R2.turn t1 t2 t3 old;obtain⟨E4,e4,p4⟩:=step i xs[i] E2 (VX c) i2;refine g2 e4 r R3 λσ4 F4 R4 _=>?_;exact hb g { D' with nx:=I (i+1) } E4 σ4 H3 Hm3 F4 _ hx R4 p4 (λE5 σ5 H5 Hm5 F5 p5 R5 s5=>⟨c,E5,σ5,Hm5,F5,p5,R5,s2.trans (t1.trans s5),rfl⟩) rt};have e:i=xs.length:=by lia
 subst e;exact .inl ⟨stop (V3 _),nx _ _ _ _ _ (fin E2 i2) R2 (s1.trans s2)⟩
end
end Dv
namespace L2
open PySem PySem.Spec PyProof.Rows
def iO(elt:Expr)(gens:Zl)(scope:Scope)(pos:Pos) (k:Nat)(acc:Value)(env:Env)(fin:Sem Fin):Sem Fin:=match gens[k]? with
 |some g'=>do
  let x <-eval g'.iter env
  standAt g'.iter.pos
  let x <-foldedSetIterable g'.iter env x
  let y <-holding [x] (pyIter x)
  let _ <-runOwn (.compStart (.ListComp elt gens scope pos) k y acc env) env
  fin
 |none=>do
  (do let _ <-call (.builtin "list.append") [acc,<-eval elt env])
  fin
def compTurn_gen{k:Nat}(hk:gens[k]?=some ⟨tg,iter,ifs,0⟩)(ha:∀g∈gens,g.is_async=0)(it acc:Value)(env:Env) :
  compTurn (.ListComp elt gens scope pos) k it acc env=(do
   standAt iter.pos
   match <-pyNext it with
   |none=>pure (.done .next)
   |some v=>
    letOwnedTupleGo tg it v
    assign tg env v
    let mut ok:=true
    for c in ifs do
     if ok then ok <-isTrue c env (eval c env)
    if ok then iO elt gens scope pos (k+1) acc env (again (.compLoop (.ListComp elt gens scope pos) k it acc env))
    else again (.compLoop (.ListComp elt gens scope pos) k it acc env)):=by
 unfold compTurn iO;simp only[hk];cases h:gens[k+1]? with
 |none=>rfl
 |some g'=>have e:=ha g' (VZ h);obtain⟨t,i,f,a⟩:=g';dsimp only at e;subst e;rfl
section
variable{prog:Program}{w:World}{A:Around}{R:Result->Shared->Prop}{s:Shared}{elt tg iter:Expr}{gens:Zl}{ifs:A01}{scope:Scope}{pos:Pos}{k:Nat}
def vQ(hk:gens[k]?=some ⟨tg,iter,ifs,0⟩)(ha:∀g∈gens,g.is_async=0)(I:Nat->Shared->Prop)(turn:∀n s,I n s->wpAny (model prog w) A (pyNext it) (λr s1=>match r with
   |none=>R (.ok .next) s1
   |some v=>wpAny (model prog w) A (letOwnedTupleGo tg it v) (λ_ s0=>wpAny (model prog w) A (assign tg env v) (λ_ s2=>wpAny (model prog w) A (forIn ifs true λc r=>if r=true then do let ok <-isTrue c env (eval c env);pure (ForInStep.yield ok)else pure (ForInStep.yield r)) (λok s3=>
      if ok=true then ∀(fin:Sem Fin)(Qf:Fin->Shared->Prop),(∀s5,(∃m,m<n/\I m s5)->wpAny (model prog w) A fin Qf (C7 prog w A env R) s5)->wpAny (model prog w) A (iO elt gens scope pos (k+1) acc env fin) Qf (C7 prog w A env R) s3
      else ∃m,m<n/\I m s3) (C7 prog w A env R) s2) (C7 prog w A env R) s0) (C7 prog w A env R) s1) (C7 prog w A env R) s)
  (n:Nat)(h:I n s):codeAny (model prog w) A (.compLoop (.ListComp elt gens scope pos) k it acc env) R s:=by
 refine codeAny_loop rfl I (λn s hI=>?_) n h
 refine(wpAny_noted (?_:_):wpAny _ A ((compTurn (.ListComp elt gens scope pos) k it acc env).onRaise (λx=>do noteFrame x env;theTreesLotGoes x)) _ _ s)
 rw[compTurn_gen hk ha];refine V0 (Xk (V0 (Vh (turn n s hI) (λr s1 h1=>?_) λ_ _ z=>z)))
 cases r with
 |none=>exact V2 h1
 |some v=>
  refine V0 (Vh h1 (λ_ s0 h0=>V0 (Vh h0 (λ_ s2 h2=>V0 (Vh h2 (λok s3 h3=>?_) λ_ _ z=>z)) λ_ _ z=>z)) λ_ _ z=>z)
  cases ok with
  |false=>exact V2 ⟨rfl,h3⟩
  |true=>exact h3 _ _ λs5 h5=>V2 ⟨rfl,h5⟩
def BK(hk:gens[k]?=some ⟨tg,iter,ifs,0⟩)(h0:codeAny (model prog w) A (.compLoop (.ListComp elt gens scope pos) k it acc env) R s)(h:wpAny (model prog w) A (pyIter it) (λit' s'=>codeAny (model prog w) A (.compLoop (.ListComp elt gens scope pos) k it' acc env) R s') (notedBy (model prog w) A env λx s'=>R (.error x) s') s) : codeAny (model prog w) A (.compStart (.ListComp elt gens scope pos) k it acc env) R s:=by
 refine Ym ?_;show wpAny _ _ ((compStart (.ListComp elt gens scope pos) k it acc env).onRaise (λx=>do noteFrame x env;standAt theWindowsPlace)) _ _ s;refine wpAny_notedAt ?_;unfold compStart;have ec:(clausesOf (.ListComp elt gens scope pos))[k]?=some ⟨tg,iter,ifs,0⟩:=hk;rw[ec];show wpAny _ _ (ask>>=_) _ _ s;refine V0 (Xy (wpAny_ite ?_));split
 .first
   |exact V0 (V2 (V2 (And.intro rfl h0)))
   |exact V2 (And.intro rfl h0)
 first
  |exact V0 (Wy (V0 (Xk (V0 (Vh h (λit' s' h'=>V2 (And.intro rfl h')) λ_ _ x=>x)))))
  | (refine V0 (Wy ?_);show wpAny _ _ (standAt iter.pos>>=_) _ _ s;exact V0 (Xk (V0 (Vh h (λit' s' h'=>V2 (And.intro rfl h')) λ_ _ x=>x))))
end
def oY(N:A05)(fs scope:Scope)(vs NB:A05)(ix:A03):Bool:=
 decide (scope.kind=.function)&&scope.names.all (λy=>decide (y.2≠.cell))&&scope.names.all (λy=>decide (y.2≠.local)||decide (scope.names.lookup y.1=some .local)) &&
 scope.names.all (λy=>decide (y.2≠.free)||(decide (fs.names.lookup y.1=some .cell)||decide (fs.names.lookup y.1=some .free))) &&
 decide (NB=vs++ix.map λi=>N.getD i "")&&decide NB.Nodup&&ix.all λi=>match N[i]? with|some y=>decide (scope.names.lookup y=some .free)|none=>false
structure cS(X:Cx)(scope:Scope)(vs NB:A05)(ix:A03):Prop where
 kind:scope.kind=.function
 cell:∀y∈scope.names,y.2≠.cell
 names:∀y∈scope.names,y.2=.local->scope.names.lookup y.1=some .local
 free:∀y,(y,NameKind.free)∈scope.names->(X.env.kindOf y=some .cell\/X.env.kindOf y=some .free)
 nb:NB=vs++ix.map λi=>X.N.getD i ""
 nd:NB.Nodup
 cap:∀i∈ix,∃y,X.N[i]?=some y/\scope.names.lookup y=some .free
def cS.of(h:oY N fs scope vs NB ix=true)(hN:X.N=N:=by rfl)(hf:X.env.scope=fs:=by rfl):cS X scope vs NB ix:=by
 subst hN hf;unfold oY at h;simp only[V9]at h;obtain⟨⟨⟨⟨⟨⟨h1,h2⟩,h3⟩,h4⟩,h6⟩,h7⟩,h8⟩:=h;refine⟨Vf h1,λy hy=>Vf (VN.mp h2 y hy),λy hy e=>?_,λy hy=>?_,Vf h6,Vf h7,λi hi=>?_⟩;{have z:=VN.mp h3 y hy;rw[Bool.or_eq_true]at z;rcases z with z|z;{exact absurd e (Vf z)};exact Vf z};{have z:=VN.mp h4 _ hy;rw[Bool.or_eq_true,Bool.or_eq_true]at z;rcases z with z|z|z;{exact absurd rfl (Vf z)};{exact .inl (Vf z)};exact .inr (Vf z)};have z:=VN.mp h8 i hi;cases e:X.N[i]? with
 |none=>rw[e]at z;cases z
 |some y=>rw[e]at z;exact⟨y,rfl,Vf z⟩
section
variable{X:Cx}{scope:Scope}{vs:A05}{NB:A05}{ix:A03}{pins:Zn}{U:St}{H2:Hp}{s2:Shared}{fp:Zz}
def cS.clos(B:cS X scope vs NB ix)(I2:Inv X pins U H2 s2):closureFor scope X.env=pure (fj X.env.cells scope.names []):=
 vM λn hn=>I2.ok.has n (B.free n hn)
def cS.look(B:cS X scope vs NB ix)(I2:Inv X pins U H2 s2){c:Addr}(h:(fj X.env.cells scope.names []).lookup y=some c):X.env.cells.lookup y=some c:=by rcases tG _ _ h with⟨m,e⟩|e;{obtain⟨c',hc⟩:=I2.ok.has y (B.free y m);rw[hc]at e⊢;exact congrArg some e};cases e
def HE(B:cS X scope vs NB ix)(I2:Inv X pins U H2 s2){C:Addr}(hC:s2.heap.objs.size<=C)(f2:∀b∈fp,ig X pins H2 b)(ft:∀b∈fp,b<s2.heap.objs.size):(X.block scope C NB s2 H2 fp).Ok where
 mod:=I2.ok.mod
 kind:=B.kind
 glob:=I2.ok.glob
 blt:=I2.ok.blt
 above:=hC
 inj:=λa b c h1 h2=>I2.ok.inj a b c (B.look I2 h1) (B.look I2 h2)
 has:=λy hy=>by
  have key:∀k,(relabel scope X.env).names.lookup y=some k->(k=.cell\/k=.free)->∃c,(fj X.env.cells scope.names []).lookup y=some c:=λk hk kk=>by
   rcases Bx (names:=scope.names) hk with e|⟨e,_⟩
   .rcases kk with rfl|rfl
    .exact absurd rfl (B.cell _ (jW e))
    .exact lB _ _ (.inl (jW e))
   .exact lB _ _ (.inl (jW e))
  rcases hy with e|e
  .exact key _ e (.inl rfl)
  .exact key _ e (.inr rfl)
 zR:=λ_ _ z=>by cases z
 hd:=I2.ok.hd
 frames:=I2.ok.frames
 stk:=.inl rfl
 Ly:=λb hb=>⟨VC (Vg (ft b hb) hC),λy c e=>(f2 b hb).2.2.2.2.1 y c (B.look I2 e)⟩
 bs:=I2.bs
 uQ:=VS I2.ok.uQ I2.sz
 tO:=λb o e hb=>by
  rcases(f2 b hb).2.2.2.1 with z|z
  .exact I2.ok.tO b o e z
  .exact absurd (Vg (VA (I2.ok.bs b o e).1) z) (Vx _)
 wG:=λb hb z=>by
  rcases V7.mp (I2.oi b z)with e|e
  .exact(f2 b hb).2.1 e
  .exact(f2 b hb).2.2.1 e
 jJ:=I2.stack
 yg:=I2.rS
def Fc(B:cS X scope vs NB ix)(I2:Inv X pins U H2 s2){C D:Addr}{tk:Nat}(hC:s2.heap.objs.size<=C)(hD:s2.heap.objs.size<=D)(hDC:D≠C)(f2:∀b∈fp,ig X pins H2 b)(ft:∀b∈fp,b<s2.heap.objs.size)(old:∀b o,s2.heap.get? b=some o->h1.get? b=some o)(hn:h1.Ns C m)(ho:h1.get? D=some oD)(hcl:∀v,oD.data≠.cell v) : Inv (X.block scope C NB s2 H2 fp) [(D,oD)] (List.replicate vs.length none++caps ix U) H2 { s2 with heap:=h1,toks:=tk } where
 ok:=HE B I2 hC f2 ft
 os:=rfl
 bare:=I2.bare
 base:=Un.kept old
 loc:=by
  refine⟨m,hn,λi y v e1 e2 _=>?_⟩
  have e1:NB[i]?=some y:=e1
  by_cases li:i<vs.length
  .rw[Xn (by rw[X4];exact li),List.getElem?_replicate,if_pos li]at e2
   cases e2
  .obtain⟨j,rfl⟩:∃j,i=vs.length+j:=⟨i-vs.length,by lia⟩
   have e2:(caps ix U)[j]?=some (some v):=by
    rw[Xm (by rw[X4];lia),X4,Nat.add_sub_cancel_left]at e2
    exact e2
   rw[B.nb]at e1;have e1:(ix.map λi=>X.N.getD i "")[j]?=some y:=by
    rw[Xm (by lia),Nat.add_sub_cancel_left]at e1
    exact e1
   rw[VQ]at e1;unfold caps at e2;rw[VQ]at e2;cases q:ix[j]? with
   |none=>rw[q]at e1;cases e1
   |some i=>
    rw[q]at e1 e2;obtain⟨z,hz,fz⟩:=B.cap i (VZ q);have ey:y=z:=by
     have w:X.N.getD i ""=y:=Option.some.inj e1;rw[<-w,Vk,hz];rfl
    subst ey;have e2:(U[i]?).join=some v:=Option.some.inj e2;have es:U[i]?=some (some v):=by
     cases w:U[i]? with
     |none=>rw[w]at e2;cases e2
     |some o=>rw[w]at e2;exact congrArg some e2
    have fk:=B.free y (jW fz);have vis:qb X.env.scope y:=.inr fk;obtain⟨mm,_,hl⟩:=I2.loc;obtain⟨u,ru,lk⟩:=hl i y v hz es vis;refine⟨u,ru,.inr ⟨?_,?_⟩⟩
    .rcases vV (env:=X.env) (names:=scope.names) fz with e|⟨_,e⟩
     .exact .inr e
     .exact .inl e
    .rcases lk with⟨lk,_⟩|⟨_,c,hc,hcell⟩
     .rcases fk with fk|fk
      .rw[lk]at fk;cases fk
      .rw[lk]at fk;cases fk
     .obtain⟨c',hc'⟩:=lB (cells:=X.env.cells) scope.names [] (.inl (jW fz));have e3:=B.look I2 hc';rw[hc]at e3;cases e3;obtain⟨oc,g1,g2⟩:=hcell;exact⟨c,hc',oc,old _ _ g1,g2⟩
 cell:=λy c e=>by
  obtain⟨v,o,g1,g2⟩:=I2.cell y c (B.look I2 e);exact⟨v,o,old _ _ g1,g2⟩
 free:=I2.hok.fresh hC
 fh:=λy c e=>I2.fh y c (B.look I2 e)
 pin:=λp hp=>by
  have e:p=(D,oD):=by simpa[Cx.block]using hp
  subst e;refine⟨ho,I2.hok.fresh hD,hDC,λz=>?_,hcl⟩
  rcases V7.mp (I2.oi D z)with e|e
  .have e:D=X.env.locals:=e;exact absurd (Vg I2.lt (e▸hD)) (Vx _)
  .exact I2.Rt hD e
 hok:=I2.hok.kept old
 len:=by
  show(List.replicate vs.length none++caps ix U).length=NB.length;rw[B.nb,VD,VD,JN,V4,X4]
end
abbrev TL:=List V->St->Hp->(List V->St->Hp->Prop)->Prop
def PL(X:Cx)(D:Addr)(elt:Expr)(gens:Zl)(scope:Scope)(pos:Pos) (k:Nat)(t:TL):Prop:=
 X.s₀.heap.objs.size<=D->(∀y c,X.env.cells.lookup y=some c->c≠D)->(∀e s',X.xe e s'->False)->
 ∀(pins:Zn)(s:Shared)(U:St)(H:Hp)(ys:List V)(its:Zy) (nn:Nat)(Q:List V->St->Hp->Prop)(fin:Sem Fin)(Qf:Fin->Shared->Prop)(E:Zk),
  (∀p∈X.pn++pins,p.1≠D)->Inv X ((D,gJ its nn)::pins) U H s->Vals ys its->ys.length<=sizeLine->t ys U H Q->
  (∀s' ys' its' nn' σ' H',Inv X ((D,gJ its' nn')::pins) σ' H' s'->Vals ys' its'->ys'.length<=sizeLine->Q ys' σ' H'->wpAny (model X.prog X.w) X.A fin Qf E s')->
  wpAny (model X.prog X.w) X.A (iO elt gens scope pos k (.ref D) X.env fin) Qf E s
def Lh(te:TE):TL:=λys U H Q=>te U H λv H1=>ys.length<sizeLine/\Q (ys++[v]) U H1
def Eb(J:It)(g:TG)(tt:TT)(tr:TL)(ys0:List V)(σ0:St)(H1:Hp)(Q:List V->St->Hp->Prop):Prop:=
 ∃W:Nat->Nat->List V->St->Hp->Prop,(∃m,W 0 m ys0 σ0 H1)/\∀i m ys U H,W i m ys U H->
  (J.stop i H/\Q ys U H)\/(J.go i H/\∃N:List V->St->Hp->Prop,(∀ys' σ' H',N ys' σ' H'->∃m',m'<m/\W (i+1) m' ys' σ' H') /\
   ∀x H',J.sJ i H x H'->g x U H' λσ2 H2=>tt σ2 H2 λb H3=>if b=true then tr ys σ2 H3 N else N ys σ2 H3)
def R9(wi:TI)(g:TG)(tt:TT)(tr:TL):TL:=λys U H Q=>wi U H λJ H1=>Eb J g tt tr ys U H1 Q
section
variable{X:Cx}{D:Addr}{elt tg iter:Expr}{gens:Zl}{ifs:A01}{scope:Scope}{pos:Pos}{k:Nat}
def DA(he:PE X elt te)(hk:gens[k]?=none:=by rfl):PL X D elt gens scope pos k (Lh te):=by
 intro hD hc hx pins s U H ys its nn Q fin Qf E hp I rv hz h hf;unfold iO;rw[hk];refine V0 (V0 (Vh (he _ s U H _ I h) (λy s8 ⟨yv,H8,I8,r8,hlt,n8⟩=>V0 ?_) λe s' z=>(hx e s' z).elim));have pD:=I8.pin (D,gJ its nn) (Vl _ V1);refine append_at (hsz:=by rw[VO,<-rv.length];exact hz) pD.1 λh9 hs9 hD9=>V2 ?_;have I8n:Inv X pins U H8 s8:=I8.lC λp hp'=>I8.pin p (Vl _ (V5 _ hp'));have I9:=I8n.turned (h':=h9) (t':=s8.toks) (it:=D) (λb o hb e=>hs9.extBut b o hb e) pD.2.1 pD.2.2.1 (.inr hD) hc hp;have e9:gJ (its++[y]) (nn+1)={ cls:=.type "list",data:=.seq (its.toArray.push y) (nn+1) }:=by show({ cls:=.type "list",data:=.seq (its++[y]).toArray (nn+1) }:Obj)=_;rw[List.push_toArray]
 have I10:Inv X ((D,gJ (its++[y]) (nn+1))::pins) U H8 { s8 with heap:=h9 }:=by refine I9.lC λp hp'=>?_;rcases V7.mp hp' with rfl|hp';{exact⟨hD9.trans (congrArg some e9.symm),pD.2.1,pD.2.2.1,pD.2.2.2.1,λv q=>by cases q⟩};exact I9.pin p (Vl _ hp')
 exact hf _ (ys++[yv]) (its++[y]) (nn+1) U H8 I10 (Vals.append rv (.cons r8 .nil)) (by rw[VD];exact hlt) n8
def Ja{b:Addr}(f:ig X ((D,o)::pins) H b)(hn:H' b=none):ig X ((D,o')::pins) H' b:=by obtain⟨f0,f1,f2,f3,f4,f5⟩:=f;refine⟨hn,f1,f2,f3,f4,λp hp=>?_⟩;rcases V8.mp hp with hp|hp;{exact f5 p (Y5 _ hp)};rcases V7.mp hp with rfl|hp;{exact f5 (D,o) (Vl _ V1)};exact f5 p (Vl _ (V5 _ hp))
def O6(hc:X.calm=true)(hi:PI X tg iter wi)(hg:PG X tg g)(ht:vS X ifs tt)(hr:PL X D elt gens scope pos (k+1) tr)(hk:gens[k]?=some ⟨tg,iter,ifs,0⟩:=by rfl)(ha:∀g∈gens,g.is_async=0:=by decide)(hs:∀v,foldedSetIterable iter X.env v=pure v:=by intro _;rfl):PL X D elt gens scope pos k (R9 wi g tt tr):=by
 intro hD hcD hx pins s U H ys its nn Q fin Qf E hp I rv hz h hf;unfold iO;rw[hk];refine V0 (Vh (hi _ s U H _ I h) (λv s1 h1=>V0 (Xk (V0 (YG (hs v) (V0 (Vo (Vh h1 (λitv s2 h2=>?_) λe s' z=>(hx e s' z).elim))))))) λe s' z=>(hx e s' z).elim);obtain⟨it,fp,tn,J,H2,e,I2,T,st2,f2,W,⟨m0,w0⟩,turn⟩:=h2;subst e;refine V0 (wpAny_runOwn ?_);have loop:codeAny (model X.prog X.w) X.A (.compLoop (.ListComp elt gens scope pos) k (.ref it) (.ref D) X.env) (λr s'=>match r with | .ok f=>wpAny (model X.prog X.w) X.A fin Qf E s' | .error e=>cameBackBy (model X.prog X.w) X.A X.env E e s') s2:=by
  refine vQ hk ha (λn s'=>∃i ys' its' nn' σ' H',W i n ys' σ' H'/\Inv X ((D,gJ its' nn')::pins) σ' H' s'/\tn i s'.heap/\(∀b∈fp,H' b=none)/\Vals ys' its'/\ys'.length<=sizeLine) ?_ m0 ⟨0,ys,its,nn,U,H2,w0,I2,st2,λb hb=>(f2 b hb).1,rv,hz⟩;rintro n s'⟨i,ys',its',nn',σ',H',w',I',st',fr',rv',hz'⟩;have fy:∀{H3:Hp},(∀b∈fp,H3 b=none)->∀b∈fp,ig X ((D,gJ its' nn')::pins) H3 b:=λhn b hb=>Ja (f2 b hb) (hn b hb);rcases turn i n ys' σ' H' w' with⟨stop,q⟩|⟨go,Nx,hNx,step⟩;{refine Vh (T.done X rfl rfl rfl hc i _ s' _ H' (λ_ _=>False) I' (fy fr') st' stop) (λr s4 ⟨hr',I4⟩=>?_) λ_ _ z=>z.elim;subst hr';exact hf _ _ _ _ _ _ I4 rv' hz' q};refine Vh (T.item X rfl rfl rfl hc i _ s' _ H' (λ_ _=>False) I' (fy fr') st' go) (λr s4 ⟨u,hr',h4⟩=>?_) λ_ _ z=>z.elim;subst hr';refine Vh h4 (λ_ s4 ⟨v,H5,I5,r5,y5,st5,fr5⟩=>?_) λ_ _ z=>z.elim;have pIt:∀b∈fp,∃o,s4.heap.get? b=some o/\∀v,o.data≠.cell v:=T.obj _ _ st5;have I5':=I5.pinned (fy fr5) pIt;refine Vh (hg _ s4 σ' H5 v u _ I5' r5 (step v H5 y5)) (λ_ s6 ⟨σ6,H6,I6,q6⟩=>?_) λe s' z=>(hx e s' z).elim;refine Vh (ht _ s6 σ6 H6 _ I6 q6) (λb s7 ⟨H7,I7,q7⟩=>?_) λe s' z=>(hx e s' z).elim;have stays:∀{s9:Shared}{H9:Hp}{σ9:St}{oD:Obj},Inv X ((D,oD)::(pins++ja fp s4.heap)) σ9 H9 s9->tn (i+1) s9.heap/\(∀b∈fp,H9 b=none)/\Inv X ((D,oD)::pins) σ9 H9 s9:=λ{s9 H9 σ9 oD} I9=>by refine⟨T.keep _ _ _ st5 λb hb o e=>(I9.pin (b,o) (Vl _ (V5 _ (Vl _ (gZ hb e))))).1,λb hb=>?_,I9.lC λp hp'=>I9.pin p (Vl _ ?_)⟩;{obtain⟨o,e,d⟩:=pIt b hb;exact(I9.pin (b,o) (Vl _ (V5 _ (Vl _ (gZ hb e))))).2.1};rcases V7.mp hp' with rfl|hp';{exact V1};exact V5 _ (Y5 _ hp')
  cases b with
  |false=>rw[if_neg VY]at q7⊢;obtain⟨m',hm,w7⟩:=hNx _ _ _ q7;obtain⟨g1,g2,g3⟩:=stays I7;exact⟨m',hm,i+1,ys',its',nn',σ6,H7,w7,g3,g1,g2,rv',hz'⟩
  |true=>rw[if_pos rfl]at q7⊢;intro fin' Qf' hf';refine hr hD hcD hx (pins++ja fp s4.heap) s7 σ6 H7 ys' its' nn' Nx fin' Qf' _ (λp hp'=>?_) I7 rv' hz' q7 λs8 ys8 its8 nn8 σ8 H8 I8 rv8 hz8 n8=>?_;{rcases V8.mp hp' with hp'|hp';{exact hp p (Y5 _ hp')};rcases V8.mp hp' with hp'|hp';{exact hp p (Vl _ hp')};exact Ne.symm ((f2 p.1 (q8 hp').1).2.2.2.2.2 (D,gJ its nn) (Vl _ V1))};obtain⟨m',hm,w8⟩:=hNx _ _ _ n8;obtain⟨g1,g2,g3⟩:=stays I8;exact hf' s8 ⟨m',hm,i+1,ys8,its8,nn8,σ8,H8,w8,g3,g1,g2,rv8,hz8⟩
 exact BK hk loop (T.self _ 0 _ _ _ st2 loop)
end
section
variable{X:Cx}{scope:Scope}{vs:A05}{NB:A05}{ix:A03}
def uG(wi:TI) (n:Nat)(ix:A03)(g:TG)(tt:TT)(tr:TL):TE:=λU H Q=>wi U H λJ H1=>Eb J g tt tr [] (List.replicate n none++caps ix U) H1 λys _ H'=>∀p,H' p=none->Q (.ref p) (upd H' p (.lst ys))
def vg{elt tg iter:Expr}{ifs:A01}{rest:Zl}{pos:Pos}{g:TG}{tt:TT}{tr:TL}{J:It}{it:Addr}{tn:Nat->Heap->Prop}{fp:Zz}{pins:Zn}{U:St}{H2:Hp}{s2:Shared}{E:Zk}{RR:Value->Addr->Result->Shared->Prop}{Qr:VK}(B:cS X scope vs NB ix)(hc:X.calm=true)(hg:∀(C:Addr)(s:Shared)(H:Hp)(fp:Zz),PG (X.block scope C NB s H fp) tg g)(ht:∀(C:Addr)(s:Shared)(H:Hp)(fp:Zz),vS (X.block scope C NB s H fp) ifs tt)(hr:∀(C:Addr)(s:Shared)(H:Hp)(fp:Zz)(D:Addr),PL (X.block scope C NB s H fp) D elt (⟨tg,iter,ifs,0⟩::rest) scope pos 1 tr)(ha:∀g∈rest,g.is_async=0)(I2:Inv X pins U H2 s2)(T:Turn X.prog X.w X.K tg J fp it tn)(st2:tn 0 s2.heap)(f2:∀b∈fp,ig X pins H2 b)(h:Eb J g tt tr [] (List.replicate vs.length none++caps ix U) H2 λys _ H'=>∀p,H' p=none->Qr (.ref p) (upd H' p (.lst ys)))(hRR:∀(D C:Addr)(Hf:Hp)(s':Shared)(m':Zm),Inv X pins U Hf s'->s'.heap.Ns C m'->ig X pins Hf C->Qr (.ref D) Hf->RR (.ref D) C (.ok .next) s') : wpAny (model X.prog X.w) X.A (newList []) (λacc s3=>wpAny (model X.prog X.w) X.A (newFunctionEnv scope X.env.globals (fj X.env.cells scope.names []) [] X.env.qual none .none (some X.env)) (λcenv s4=> codeAny (model X.prog X.w) X.A (.compStart (.ListComp elt (⟨tg,iter,ifs,0⟩::rest) scope pos) 0 (.ref it) acc { cenv with scope:=relabel scope X.env }) (RR acc cenv.locals) s4) E s3) E s2:=by
 obtain⟨W,⟨m0,w0⟩,turn⟩:=h;have ha':∀g∈(⟨tg,iter,ifs,0⟩:Comprehension)::rest,g.is_async=0:=λg hg=>by rcases V7.mp hg with rfl|hg;{rfl};exact ha g hg
 refine Wo (wpAny_newFunctionEnv B.cell (by intro y hy;simp at hy) (λh1 hns hsb=>?_) B.kind);dsimp only at hns hsb⊢;generalize eG:s2.heap.push { cls:=.type "list",dict:=none,data:=.seq ([]:Zy).toArray }=G at hns hsb⊢;have hC:G.objs.size=s2.heap.objs.size+1:=by rw[<-eG,Wx]
 have hDC:s2.heap.objs.size≠G.objs.size:=by rw[hC];exact VC (Wv _)
 have hCle:s2.heap.objs.size<=G.objs.size:=by rw[hC];exact Y9 _
 have old:∀b o,s2.heap.get? b=some o->h1.get? b=some o:=λb o e=>by have lt:=VA e;exact hsb.extBut b o (VC (Vg lt hCle)) (VM _ (eG▸VM _ e))
 have hacc:h1.get? s2.heap.objs.size=some (gJ [] 0):=hsb.extBut _ _ hDC (VM _ (eG▸Vj _ rfl));have ft:∀b∈fp,b<s2.heap.objs.size:=λb hb=>by obtain⟨o,e,_⟩:=T.obj _ _ st2 b hb;exact VA e
 have cD:∀y c,(X.block scope G.objs.size NB s2 H2 fp).env.cells.lookup y=some c->c≠s2.heap.objs.size:=λy c e z=>by obtain⟨w,q⟩:=I2.cell y c (B.look I2 e);exact Vx _ (z▸q.lt)
 have loop:∀s3:Shared,s3={ s2 with heap:=h1,toks:=s2.toks+([]:List (Str×Value)).length }->
   codeAny (model X.prog X.w) X.A (.compLoop (.ListComp elt (⟨tg,iter,ifs,0⟩::rest) scope pos) 0 (.ref it) (.ref s2.heap.objs.size) (compEnvC scope (fj X.env.cells scope.names []) G.objs.size X.env))
    (RR (.ref s2.heap.objs.size) G.objs.size) s3:=by
  rintro s3 rfl;have I3:=Fc (tk:=s2.toks+([]:List (Str×Value)).length) B I2 hCle (V3 _) hDC f2 ft old hns hacc (λv q=>by cases q)
  have st3:tn 0 h1:=T.keep _ _ _ st2 λb _ o e=>old b o e
  have fy:∀{H':Hp}{oD:Obj},(∀b∈fp,H' b=none)->∀b∈fp,ig (X.block scope G.objs.size NB s2 H2 fp) [(s2.heap.objs.size,oD)] H' b:=λ{H' oD} hn b hb=>by
   refine⟨hn b hb,VC (Vg (ft b hb) hCle),λz=>?_,.inl hb,λy c e=>(f2 b hb).2.2.2.2.1 y c (B.look I2 e),λp hp=>?_⟩;{rcases V7.mp (I2.oi b z)with e|e;{exact(f2 b hb).2.1 e};exact(f2 b hb).2.2.1 e};have e:p=(s2.heap.objs.size,oD):=by simpa[Cx.block]using hp
   subst e;exact Ne.symm (VC (ft b hb))
  refine vQ (k:=0) rfl ha' (λn s'=>∃i ys its nn σ' H',W i n ys σ' H'/\Inv (X.block scope G.objs.size NB s2 H2 fp) [(s2.heap.objs.size,gJ its nn)] σ' H' s'/\tn i s'.heap/\(∀b∈fp,H' b=none)/\Vals ys its/\ys.length<=sizeLine)
   ?_ m0 ⟨0,[],[],0,_,H2,w0,I3,st3,λb hb=>(f2 b hb).1,.nil,VW _⟩
  rintro n s'⟨i,ys,its,nn,σ',H',w',I',st',fr',rv,hz⟩;rcases turn i n ys σ' H' w' with⟨stop,q⟩|⟨go,Nx,hNx,step⟩
  .refine Vh (T.done (X.block scope G.objs.size NB s2 H2 fp) rfl rfl rfl hc i _ s' _ H' (λ_ _=>False) I' (fy fr') st' stop) (λr s4 ⟨hr',I4⟩=>?_) λ_ _ z=>z.elim
   subst hr';have I5:=FY I2 f2 (V3 _) I4 rv hz;obtain⟨m4,hn4,_⟩:=I4.loc;have hfree:H' s2.heap.objs.size=none:=(I4.pin (s2.heap.objs.size,gJ its nn) (by show _∈[]++[(s2.heap.objs.size,gJ its nn)];simp)).2.1
   have fC:ig X pins (upd H' s2.heap.objs.size (.lst ys)) G.objs.size:=I2.Bw hCle (by
    rw[aA (Ne.symm hDC)];exact I4.free)
   exact hRR _ _ _ s4 m4 I5 hn4 fC (q _ hfree)
  .refine Vh (T.item (X.block scope G.objs.size NB s2 H2 fp) rfl rfl rfl hc i _ s' _ H' (λ_ _=>False) I' (fy fr') st' go) (λr s4 ⟨u,hr',h4⟩=>?_) λ_ _ z=>z.elim
   subst hr';refine Vh h4 (λ_ s4 ⟨v,H5,I5,r5,y5,st5,fr5⟩=>?_) λ_ _ z=>z.elim
   have pIt:∀b∈fp,∃o,s4.heap.get? b=some o/\∀v,o.data≠.cell v:=T.obj _ _ st5;have I5':=I5.pinned (fy fr5) pIt;refine Vh (hg _ _ _ _ _ s4 σ' H5 v u _ I5' r5 (step v H5 y5)) (λ_ s6 ⟨σ6,H6,I6,q6⟩=>?_) λ_ _ z=>z.elim
   refine Vh (ht _ _ _ _ _ s6 σ6 H6 _ I6 q6) (λb s7 ⟨H7,I7,q7⟩=>?_) λ_ _ z=>z.elim
   have stays:∀{s9:Shared}{H9:Hp}{σ9:St}{oD:Obj},Inv (X.block scope G.objs.size NB s2 H2 fp) ((s2.heap.objs.size,oD)::ja fp s4.heap) σ9 H9 s9->tn (i+1) s9.heap/\(∀b∈fp,H9 b=none)/\Inv (X.block scope G.objs.size NB s2 H2 fp) [(s2.heap.objs.size,oD)] σ9 H9 s9:=λ{s9 H9 σ9 oD} I9=>by
    refine⟨T.keep _ _ _ st5 λb hb o e=>(I9.pin (b,o) (Vl _ (V5 _ (gZ hb e)))).1,λb hb=>?_,I9.lC λp hp'=>I9.pin p (Vl _ ?_)⟩
    .obtain⟨o,e,d⟩:=pIt b hb;exact(I9.pin (b,o) (Vl _ (V5 _ (gZ hb e)))).2.1
    .rw[VB.mp hp'];exact V1
   cases b with
   |false=>
    rw[if_neg VY]at q7⊢;obtain⟨m',hm,w7⟩:=hNx _ _ _ q7;obtain⟨g1,g2,g3⟩:=stays I7;exact⟨m',hm,i+1,ys,its,nn,σ6,H7,w7,g3,g1,g2,rv,hz⟩
   |true=>
    rw[if_pos rfl]at q7⊢;intro fin' Qf' hf';refine hr _ _ _ _ s2.heap.objs.size (V3 _) cD (λ_ _ z=>z) (ja fp s4.heap) s7 σ6 H7 ys its nn Nx fin' Qf' _ (λp hp'=>?_) I7 rv hz q7 λs8 ys8 its8 nn8 σ8 H8 I8 rv8 hz8 n8=>?_
    .have hp'':p∈ja fp s4.heap:=hp';exact VC (ft _ (q8 hp'').1)
    .obtain⟨m',hm,w8⟩:=hNx _ _ _ n8;obtain⟨g1,g2,g3⟩:=stays I8;exact hf' s8 ⟨m',hm,i+1,ys8,its8,nn8,σ8,H8,w8,g3,g1,g2,rv8,hz8⟩
 exact codeAny_compStart_list (loop _ rfl) (T.self _ 0 _ _ _ (T.keep _ _ _ st2 λb _ o e=>old b o e) (loop _ rfl))
def JP{elt tg iter:Expr}{ifs:A01}{rest:Zl}{pos:Pos}{wi:TI}{g:TG}{tt:TT}{tr:TL}(B:cS X scope vs NB ix)(hc:X.calm=true)(hi:PI X tg iter wi)(hg:∀(C:Addr)(s:Shared)(H:Hp)(fp:Zz),PG (X.block scope C NB s H fp) tg g)(ht:∀(C:Addr)(s:Shared)(H:Hp)(fp:Zz),vS (X.block scope C NB s H fp) ifs tt)(hr:∀(C:Addr)(s:Shared)(H:Hp)(fp:Zz)(D:Addr),PL (X.block scope C NB s H fp) D elt (⟨tg,iter,ifs,0⟩::rest) scope pos 1 tr)(ha:∀g∈rest,g.is_async=0:=by decide)(hs:∀v,foldedSetIterable iter X.env v=pure v:=by intro _;rfl):PE X (.ListComp elt (⟨tg,iter,ifs,0⟩::rest) scope pos) (uG wi vs.length ix g tt tr):=by intro pins s U H Q I h;rw[eval_ListComp];refine wpAny_comprehension_free (use:=none) rfl hs (B.clos I) B.kind B.names (aT (hi pins s U H _ I h) λv s1 h1=>aT h1 λitv s2 h2=>?_);obtain⟨it,fp,tn,J,H2,e,I2,T,st2,f2,w⟩:=h2;subst e;refine vg (Qr:=Q) (RR:=λacc C=>compPost (model X.prog X.w) X.A X.xe none (EP X pins U Q) acc C) B hc hg ht hr ha I2 T st2 f2 w λD C Hf s' m' I' hn' fC q=>?_;refine⟨m',hn',λh'' hs''=>⟨.ref D,Hf,?_,rfl,q⟩⟩;obtain⟨c0,c1,c2,c3,c4,c5⟩:=fC;exact I'.turned (it:=C) (t':=s'.toks) (λb o hb e=>hs''.extBut b o hb e) c0 c1 c3 c4 c5
def Bj{elt tg iter:Expr}{ifs:A01}{rest:Zl}{pos py spos:Pos}{wi:TI}{g:TG}{tt:TT}{tr:TL}{j:Nat}{y:Str}(hN:X.N.Nodup)(hj:X.N[j]?=some y)(hy:X.env.scope.names.lookup y=some .local)(B:cS X scope vs NB ix)(hc:X.calm=true)(hi:PI X tg iter wi)(hg:∀(C:Addr)(s:Shared)(H:Hp)(fp:Zz),PG (X.block scope C NB s H fp) tg g)(ht:∀(C:Addr)(s:Shared)(H:Hp)(fp:Zz),vS (X.block scope C NB s H fp) ifs tt)(hr:∀(C:Addr)(s:Shared)(H:Hp)(fp:Zz)(D:Addr),PL (X.block scope C NB s H fp) D elt (⟨tg,iter,ifs,0⟩::rest) scope pos 1 tr)(hsw:swapsWith (.ListComp elt (⟨tg,iter,ifs,0⟩::rest) scope pos) (some (.Name y py)) spos.line X.env=pure true)(ha:∀g∈rest,g.is_async=0:=by decide)(hs:∀v,foldedSetIterable iter X.env v=pure v:=by intro _;rfl):PS X (.Assign [.Name y py] (.ListComp elt (⟨tg,iter,ifs,0⟩::rest) scope pos) spos) (J7 (uG wi vs.length ix g tt tr) (rP j)):=by
 intro pins s U H Dn I h;rw[exec_Assign_Name_used _ _ _ _ hsw];refine V0 (Xk (V0 ?_));show wpAny (model X.prog X.w) X.A (comprehension (.ListComp elt (⟨tg,iter,ifs,0⟩::rest) scope pos) scope X.env _ (newList []) false (eval iter X.env) (some (assign (.Name y py) X.env))>>=λ_=>pure ()) _ _ s;refine V0 (aT (wpAny_comprehension_free (use:=some (assign (.Name y py) X.env)) (Q:=λ_ s'=>SP X pins Dn .next s') rfl hs (B.clos I) B.kind B.names (aT (hi pins s U H _ I h) λv s1 h1=>aT h1 λitv s2 h2=>?_)) λ_ s' q=>V2 (V2 q));obtain⟨it,fp,tn,J,H2,e,I2,T,st2,f2,w⟩:=h2;subst e;refine vg (Qr:=λx H1=>rP j x U H1 Dn.nx) (RR:=λacc C=>compPost (model X.prog X.w) X.A X.xe (some (assign (.Name y py) X.env)) (λ_ s'=>SP X pins Dn .next s') acc C) B hc hg ht hr ha I2 T st2 f2 w λD C Hf s' m' I' hn' fC q=>?_;obtain⟨c0,c1,c2,c3,c4,c5⟩:=fC;show wpAny (model X.prog X.w) X.A (assign (.Name y py) X.env (.ref D)) _ _ s';refine wpAny_assign_Name (yc I' hN hj (.inl hy) (v:=.ref D) rfl (λs'' I'' ⟨a,sb,ha⟩=>?_) (.inr hy));have hCa:C≠a:=by rcases ha with e|e;{rw[e];exact c1};exact λz=>c4 y a e z.symm
 refine⟨m',hn'.sameBut sb hCa,λh3 hs3=>⟨_,Hf,?_,q⟩⟩;exact I''.turned (it:=C) (t':=s''.toks) (λb o hb e=>hs3.extBut b o hb e) c0 c1 c3 c4 c5
end
end L2
namespace Dv
open PySem L2 PySem.W
section
variable{X:Cx}{Ex:XK}{Y:A03}{tg:Expr}
def Km{a:Addr}(h:cP K jA a xs)(r:aC K jA xs ds):CJ K (LS K a) ds jA:=by intro i H Hm s1 s2;have q:cz K H a xs:=(cP.mono (s1.trans s2) h).sq;refine⟨λd e=>?_,λl=>⟨xs,q,by rw[r.len];exact l⟩⟩;obtain⟨v,e1,r1⟩:=r.get e;refine⟨⟨xs,v,q,e1⟩,λx H' y=>?_⟩;obtain⟨rfl,y⟩:=y;have:=y xs q;rw[e1]at this;cases this;exact⟨Hm,aj.refl _,s2,aj.refl _,λ_ _=>.inl rfl,r1.mono s1⟩
def MC{a:Addr}(h:jA a=some (.tup xs))(r:aC K jA xs ds):CJ K (LF K a) ds jA:=by intro i H Hm s1 s2;have q:cG K H a xs:=cG.of (s2 _ _ (s1 _ _ h));refine⟨λd e=>?_,λl=>⟨xs,q,by rw[r.len];exact l⟩⟩;obtain⟨v,e1,r1⟩:=r.get e;refine⟨⟨xs,v,q,e1⟩,λx H' y=>?_⟩;obtain⟨rfl,y⟩:=y;have:=y xs q;rw[e1]at this;cases this;exact⟨Hm,aj.refl _,s2,aj.refl _,λ_ _=>.inl rfl,r1.mono s1⟩
def Nc{lo:Int}{n i:Nat}(h:(k8 lo n)[i]?=some d):i<n/\d=.int (lo+i):=by unfold k8 at h;rw[VQ]at h;by_cases c:i<n;{rw[W7 c]at h;cases h;exact⟨c,rfl⟩};rw[Vr (by rw[VI];lia)]at h;cases h
def CY{lo:Int}{n:Nat}:CJ K (G4 lo n) (k8 lo n) jA:=by intro i H Hm s1 s2;refine⟨λd e=>?_,λl=>?_⟩;{obtain⟨l,rfl⟩:=Nc e;refine⟨l,λx H' y=>?_⟩;obtain⟨rfl,rfl⟩:=y;exact⟨Hm,aj.refl _,s2,aj.refl _,λ_ _=>.inl rfl,.int _⟩};unfold k8 at l;rw[V4,VI]at l;exact l
def IY{T:Addr}(s:aj Hm H)(hT:H T=none)(r1:Rp K Hm x a)(r2:Rp K Hm y b):∃Hm',aj Hm Hm'/\aj Hm' (upd H T (.tup [x,y]))/\aj H (upd H T (.tup [x,y]))/\(∀a,H a≠none->OE (Hm' a) (Hm a))/\Rp K Hm' (.ref T) (.tuple [a,b]):=by have n:=j7 s hT;have s2:=cE (o:=.tup [x,y]) n;refine⟨upd Hm T (.tup [x,y]),s2,λb o e=>?_,cE hT,λa ha=>.inl (aA λz=>ha (z▸hT)),.tup aQ (.cons (r1.mono s2) (.cons (r2.mono s2) .nil))⟩;by_cases c:b=T;{rw[c,aQ]at e⊢;exact e};rw[aA c]at e⊢;exact s _ _ e
def FI{i:Nat}(h:(j8 ds)[i]?=some d):∃e,ds[i]?=some e/\d=.tuple [.int i,e]:=by
 unfold j8 at h;rw[VQ,List.getElem?_zipIdx]at h;cases e:ds[i]? with
 |none=>rw[e]at h;cases h
 |some a=>rw[e]at h;simp at h;exact⟨a,rfl,h.symm⟩
def Gs(ds:Zw):(j8 ds).length=ds.length:=by unfold j8;rw[V4,List.length_zipIdx]
def Jv{a:Addr}(h:cP K jA a xs)(r:aC K jA xs ds):CJ K (QN K a) (j8 ds) jA:=by intro i H Hm s1 s2;have q:cz K H a xs:=(cP.mono (s1.trans s2) h).sq;refine⟨λd e=>?_,λl=>⟨xs,q,by rw[r.len,<-Gs];exact l⟩⟩;obtain⟨d0,e0,rfl⟩:=FI e;obtain⟨v,e1,r1⟩:=r.get e0;refine⟨⟨xs,v,q,e1⟩,λx H' y=>?_⟩;obtain⟨T,hT,rfl,y⟩:=y;obtain⟨x',e2,rfl⟩:=y xs q;rw[e1]at e2;cases e2;exact IY s2 hT (.int _) (r1.mono s1)
open PyProof.Rows in
def Mc{a:Addr}(I:Inv X pins U H s)(hq:cz X.K H a xs)(q:R (LS X.K a) H):wpAny (model X.prog X.w) X.A (pyIter (.ref a)) (KR X pins U tg R) E s:=by
 obtain⟨its,rv,p,hz⟩:=I.list hq;refine Xw p.isList ?_;refine⟨s.heap.objs.size,[s.heap.objs.size],_,_,H,rfl,I.kept (t':=s.toks) λb o e=>VM _ e,Gn a _,⟨_,Vj _ rfl,rfl,rfl⟩,λb hb=>?_,q⟩;have e:b=s.heap.objs.size:=by simpa using hb
 subst e;exact I.Bw (V3 _) (I.hok.fresh (V3 _))
open PyProof.Rows in
def Od{a:Addr}(I:Inv X pins U H s)(hq:cG X.K H a xs)(q:R (LF X.K a) H):wpAny (model X.prog X.w) X.A (pyIter (.ref a)) (KR X pins U tg R) E s:=by
 obtain⟨its,rv,p,hz⟩:=I.tuple hq;refine wpAny_pyIter_tuple (show s.heap.IsTuple a its.toArray from p) ?_;refine⟨s.heap.objs.size,[s.heap.objs.size],_,_,H,rfl,I.kept (t':=s.toks) λb o e=>VM _ e,EN a _,⟨_,Vj _ rfl,rfl,rfl⟩,λb hb=>?_,q⟩;have e:b=s.heap.objs.size:=by simpa using hb
 subst e;exact I.Bw (V3 _) (I.hok.fresh (V3 _))
def bZ(h:SE X Ex Y e d):SI X Ex Y tg e (iE d):=by
 rw[Tc];refine⟨λU H R=>WE X e U H λx H1=>(∃a,x=.ref a/\(∃xs,cz X.K H1 a xs)/\R (LS X.K a) H1)\/∃a,x=.ref a/\(∃xs,cG X.K H1 a xs)/\R (LF X.K a) H1,?_,?_⟩;{intro pins s U H R I h;refine aT (h pins s I) λv s1 ⟨x,H1,I1,r1,q1⟩=>?_;rcases q1 with⟨a,rfl,⟨xs,hq⟩,q⟩|⟨a,rfl,⟨xs,hq⟩,q⟩;{cases r1;exact Mc I1 hq q};cases r1;exact Od I1 hq q};intro g x E U H Hm F P R hx Rl p q;refine h g x E U H Hm F _ _ hx Rl p λE' k v u H' Hm' F' fp p' R' s' T=>?_;obtain⟨hk,ds,e1,p'⟩:=p';obtain⟨Hm2,s2,R2,r2⟩:=T.gj R' hk;cases r2 with
 |lst a r=>cases e1;exact .inl ⟨_,rfl,⟨_,(cP.mono R2.sub a).sq⟩,q _ _ _ _ _ _ p' R2 (s'.trans s2) (Km a r)⟩
 |tup a r=>cases e1;exact .inr ⟨_,rfl,⟨_,cG.of (R2.sub _ _ a)⟩,q _ _ _ _ _ _ p' R2 (s'.trans s2) (MC a r)⟩
 |_=>cases e1
def qh:Zw->Option (Zw)
 |[.int j]=>@ite _ (-(2^62)<=j/\j<2^62) (Classical.propDecidable _) (some (k8 0 j.toNat)) none
 |_=>none
def GK:Zw->Option (Zw)
 |[.int i,.int j]=>@ite _ (-(2^62)<=i/\i<2^62/\-(2^62)<=j/\j<2^62) (Classical.propDecidable _) (some (k8 i (j-i).toNat)) none
 |_=>none
def zF{g:Gh}{U:St}{E:En}{H Hm:Hp}{F:Nat->Zz}{as:List Arg}{os:A07}{vs:List V}{ds:Zw}{K:Frag}(R:Rl K g E U H Hm F)(G:Got K U Hm as os vs)(h:fill as E os=some ds):aC K H vs ds:=oj R R.sub G h λ_ _ _ _=>rfl
def SH(hg:Gl X "range")(hm:X.mg "range"=none)(ns:noStar a=true)(S:aV X Ex Y [a] as):SI X Ex Y tg (.Call (.Name "range" p) [a] [] pos) (mS qh as):=by refine⟨_,Hi hg hm (d9 (es:=[a]) (by rw[VP,ns];rfl)) (bG ns),λg x E U H Hm F P R hx Rl p q=>?_⟩;refine kC hx S Rl p λE1 os vs H1 Hm1 F1 p1 R1 s1 G=>?_;replace p1:aH (cZ as E1 os) _:=p1;rw[<-bw,e7]at p1;obtain⟨ds,hf,p1⟩:=p1;rw[<-bw]at p1;obtain⟨xs,hg',p1⟩:=p1;have r:=zF R1 G hf;unfold qh at hg';split at hg';{rename_i j;obtain⟨v,rfl,r1⟩:=ee r;cases r1;split at hg';{rename_i c;cases hg';exact⟨j,rfl,c.1,c.2,q _ _ _ _ _ _ p1 R1 s1 CY⟩};cases hg'};cases hg'
def RQ(hg:Gl X "range")(hm:X.mg "range"=none)(ns:noStar a=true)(ns2:noStar b=true)(S:aV X Ex Y [a,b] as):SI X Ex Y tg (.Call (.Name "range" p) [a,b] [] pos) (mS GK as):=by refine⟨_,Gx hg hm (d9 (es:=[a,b]) (by rw[VP,VP,ns,ns2];rfl)) ((bG ns).trans (by rw[bG ns2];rfl)) (bG ns2),λg x E U H Hm F P R hx Rl p q=>?_⟩;refine kC hx S Rl p λE1 os vs H1 Hm1 F1 p1 R1 s1 G=>?_;replace p1:aH (cZ as E1 os) _:=p1;rw[<-bw,e7]at p1;obtain⟨ds,hf,p1⟩:=p1;rw[<-bw]at p1;obtain⟨xs,hg',p1⟩:=p1;have r:=zF R1 G hf;unfold GK at hg';split at hg';{rename_i i j;obtain⟨v,w,rfl,r1,r2⟩:=jG r;cases r1;cases r2;split at hg';{rename_i c;cases hg';exact⟨i,j,rfl,c,q _ _ _ _ _ _ p1 R1 s1 CY⟩};cases hg'};cases hg'
def Sx{x1:Nat}(hg:Gl X "enumerate")(hm:X.mg "enumerate"=none)(ns:noStar e=true)(h:SE X Ex Y e d):SI X Ex Y (.Tuple elts x1 tp) (.Call (.Name "enumerate" p) [e] [] pos) (yD d):=by rw[OI];refine⟨_,MM hg hm (d9 (es:=[e]) (by rw[VP,ns];rfl)) (bG ns),λg x E U H Hm F P R hx Rl p q=>?_⟩;refine h g x E U H Hm F _ _ hx Rl p λE' k v u H' Hm' F' fp p' R' s' T=>?_;obtain⟨hk,ds,rfl,p'⟩:=p';obtain⟨Hm2,s2,R2,r2⟩:=T.gj R' hk;obtain⟨a,xs,rfl,ha,r⟩:=gU r2;exact⟨a,rfl,⟨xs,(cP.mono R2.sub ha).sq⟩,q _ _ _ _ _ _ p' R2 (s'.trans s2) (Jv ha r)⟩
end
def WG(X:Cx)(tg:Expr):TG:=λv U H Q=>∀(pins:Zn)(s:Shared)(u:Value),Inv X pins U H s->RelV v u->wpAny (model X.prog X.w) X.A (assign tg X.env u) (λ_ s'=>∃σ' H',Inv X pins σ' H' s'/\Q σ' H') X.xe s
def WG.of(h:PG X tg t)(q:t v U H Q):WG X tg v U H Q:=λpins s u I r=>h pins s U H v u Q I r q
def x9(X:Cx)(ifs:A01):TT:=λU H Q=>∀(pins:Zn)(s:Shared),Inv X pins U H s->wpAny (model X.prog X.w) X.A (forIn ifs true λc r=>if r=true then do let ok <-isTrue c X.env (eval c X.env);pure (ForInStep.yield ok)else pure (ForInStep.yield r)) (TP X pins U Q) X.xe s
def x9.of(h:vS X ifs t)(q:t U H Q):x9 X ifs U H Q:=λpins s I=>h pins s U H Q I q
def WL(X:Cx)(D:Addr)(elt:Expr)(gens:Zl)(scope:Scope)(pos:Pos) (k:Nat):TL:=λys U H Q=>
 X.s₀.heap.objs.size<=D->(∀y c,X.env.cells.lookup y=some c->c≠D)->(∀e s',X.xe e s'->False)->
 ∀(pins:Zn)(s:Shared)(its:Zy) (nn:Nat)(fin:Sem Fin)(Qf:Fin->Shared->Prop)(E:Zk),
  (∀p∈X.pn++pins,p.1≠D)->Inv X ((D,gJ its nn)::pins) U H s->Vals ys its->ys.length<=sizeLine->
  (∀s' ys' its' nn' σ' H',Inv X ((D,gJ its' nn')::pins) σ' H' s'->Vals ys' its'->ys'.length<=sizeLine->Q ys' σ' H'->wpAny (model X.prog X.w) X.A fin Qf E s')->
  wpAny (model X.prog X.w) X.A (iO elt gens scope pos k (.ref D) X.env fin) Qf E s
def S3{D:Addr}{k:Nat}:PL X D elt gens scope pos k (WL X D elt gens scope pos k):=λh1 h2 h3 pins s U H ys its nn Q fin Qf E hp I rv hz h hf=>h h1 h2 h3 pins s its nn fin Qf E hp I rv hz hf
def WL.of{D:Addr}{k:Nat}(h:PL X D elt gens scope pos k t)(q:t ys U H Q):WL X D elt gens scope pos k ys U H Q:=λh1 h2 h3 pins s its nn fin Qf E hp I rv hz hf=>h h1 h2 h3 pins s U H ys its nn Q fin Qf E hp I rv hz q hf
def Agree(cs:A03)(U σ':St):Prop:=U.length=σ'.length/\∀j,j∉cs->σ'[j]?=U[j]?
def Agree.refl(cs:A03)(U:St):Agree cs U U:=⟨rfl,λ_ _=>rfl⟩
theorem Agree.trans(h:Agree cs a b)(k:Agree cs b c):Agree cs a c:=⟨h.1.trans k.1,λj hj=>(k.2 j hj).trans (h.2 j hj)⟩
theorem Agree.symm(h:Agree cs a b):Agree cs b a:=⟨h.1.symm,λj hj=>(h.2 j hj).symm⟩
section
variable{K:Frag}{g:Gh}{E E0:En}{U σ':St}{H Hm:Hp}{F:Nat->Zz}
def Rl.SD(R:Rl K g E U H Hm F){i:Nat}(o:bN E i=true)(v:Option V):Rl K g (E.set i none) (U.set i v) H Hm (λj=>if j=i then []else F j) where
 len:=by rw[Vs,Vs];exact R.len
 sub:=R.sub
 slot:=λj k' d' e'=>by
  by_cases c:j=i
  .subst c;rw[aO (gk o)]at e';cases e'
  .rw[aq (Ne.symm c)]at e';obtain⟨u,g1,g2⟩:=R.slot j k' d' e';exact⟨u,by rw[aq (Ne.symm c)];exact g1,by rw[if_neg c];exact g2⟩
 off:=λj a ha=>by
  by_cases c:j=i
  .rw[if_pos c]at ha;cases ha
  .rw[if_neg c]at ha;exact R.off j a ha
 bI:=λj a ha=>by
  by_cases c:j=i
  .rw[if_pos c]at ha;cases ha
  .rw[if_neg c]at ha;exact R.bI j a ha
 aW:=λj l a g1 g2=>by
  by_cases c:j=i
  .rw[if_pos c]at g1;cases g1
  .rw[if_neg c]at g1
   by_cases c':l=i
   .rw[if_pos c']at g2;cases g2
   .rw[if_neg c']at g2;exact R.aW j l a g1 g2
 fr:=R.fr
 new:=λj a ha=>by
  by_cases c:j=i
  .rw[if_pos c]at ha;cases ha
  .rw[if_neg c]at ha;exact R.new j a ha
 pin:=λq hq=>by
  obtain⟨g1,ds',g2⟩:=R.pin q hq;have c:i≠q.1:=λz=>by
   unfold bN at o;rw[z,g2]at o;cases o
  exact⟨by rw[aq c];exact g1,ds',by rw[aq c];exact g2⟩
 old:=R.old
theorem Rl.bE:∀{cs:A03}{E E0:En}{U:St}{F:Nat->Zz},Rl K g E U H Hm F->Dv.bE cs E=some E0->∃σ' F',Rl K g E0 σ' H Hm F'/\Agree cs U σ'/\(∀c∈cs,σ'[c]?=some none/\E0[c]?=some none)
 |[],E,E0,U,F,R,h=>by cases h;exact⟨U,F,R,Agree.refl _ _,λ_ z=>by cases z⟩
 |c::cs,E,E0,U,F,R,h=>by
  rw[Dv.bE]at h;by_cases o:bN E c=true
  .rw[if_pos o]at h;have R1:=R.SD o none;obtain⟨σ',F',R',a,n⟩:=Rl.bE (cs:=cs) R1 h;have lc:=gk o;have keep:∀{l:A03}{E E0:En},Dv.bE l E=some E0->∀j,j∉l->E0[j]?=E[j]?:=by
    intro l;induction l with
    |nil=>intro E E0 h j _;cases h;rfl
    |cons i l ih=>intro E E0 h j hj;rw[Dv.bE]at h;by_cases o:bN E i=true;{rw[if_pos o]at h;have ne:i≠j:=λz=>hj (z▸V1);exact(ih h j λz=>hj (V5 _ z)).trans (aq ne)};rw[if_neg o]at h;cases h
   refine⟨σ',F',R',⟨by rw[<-a.1,Vs],λj hj=>?_⟩,λd hd=>?_⟩;{have ne:c≠j:=λz=>hj (z▸V1);exact(a.2 j λz=>hj (V5 _ z)).trans (aq ne)};by_cases m:d∈cs;{exact n d m};have e:d=c:=(V7.mp hd).resolve_right m;subst e;exact⟨(a.2 d m).trans (aO (R.len▸lc)),(keep h d m).trans (aO lc)⟩
  rw[if_neg o]at h;cases h
def Rl.agree(R:Rl K g E U H Hm F)(a:Agree cs U σ')(n:∀c∈cs,E[c]?=some none):Rl K g E σ' H Hm F where
 len:=R.len.trans a.1
 sub:=R.sub
 slot:=λj k d e=>by
  obtain⟨v,h1,h2⟩:=R.slot j k d e;refine⟨v,?_,h2⟩;rw[a.2 j λz=>by rw[n j z]at e;cases e]
  exact h1
 off:=R.off
 bI:=R.bI
 aW:=R.aW
 fr:=R.fr
 new:=R.new
 pin:=λq hq=>by
  obtain⟨g1,ds',g2⟩:=R.pin q hq;refine⟨?_,ds',g2⟩;rw[a.2 q.1 λz=>by rw[n q.1 z]at g2;cases g2]
  exact g1
 old:=R.old
end
inductive jQ(X:Cx)(Ex:XK)(Y:A03):A01->DT->Prop
 |nil:jQ X Ex Y [] cY
 |one {e:Expr}{t:DT}:ST X Ex Y e t->jQ X Ex Y [e] t
def jQ.ok(h:jQ X Ex Y ifs t){F:Nat->Zz}(hx:XL X Ex x g)(R:Rl X.K g E U H Hm F)(p:t x E P)(q:∀E' b H' Hm' F',P E' b->Rl X.K g E' U H' Hm' F'->aj Hm Hm'->Q b H'):x9 X ifs (sel Y U) H Q:=by
 cases h with
 |nil=>exact x9.of NJ (q _ _ _ _ _ p R (aj.refl _))
 |one h=>exact x9.of (Ml jX) (h g x E U H Hm F P Q hx R p q)
def SL(X:Cx)(Y cs:A03)(D:Addr)(elt:Expr)(gens:Zl)(scope:Scope)(pos:Pos) (k:Nat)(dc:DC):Prop:=
 ∀(g:Gh)(E:En)(U:St)(H Hm:Hp)(F:Nat->Zz)(ys:List V)(dys:Zw)(P:Zw->En->Prop)(Q:List V->St->Hp->Prop),Rl X.K g E U H Hm F->aC X.K Hm ys dys->dc xF dys E P->
  (∀E' dys' ys' σ' H' Hm' F',P dys' E'->Rl X.K g E' σ' H' Hm' F'->aj Hm Hm'->aC X.K Hm' ys' dys'->Agree cs U σ'->Q ys' (sel Y σ') H')->WL X D elt gens scope pos k ys (sel Y U) H Q
section
variable{X:Cx}{Ex:XK}{Y cs:A03}{D:Addr}{elt tg iter:Expr}{ifs:A01}{gens:Zl}{scope:Scope}{pos:Pos}{k:Nat}
def Nr(h:SE X Ex Y elt d)(hk:gens[k]?=none):SL X Y cs D elt gens scope pos k (bM sizeLine d):=by intro g E U H Hm F ys dys P Q R r p q;refine WL.of (DA bB hk) (h g xF E U H Hm F _ _ XL.no R p λE1 k1 v u H1 Hm1 F1 fp p1 R1 s1 T=>?_);obtain⟨hk,hl,p1⟩:=p1;obtain⟨Hm2,s2,R2,r2⟩:=T.gj R1 hk;exact⟨by rw[r.len];exact hl,q _ _ _ _ _ _ _ p1 R2 (s1.trans s2) ((r.mono (s1.trans s2)).snoc r2) (Agree.refl _ _)⟩
def AF{xs:Zw}{t:Tg}{c:DT}{r:DC}{G:TG}{tt:TT}{tr:TL}{I:Nat->Zw->En->Prop}{U:St}{F1:Nat->Zz}{Q:List V->St->Hp->Prop}(hts:∀i∈t.slots,i∈cs)(it1:CJ K J xs Hm1)(R1:Rl K g E1 U H1 Hm1 F1)(r0:aC K Hm1 ys dys)(i0:I 0 dys E1)(hG:∀{d:PyData}{v:V}{E E2:En}{U:St}{H Hm:Hp}{F:Nat->Zz}{Q:St->Hp->Prop},cT t d E=some E2->Rp K Hm v d->Rl K g E U H Hm F->(∀σ' F',Rl K g E2 σ' H Hm F'->(∀j,j∉t.slots->σ'[j]?=U[j]?)->Q (sel Y σ') H)->G v (sel Y U) H Q)(hT:∀{E:En}{U:St}{H Hm:Hp}{F:Nat->Zz}{P:A0A}{Q:Bool->Hp->Prop},Rl K g E U H Hm F->c xF E P->(∀E' b H' Hm' F',P E' b->Rl K g E' U H' Hm' F'->aj Hm Hm'->Q b H')->tt (sel Y U) H Q)(hR:∀{E:En}{U:St}{H Hm:Hp}{F:Nat->Zz}{ys:List V}{dys:Zw}{P:Zw->En->Prop}{Q:List V->St->Hp->Prop},Rl K g E U H Hm F->aC K Hm ys dys->r xF dys E P->(∀E' dys' ys' σ' H' Hm' F',P dys' E'->Rl K g E' σ' H' Hm' F'->aj Hm Hm'->aC K Hm' ys' dys'->Agree cs U σ'->Q ys' (sel Y σ') H')->tr ys (sel Y U) H Q)(step:∀i d ys E,xs[i]?=some d->I i ys E->∃E2,cT t d E=some E2/\c xF E2 λE3 b=>if b=true then r xF ys E3 (I (i+1))else I (i+1) ys E3)(fin:∀E' dys' ys' σ' H' Hm' F',I xs.length dys' E'->Rl K g E' σ' H' Hm' F'->aj Hm1 Hm'->aC K Hm' ys' dys'->Agree cs U σ'->Q ys' (sel Y σ') H'):Eb J G tt tr ys (sel Y U) H1 Q:=by
 refine⟨λi m ys τ H'=>m=xs.length-i/\i<=xs.length/\∃E' dys' σ' Hm' F',I i dys' E'/\Rl K g E' σ' H' Hm' F'/\aj Hm1 Hm'/\aC K Hm' ys dys'/\Agree cs U σ'/\τ=sel Y σ',⟨xs.length,by simp,VW _,E1,dys,U,Hm1,F1,i0,R1,aj.refl _,r0,Agree.refl _ _,rfl⟩,?_⟩;rintro i m ys τ H2⟨rfl,hi,E2,dys2,σ2,Hm2,F2,i2,R2,s2,r2,a2,rfl⟩;obtain⟨go,stop⟩:=it1 i H2 Hm2 s2 R2.sub;by_cases c':i<xs.length
 .obtain⟨go,sJ⟩:=go xs[i] (VX c');refine .inr ⟨go,λys τ H'=>i+1<=xs.length/\∃E' dys' σ' Hm' F',I (i+1) dys' E'/\Rl K g E' σ' H' Hm' F'/\aj Hm1 Hm'/\aC K Hm' ys dys'/\Agree cs U σ'/\τ=sel Y σ',λys τ H' z=>⟨xs.length-(i+1),by lia,rfl,z⟩,λx H3 y=>?_⟩;obtain⟨Hm3,t1,t2,t3,old,rx⟩:=sJ x H3 y;have R3:=R2.turn t1 t2 t3 old;obtain⟨E4,e4,p4⟩:=step i xs[i] dys2 E2 (VX c') i2;refine hG e4 rx R3 λσ4 F4 R4 ag=>?_;have a4:Agree cs U σ4:=a2.trans ⟨by rw[<-R3.len,<-R4.len];exact(show E2.length=E4.length from R3.len.trans (by
   have h1:=R3.len;have h2:=R4.len;have:E4.length=E2.length:=by
    have go:∀{is:A03}{ds:Zw}{E E':En},b9 is ds E=some E'->E'.length=E.length:=by
     intro is
     induction is with
     |nil=>intro ds E E' h;cases ds with|nil=>cases h;rfl|cons _ _=>cases h
     |cons j is ih=>
      intro ds E E' h;cases ds with
      |nil=>cases h
      |cons d ds=>
       rw[b9]at h
       by_cases o:bN E j=true
       .rw[if_pos o]at h;rw[ih h,Vs]
       .rw[if_neg o]at h;cases h
    cases t with
    |nm j=>exact go (is:=[j]) e4
    |tp js=>
     cases hd:xs[i]with
     |tuple ds=>rw[hd]at e4;exact go (is:=js) e4
     |_=>rw[hd]at e4;cases e4
   lia)),λj hj=>ag j λz=>hj (hts j z)⟩
  refine hT R4 p4 λE5 b H5 Hm5 F5 p5 R5 s5=>?_;cases b with
  |true=>refine qY (hR R5 (r2.mono (t1.trans s5)) (by simpa using p5) λE6 dys6 ys6 σ6 H6 Hm6 F6 p6 R6 s6 r6 a6=>?_);exact⟨c',E6,dys6,σ6,Hm6,F6,p6,R6,s2.trans (t1.trans (s5.trans s6)),r6,a4.trans a6,rfl⟩
  |false=>exact qy ⟨c',E5,dys2,σ4,Hm5,F5,by simpa using p5,R5,s2.trans (t1.trans s5),r2.mono (t1.trans s5),a4,rfl⟩
 have e:i=xs.length:=by lia
 subst e;exact .inl ⟨stop (V3 _),fin _ _ _ _ _ _ _ i2 R2 s2 r2 a2⟩
def Ov(hc:X.calm=true)(hN:X.N.Nodup)(nd:Y.Nodup)(hi:SI X Ex Y tg iter di)(ht:gH X Y tg t)(hts:∀i∈t.slots,i∈cs)(hif:jQ X Ex Y ifs c)(hr:SL X Y cs D elt gens scope pos (k+1) r)(hk:gens[k]?=some ⟨tg,iter,ifs,0⟩)(ha:∀g∈gens,g.is_async=0)(hs:∀v,foldedSetIterable iter X.env v=pure v):SL X Y cs D elt gens scope pos k (Dt di t c r):=by intro g E U H Hm F ys dys P Q R rr p q;obtain⟨wi,hpi,hw⟩:=hi;obtain⟨G,g1,g2⟩:=vU hc hN nd ht;refine WL.of (O6 (tt:=x9 X ifs) hc hpi g1 (λpins s U H Q I h=>h pins s I) S3 hk ha hs) (hw g xF E U H Hm F _ _ XL.no R p λE1 xs J H1 Hm1 F1 p1 R1 s1 it1=>?_);obtain⟨I,i0,step,fin⟩:=p1;exact AF (cs:=cs) (t:=t) (c:=c) (r:=r) hts it1 R1 (rr.mono s1) i0 (λh1 h2 h3 h4=>g2 h1 h2 h3 h4) (λh1 h2 h3=>hif.ok XL.no h1 h2 h3) (λh1 h2 h3 h4=>hr g _ _ _ _ _ _ _ _ _ h1 h2 h3 h4) step λE' dys' ys' σ' H' Hm' F' i R' s' r' a'=>q _ _ _ _ _ _ _ (fin _ _ i) R' (s1.trans s') r' a'
def KI:caps ix (sel Y U)=ix.map λi=>(((Y[i]?).map λm=>(U[m]?).join)).join:=by unfold caps sel;refine W3 λi _=>?_;rw[VQ]
def cK(Y cs ix:A03):A03:=cs++ix.map λi=>(Y[i]?).getD 0
def De(hix:∀i∈ix,i<Y.length)(aW:∀c∈cs,c∉Y)(a:Agree cs U σ0)(n:∀c∈cs,σ0[c]?=some none):List.replicate cs.length none++caps ix (sel Y U)=sel (cK Y cs ix) σ0:=by unfold cK;rw[KI];unfold sel;rw[VT,VR];congr 1;{refine(List.eq_replicate_iff.mpr ⟨V4 ..,λx hx=>?_⟩).symm;obtain⟨c,hc,rfl⟩:=V6.mp hx;rw[n c hc];rfl};refine W3 λi hi=>?_;have l:=hix i hi;show((Y[i]?).map λm=>(U[m]?).join).join=(σ0[(Y[i]?).getD 0]?).join;rw[VX l];show(U[Y[i]]?).join=(σ0[Y[i]]?).join;rw[a.2 Y[i] λz=>aW _ z (Wj l)]
def Du{rest:Zl}{vs NB:A05}{ix:A03}{di:DI}{t:Tg}{c:DT}{r:DC}(B:cS X scope vs NB ix)(hc:X.calm=true)(hcs:cs.length=vs.length)(hix:∀i∈ix,i<Y.length)(aW:∀c∈cs,c∉Y)(nd:(cK Y cs ix).Nodup)(hi:SI X Ex Y tg iter di)(ht:∀(C:Addr)(s:Shared)(H:Hp)(fp:Zz),gH (X.block scope C NB s H fp) (cK Y cs ix) tg t)(hts:∀i∈t.slots,i∈cs)(hif:∀(C:Addr)(s:Shared)(H:Hp)(fp:Zz),jQ (X.block scope C NB s H fp) E0 (cK Y cs ix) ifs c)(hr:∀(C:Addr)(s:Shared)(H:Hp)(fp:Zz)(D:Addr),SL (X.block scope C NB s H fp) (cK Y cs ix) cs D elt (⟨tg,iter,ifs,0⟩::rest) scope pos 1 r)(ha:∀g∈rest,g.is_async=0)(hs:∀v,foldedSetIterable iter X.env v=pure v){w:(V->Hp->Prop)->St->Hp->Prop}(hw:∀{wi:TI}{G:TG}{tt:TT}{tr:TL}{U:St}{H:Hp}{Q:VK},PI X tg iter wi->(∀(C:Addr)(s:Shared)(H:Hp)(fp:Zz),PG (X.block scope C NB s H fp) tg G)->(∀(C:Addr)(s:Shared)(H:Hp)(fp:Zz),vS (X.block scope C NB s H fp) ifs tt)-> (∀(C:Addr)(s:Shared)(H:Hp)(fp:Zz)(D:Addr),PL (X.block scope C NB s H fp) D elt (⟨tg,iter,ifs,0⟩::rest) scope pos 1 tr)->uG wi vs.length ix G tt tr U H Q->w Q U H)(g:Gh)(x:XC)(E:En)(U:St)(H Hm:Hp)(F:Nat->Zz)(P:A06)(Q:VK)(hx:XL X Ex x g)(R:Rl X.K g E U H Hm F)(p:bJ cs di t c r x E P)(q:∀E' k v u H' Hm' F' fp,P E' k v->Rl X.K g E' U H' Hm' F'->aj Hm Hm'->Tm X.K g F' H' Hm' k u v fp->Q u H'):w Q (sel Y U) H:=by
 obtain⟨wi,hpi,hwi⟩:=hi;refine hw (wi:=wi) (G:=λv U H Q=>∀(C:Addr)(s:Shared)(H2:Hp)(fp:Zz),WG (X.block scope C NB s H2 fp) tg v U H Q) (tt:=λU H Q=>∀(C:Addr)(s:Shared)(H2:Hp)(fp:Zz),x9 (X.block scope C NB s H2 fp) ifs U H Q)
  (tr:=λys U H Q=>∀(C:Addr)(s:Shared)(H2:Hp)(fp:Zz)(D:Addr),WL (X.block scope C NB s H2 fp) D elt (⟨tg,iter,ifs,0⟩::rest) scope pos 1 ys U H Q) hpi (λC s H2 fp pins s' U H v u Q I r h=>h C s H2 fp pins s' u I r) (λC s H2 fp pins s' U H Q I h=>h C s H2 fp pins s' I)
  (λC s H2 fp D h1 h2 h3 pins s' U H ys its nn Q fin Qf E hp I rv hz h hf=>h C s H2 fp D h1 h2 h3 pins s' its nn fin Qf E hp I rv hz hf) ?_
 refine hwi g x E U H Hm F _ _ hx R p λE1 xs J H1 Hm1 F1 p1 R1 s1 it1=>?_;obtain⟨E0',I,hcl,i0,step,fin⟩:=p1;obtain⟨σ0,F0,R0,a0,n0⟩:=R1.bE hcl;rw[<-hcs,De hix aW a0 λc hc=>(n0 c hc).1];refine AF (cs:=cs) (t:=t) (c:=c) (r:=r) hts it1 R0 .nil i0 (λh1 h2 h3 h4 C s H2 fp=>?_) (λh1 h2 h3 C s H2 fp=>(hif C s H2 fp).ok XL.no h1 h2 h3) (λh1 h2 h3 h4 C s H2 fp D=>hr C s H2 fp D g _ _ _ _ _ _ _ _ _ h1 h2 h3 h4) step λE' dys' ys' σ' H' Hm' F' i R' s' r' a' p hp=>?_;{obtain⟨G,g1,g2⟩:=vU (X:=X.block scope C NB s H2 fp) hc B.nd nd (ht C s H2 fp);exact WG.of g1 (g2 h1 h2 h3 h4)};obtain⟨E2,hcl2,p2⟩:=fin _ _ i;obtain⟨σ2,F2,R2,a2,n2⟩:=R'.bE hcl2;have R3:=R2.agree (cs:=cs) ((a0.trans a').trans a2).symm λc hc=>(n2 c hc).2;have s2:=cE (o:=.lst ys') hp;have R4:=R3.grow (H':=upd H' p (.lst ys')) s2 (aj.refl _) (R3.sub.trans s2) (λi a ha=>R3.off i a ha) λ_ _=>.inl rfl;refine q _ _ _ _ _ Hm' F2 [p] p2 R4 (s1.trans s') ⟨.ow aQ r',λa ha=>?_,λa ha i=>?_,λa ha=>?_⟩;{rw[VB.mp ha];exact R3.vF hp};{rw[VB.mp ha];exact R3.fresh hp};rw[VB.mp ha];exact R3.gK hp
end
section
variable{X:Cx}{Ex:XK}{Y cs:A03}{elt tg iter:Expr}{ifs:A01}{scope:Scope}{pos:Pos}
def OL{rest:Zl}{vs NB:A05}{ix:A03}{di:DI}{t:Tg}{c:DT}{r:DC}(B:cS X scope vs NB ix)(hc:X.calm=true)(hcs:cs.length=vs.length)(hix:∀i∈ix,i<Y.length)(aW:∀c∈cs,c∉Y)(nd:(cK Y cs ix).Nodup)(hi:SI X Ex Y tg iter di)(ht:∀(C:Addr)(s:Shared)(H:Hp)(fp:Zz),gH (X.block scope C NB s H fp) (cK Y cs ix) tg t)(hts:∀i∈t.slots,i∈cs)(hif:∀(C:Addr)(s:Shared)(H:Hp)(fp:Zz),jQ (X.block scope C NB s H fp) E0 (cK Y cs ix) ifs c)(hr:∀(C:Addr)(s:Shared)(H:Hp)(fp:Zz)(D:Addr),SL (X.block scope C NB s H fp) (cK Y cs ix) cs D elt (⟨tg,iter,ifs,0⟩::rest) scope pos 1 r)(ha:∀g∈rest,g.is_async=0)(hs:∀v,foldedSetIterable iter X.env v=pure v):SE X Ex Y (.ListComp elt (⟨tg,iter,ifs,0⟩::rest) scope pos) (bJ cs di t c r):=λg x E U H Hm F P Q hx R p q=>
 Du B hc hcs hix aW nd hi ht hts hif hr ha hs (w:=λQ U H=>WE X (.ListComp elt (⟨tg,iter,ifs,0⟩::rest) scope pos) U H Q) (λh1 h2 h3 h4 h5=>WE.of (JP B hc h1 h2 h3 h4 ha hs) h5) g x E U H Hm F P Q hx R p q
def SA{j:Nat}{y:Str}{py spos:Pos}(hN:X.N.Nodup)(hj:X.N[j]?=some y)(hy:X.env.scope.names.lookup y=some .local){rest:Zl}{vs NB:A05}{ix:A03}{di:DI}{t:Tg}{c:DT}{r:DC}(B:cS X scope vs NB ix)(hc:X.calm=true)(hcs:cs.length=vs.length)(hix:∀i∈ix,i<(aM X).length)(aW:∀c∈cs,c∉aM X)(nd:(cK (aM X) cs ix).Nodup)(hi:SI X Ex (aM X) tg iter di)(ht:∀(C:Addr)(s:Shared)(H:Hp)(fp:Zz),gH (X.block scope C NB s H fp) (cK (aM X) cs ix) tg t)(hts:∀i∈t.slots,i∈cs)(hif:∀(C:Addr)(s:Shared)(H:Hp)(fp:Zz),jQ (X.block scope C NB s H fp) E0 (cK (aM X) cs ix) ifs c)(hr:∀(C:Addr)(s:Shared)(H:Hp)(fp:Zz)(D:Addr),SL (X.block scope C NB s H fp) (cK (aM X) cs ix) cs D elt (⟨tg,iter,ifs,0⟩::rest) scope pos 1 r)(ha:∀g∈rest,g.is_async=0)(hs:∀v,foldedSetIterable iter X.env v=pure v)(hsw:swapsWith (.ListComp elt (⟨tg,iter,ifs,0⟩::rest) scope pos) (some (.Name y py)) spos.line X.env=pure true):S1 X Ex (.Assign [.Name y py] (.ListComp elt (⟨tg,iter,ifs,0⟩::rest) scope pos) spos) (aK j (bJ cs di t c r)):=by
 rw[xo];intro g D' E U H Hm F D hx R p nx rt;refine Du B hc hcs hix aW nd hi ht hts hif hr ha hs (w:=λQ τ H=>(Q=λu H1=>D.nx (τ.set j (some u)) H1)->WS X (.Assign [.Name y py] (.ListComp elt (⟨tg,iter,ifs,0⟩::rest) scope pos) spos) D τ H)
  (λh1 h2 h3 h4 h5 e=>by
   subst e;exact WS.of (Bj hN hj hy B hc h1 h2 h3 h4 hsw ha hs) h5) g D'.xc E U H Hm F _ _ hx R p (λE' k v u H' Hm' F' fp p' R' s' T=>?_) rfl
 rw[iY WC (fE (bq hj)) (R'.len▸gk p'.1)];exact nx _ _ _ _ _ p'.2 (R'.put T p'.1) s'
end
def Dq(K:Frag)(f:DM)(r:V->List V->Hp->VK->Prop):Prop:=∀(H Hm:Hp)(a:Addr)(xs:List V)(ds:Zw)(vs:List V)(args:Zw)(P:Zw->PyData->Prop)(Q:VK),H a=some (.lst xs)->Hm a=none->aj Hm H->aC K Hm xs ds->aC K Hm vs args->f ds args P->
 (∀ys new u v,P new v->aC K Hm ys new->Rp K Hm u v->Q u (upd H a (.lst ys)))->r (.ref a) vs H Q
theorem Ia:∀{es:List DE}{os:A07}{vs:List V}{ds:Zw},Got K U Hm (es.map .ev) os vs->fill (es.map .ev) E os=some ds->aC K Hm vs ds
 |[],_,_,_,.nil,h=>by cases h;exact .nil
 |e::es,_,_,_,.ev (os:=os) r G,h=>by
  have h:(fill (es.map .ev) E os).map (_::·)=some _:=h;cases hf:fill (es.map .ev) E os with
  |none=>rw[hf]at h;cases h
  |some ds=>rw[hf]at h;cases h;exact .cons r (Ia G hf)
inductive sE(X:Cx)(Ex:XK)(Y:A03):A01->List DE->Prop
 |nil:sE X Ex Y [] []
 |cons {e:Expr}{d:DE}{es:A01}{ds:List DE}:SE X Ex Y e d->sE X Ex Y es ds->sE X Ex Y (e::es) (d::ds)
def sE.as(h:sE X Ex Y es ds):aV X Ex Y es (ds.map .ev):=by
 induction h with
 |nil=>exact .nil
 |cons h _ ih=>exact .ev h ih
def HQ(ns:es.all noStar=true)(l:es.length<30):((backTo cpos (starEach es env)).all (λx=>!x.1)&&(backToKw cpos (keywordEach [] env)).all (λx=>x.1.isSome)&&decide (es.length+([]:List Keyword).length+(if([]:List Keyword).isEmpty then 0 else 1)<30))=true:=by have h:=fT (pos:=cpos) (env:=env) ns;rw[Z4]at h;rw[V9,V9,VN];refine⟨⟨λx hx=>by simpa using h x hx,rfl⟩,Ve ?_⟩;show es.length+0+0<30;lia
section
variable{X:Cx}{Ex:XK}{Y:A03}
def Jy{i:Nat}(h:jC E i=true):∃p ds,E[i]?=some (some (.ow p,.list ds)):=by unfold jC at h;split at h;{rename_i p ds e;exact⟨p,ds,e⟩};cases h
def RN{x name:Str}{id:String}{p apos cpos:Pos}{es:A01}{ds:List DE}{f:DM}{r:V->List V->Hp->VK->Prop}{i j:Nat}(hm:yu X id r)(D:Dq X.K f r)(slot:Slot "list" name id)(hty:typeOf (.builtin id)=pure (.type "method_descriptor"))(hv:PE X (.Name x p) (pO j))(hj:Y[j]?=some i)(ns:es.all noStar=true)(l30:es.length<30)(hline:(apos.endLine==cpos.line)=true)(S:sE X Ex Y es ds):SE X Ex Y (.Call (.Attribute (.Name x p) name apos) es [] cpos) (oU f i ds):=by
 intro g xc E U H Hm F P Q hx R h q;replace h:bK (jC E i) _:=h;rw[dh]at h;obtain⟨ho,h⟩:=h;obtain⟨p0,ds0,e0⟩:=Jy ho;obtain⟨v,h1,h2⟩:=R.slot i _ _ e0;have hs1:=fJ hj h1;have fin:∀a xs0,v=.ref a->H a=some (.lst xs0)->vN X es (sel Y U) H λvs H2=>r (.ref a) vs H2 Q:=λa xs0 ev _=>by
  subst ev;refine kC hx S.as R h λE1 os vs H1 Hm1 F1 p1 R1 s1 G=>?_;replace p1:Fi f i (ds.map .ev) E1 os P:=p1;unfold Fi at p1;rw[<-bw,e7]at p1;obtain⟨args,hf,p1⟩:=p1;split at p1
  rotate_left
  .exact p1.elim
  rename_i p1' ds1 e1;have ra:=Ia G hf;obtain⟨v',g1,g2⟩:=R1.slot i _ _ e1;rw[h1]at g1;cases g1;generalize hfi:F1 i=fi at g2;cases g2 with
  |@ow _ _ xs1 _ ha1 hr1=>refine D H1 Hm1 a xs1 ds1 vs args _ Q ha1 (R1.off i a (by rw[hfi];exact V1)) R1.sub hr1 ra p1 λys new u v p2 ry ru=>?_;obtain⟨a',xs',k1,k2,k3,k4,R2⟩:=R1.chg e1 ry;rw[h1]at k1;cases k1;exact q _ _ _ _ _ _ _ [] p2 R2 s1 (Tm.sh ru)
 generalize hfi:F i=fi at h2;cases h2 with
 |@ow _ a xs _ ha hr=>
  cases es with
  |nil=>exact WE.of (Ol ZP slot hty hm hv rfl hline) ⟨_,hs1,.inl ⟨rfl,_,cz.of ha⟩,fin a xs rfl ha⟩
  |cons e es=>have ns':=ns;rw[VP,V9]at ns';exact WE.of (K2 ZP slot hty hm hv (d9 ns) rfl (HQ ns l30) hline (bG ns'.1) (fT ns'.2)) ⟨_,hs1,.inl ⟨rfl,_,cz.of ha⟩,fin a xs rfl ha⟩
def cV:DM:=λds args P=>match args with
 |[d]=>ds.length<sizeLine/\P (ds++[d]) .none
 |_=>False
def cH:Dq K cV Dw:=by intro H Hm a xs ds vs args P Q ha _ s r ra h q;unfold cV at h;split at h;{obtain⟨x,rfl,h1⟩:=ee ra;exact⟨a,xs,x,rfl,rfl,ha,by rw[r.len];exact h.1,q _ _ _ _ h.2 (r.snoc h1) .bU⟩};exact h.elim
def Mu:DM:=λds args P=>match args with
 |[.list es]=>ds.length+es.length<=sizeLine/\P (ds++es) .none
 |_=>False
theorem aC.dropLast(r:aC K H vs ds):aC K H vs.dropLast ds.dropLast:=by rw[List.dropLast_eq_take,List.dropLast_eq_take,r.len];exact r.take _
theorem aC.erase:∀{vs:List V}{ds:Zw} (i:Nat),aC K H vs ds->aC K H (vs.eraseIdx i) (ds.eraseIdx i)
 |_,_,_,.nil=>.nil
 |_,_,0,.cons _ r=>r
 |_,_,i+1,.cons h r=>.cons h (r.erase i)
def wK:DM:=λds args P=>match args with
 |[]=>∃d,ds[ds.length-1]?=some d/\P ds.dropLast d
 |[.int i]=>(-(2^63)<=i/\i<2^63)/\∃n d,seqIndex? i ds.length=some n/\ds[n]?=some d/\P (ds.eraseIdx n) d
 |_=>False
def CT:yu X "list.pop" λx vs H Q=>Kw x vs H Q\/AN x vs H Q:=λpins s U H x xs v us Q I a b z=>z.elim (OX pins s U H x xs v us Q I a b) (JH pins s U H x xs v us Q I a b)
def C6:Dq K wK λx vs H Q=>Kw x vs H Q\/AN x vs H Q:=by intro H Hm a xs ds vs args P Q ha _ s r ra h q;unfold wK at h;split at h;{cases ra;obtain⟨d,e,h⟩:=h;obtain⟨v,ev,rv⟩:=r.get e;refine .inl ⟨a,xs,v,rfl,rfl,ha,by rw[r.len];exact ev,q _ _ _ _ h r.dropLast rv⟩};{obtain⟨x,rfl,h1⟩:=ee ra;cases h1;obtain⟨⟨b1,b2⟩,n,d,e1,e2,h⟩:=h;obtain⟨v,ev,rv⟩:=r.get e2;exact .inr ⟨a,xs,_,n,v,rfl,rfl,ha,b1,b2,by rw[r.len];exact e1,ev,q _ _ _ _ h (r.erase n) rv⟩};exact h.elim
end
def pW:bR a=bR b↔a=b:=by cases a<;>cases b<;>simp[bR]
theorem yh:∀{a b:List Key},a.map bR=b.map bR↔a=b
 |[],[]=>by simp
 |[],_::_=>by simp
 |_::_,[]=>by simp
 |a::as,b::bs=>by simp[pW,yh (a:=as) (b:=bs)]
def uB{a b:List Key}:PyData.tuple (a.map bR)=.tuple (b.map bR)↔a=b:=by rw[PyData.tuple.injEq];exact yh
def om(h:kG w=true):∃k,w=bR k:=by
 cases w with
 |int i=>exact⟨.inl i,rfl⟩
 |str x=>exact⟨.inr x,rfl⟩
 |_=>cases h
theorem mY:∀{ks:Zw},ks.all kG=true->∃k:List Key,ks=k.map bR
 |[],_=>⟨[],rfl⟩
 |w::ks,h=>by rw[VP,V9]at h;obtain⟨k,rfl⟩:=om h.1;obtain⟨l,rfl⟩:=mY h.2;exact⟨k::l,rfl⟩
section
variable{K:Frag}{H:Hp}
def q9(r:Rp K H u (bR k)):u=kV k:=by
 cases k with
 |inl i=>have r:Rp K H u (.int i):=r;cases r;rfl
 |inr x=>have r:Rp K H u (.str x):=r;cases r;rfl
theorem Bm:∀{us:List V}{k:List Key},aC K H us (k.map bR)->us=k.map kV
 |_,[],r=>by cases r;rfl
 |_,k::ks,r=>by
  cases r with
  |cons h t=>rw[q9 h,Bm t];rfl
def wo{k:List Key}(r:Rp K H u (.tuple (k.map bR))):∃b,u=.ref b/\H b=some (.tup (k.map kV)):=by
 cases r with
 |tup a r=>exact⟨_,rfl,by rw[<-Bm r];exact a⟩
theorem d7.len:∀{kvs:List (Key×V)}{ds:Zi},d7 K H kvs ds->kvs.length=ds.length
 |_,_,.nil=>rfl
 |_,_,.cons _ r=>congrArg (·+1) r.len
theorem fK.len:∀{kvs:List (List Key×V)}{ds:Zi},fK K H kvs ds->kvs.length=ds.length
 |_,_,.nil=>rfl
 |_,_,.cons _ r=>congrArg (·+1) r.len
theorem d7.val:∀{kvs:List (Key×V)}{ds:Zi},d7 K H kvs ds->(cJ ds (bR k)=none/\dD kvs k=none)\/∃v d,dD kvs k=some v/\cJ ds (bR k)=some d/\Rp K H v d
 |_,_,.nil=>.inl ⟨rfl,rfl⟩
 |_,_,.cons (k:=k') (v:=v) (d:=d) (kvs:=kvs) (ds:=ds) h r=>by
  by_cases c:k'=k;{subst c;exact .inr ⟨v,d,by unfold dD;rw[Y0 (by simp)];rfl,by unfold cJ;rw[Y0 (by simp)];rfl,h⟩};have c':¬bR k'=bR k:=λz=>c (pW.mp z);have e1:dD ((k',v)::kvs) k=dD kvs k:=by unfold dD;rw[Xb (by simpa using c)]
  have e2:cJ ((bR k',d)::ds) (bR k)=cJ ds (bR k):=by unfold cJ;rw[Xb (by simpa using c')]
  rw[e1,e2];exact r.val
theorem fK.val:∀{kvs:List (List Key×V)}{ds:Zi},fK K H kvs ds->(cJ ds (.tuple (k.map bR))=none/\dD kvs k=none)\/∃v d,dD kvs k=some v/\cJ ds (.tuple (k.map bR))=some d/\Rp K H v d
 |_,_,.nil=>.inl ⟨rfl,rfl⟩
 |_,_,.cons (k:=k') (v:=v) (d:=d) (kvs:=kvs) (ds:=ds) h r=>by
  by_cases c:k'=k;{subst c;exact .inr ⟨v,d,by unfold dD;rw[Y0 (by simp)];rfl,by unfold cJ;rw[Y0 (by simp)];rfl,h⟩};have c':¬PyData.tuple (k'.map bR)=.tuple (k.map bR):=λz=>c (uB.mp z);have e1:dD ((k',v)::kvs) k=dD kvs k:=by unfold dD;rw[Xb (by simpa using c)]
  have e2:cJ ((.tuple (k'.map bR),d)::ds) (.tuple (k.map bR))=cJ ds (.tuple (k.map bR)):=by unfold cJ;rw[Xb (by simpa using c')]
  rw[e1,e2];exact r.val
theorem d7.any:∀{kvs:List (Key×V)}{ds:Zi},d7 K H kvs ds->(kvs.any λkv=>decide (kv.1=k))=ds.any λkv=>decide (kv.1=bR k)
 |_,_,.nil=>rfl
 |_,_,.cons (k:=k') h r=>by rw[X7,X7,r.any,decide_eq_decide.mpr (pW (a:=k') (b:=k)).symm]
theorem fK.any{k:List Key}:∀{kvs:List (List Key×V)}{ds:Zi},fK K H kvs ds->(kvs.any λkv=>decide (kv.1=k))=ds.any λkv=>decide (kv.1=.tuple (k.map bR))
 |_,_,.nil=>rfl
 |_,_,.cons (k:=k') h r=>by rw[X7,X7,r.any,decide_eq_decide.mpr (uB (a:=k') (b:=k)).symm]
theorem d7.app(k:Key)(h:Rp K H v d):∀{kvs:List (Key×V)}{ds:Zi},d7 K H kvs ds->d7 K H (kvs++[(k,v)]) (ds++[(bR k,d)])
 |_,_,.nil=>.cons h .nil
 |_,_,.cons g r=>.cons g (r.app k h)
theorem fK.app(k:List Key)(h:Rp K H v d):∀{kvs:List (List Key×V)}{ds:Zi},fK K H kvs ds->fK K H (kvs++[(k,v)]) (ds++[(.tuple (k.map bR),d)])
 |_,_,.nil=>.cons h .nil
 |_,_,.cons g r=>.cons g (r.app k h)
def d7.put(k:Key)(h:Rp K H v d)(r:d7 K H kvs ds):d7 K H (putK kvs k v) (putD ds (bR k) d):=by
 unfold putK putD;rw[r.any (k:=k)];split
 .have go:∀{kvs:List (Key×V)}{ds:Zi},d7 K H kvs ds->d7 K H (kvs.map λkv=>if kv.1=k then(kv.1,v)else kv) (ds.map λkv=>if kv.1=bR k then(kv.1,d)else kv):=by
   intro kvs;induction kvs with
   |nil=>intro ds r;cases r;exact .nil
   |cons p kvs ih=>
    intro ds r;cases r with
    |@cons k' v' d' _ ds g r=>rw[VH,VH];by_cases c:k'=k;{rw[if_pos c,if_pos (congrArg bR c)];exact .cons h (ih r)};rw[if_neg c,if_neg λz=>c (pW.mp z)];exact .cons g (ih r)
  exact go r
 exact r.app k h
def fK.put(k:List Key)(h:Rp K H v d)(r:fK K H kvs ds):fK K H (putK kvs k v) (putD ds (.tuple (k.map bR)) d):=by
 unfold putK putD;rw[r.any (k:=k)];split
 .have go:∀{kvs:List (List Key×V)}{ds:Zi},fK K H kvs ds->fK K H (kvs.map λkv=>if kv.1=k then(kv.1,v)else kv) (ds.map λkv=>if kv.1=.tuple (k.map bR)then(kv.1,d)else kv):=by
   intro kvs;induction kvs with
   |nil=>intro ds r;cases r;exact .nil
   |cons p kvs ih=>
    intro ds r;cases r with
    |@cons k' v' d' _ ds g r=>rw[VH,VH];by_cases c:k'=k;{rw[if_pos c,if_pos (by rw[c])];exact .cons h (ih r)};rw[if_neg c,if_neg λz=>c (uB.mp z)];exact .cons g (ih r)
  exact go r
 exact r.app k h
end
section
variable{X:Cx}{Ex:XK}{Y:A03}
inductive LI(neg:Bool) (x:V) (y:V)(H:Hp)(Q:VK):Prop
 |mk:∀a o,(y=.ref a)->(jl H a x o)->(Q (.bl (if neg then !o.isSome else o.isSome)) H)->LI neg x y H Q
def Js(neg:Bool):R2:=λx y H Q=>LI neg x y H Q
def Pd(hu:X.A.units+64<cLine):b5 X (compareOp .In) (Js false):=by intro pins s U H x y v u Q I rx ry h;obtain⟨a,o,rfl,g,q⟩:=h;cases ry;exact Uw (by lia) I g rx λs3 I3=>⟨.bl o.isSome,H,I3,rfl,q⟩
def Gv(hu:X.A.units+64<cLine):b5 X (compareOp .NotIn) (Js true):=by intro pins s U H x y v u Q I rx ry h;obtain⟨a,o,rfl,g,q⟩:=h;cases ry;exact Na (by lia) I g rx λs3 I3=>⟨.bl (!o.isSome),H,I3,rfl,q⟩
def iA(neg:Bool):DR:=λds P=>Cm (λx y=>match y,x with
 |.dict ((.none,.none)::kvs),.tuple ks=>ks.all kG=true/\P .sh (.bool (if neg then !(cJ kvs (.tuple ks)).isSome else(cJ kvs (.tuple ks)).isSome))
 |.dict kvs,w=>(kG w=true/\iL kvs=true)/\P .sh (.bool (if neg then !(cJ kvs w).isSome else(cJ kvs w).isSome))
 |y,x=>Lf neg [x,y] P) ds
def z9(K:Frag)(neg:Bool):R2:=λx y H Q=>Ea K neg x y H Q\/Js neg x y H Q
def Hz(hu:X.A.units+64<cLine):b5 X (compareOp .In) (z9 X.K false):=b5.or (QB hu) (Pd hu)
def Ir(hu:X.A.units+64<cLine):b5 X (compareOp .NotIn) (z9 X.K true):=b5.or (HB hu) (Gv hu)
def uf(r:Rp K H u (.dict kvs))(h:iL kvs=true):∃a es,u=.ref a/\H a=some (.dK es)/\d7 K H es kvs:=by
 cases r with
 |dk a r=>exact⟨_,_,rfl,a,r⟩
 |dt a r=>cases h
 |exc _ _=>cases h
def GP(r:Rp K H u (.dict ((.none,.none)::kvs))):∃a es,u=.ref a/\H a=some (.dT es)/\fK K H es kvs:=by
 generalize e:((PyData.none,PyData.none)::kvs)=ds at r;cases r with
 |dk a r=>
  cases r with
  |nil=>cases e
  |@cons k _ _ _ _ _ _=>cases k<;>cases e
 |dt a r=>cases e;exact⟨_,_,rfl,a,r⟩
 |exc _ _=>cases e
def xm(neg:Bool):c7 K (iA neg) (r2 (z9 K neg)):=by
 intro H Hm vs ds P Q s r h q;obtain⟨x,y,w,d,rfl,rfl,h1,h2,h⟩:=qC r h;have dflt:Lf neg [w,d] P->r2 (z9 K neg) [x,y] H Q:=λh=>.inl (N8 neg H Hm _ _ P Q s r h q);have alt:∀kvs,d=.dict kvs->((kG w=true/\iL kvs=true)/\P .sh (.bool (if neg then !(cJ kvs w).isSome else(cJ kvs w).isSome)))->r2 (z9 K neg) [x,y] H Q:=λkvs e hz=>by
  subst e;obtain⟨⟨hk,hp⟩,hz⟩:=hz;obtain⟨k,rfl⟩:=om hk;cases q9 h1;obtain⟨a,es,rfl,ha,rt⟩:=uf h2 hp;refine .inr ⟨a,_,rfl,jl.k (s _ _ ha),?_⟩;have e:(dD es k).isSome=(cJ kvs (bR k)).isSome:=by rcases rt.val (k:=k)with⟨e1,e2⟩|⟨v,d,e1,e2,_⟩;{rw[e1,e2];rfl};rw[e1,e2];rfl
  rw[e];exact bP.sc q s hz (.bl _)
 have h2':=h2;cases h2' with
 |dk _ rk=>
  cases rk with
  |nil=>exact alt _ rfl h
  |@cons k _ _ _ _ _ _=>cases k<;>exact alt _ rfl h
 |exc _ _=>exact alt _ rfl h
 |@dt _ _ kvs _ _=>
  cases w with
  |tuple ks=>
   obtain⟨k,rfl⟩:=mY h.1;obtain⟨b,rfl,hb⟩:=wo h1;obtain⟨a,es,e,ha,rt⟩:=GP h2;cases e;refine .inr ⟨_,_,rfl,jl.t (s _ _ ha) (s _ _ hb),?_⟩;have e:(dD es k).isSome=(cJ kvs (.tuple (k.map bR))).isSome:=by rcases rt.val (k:=k)with⟨e1,e2⟩|⟨v,d,e1,e2,_⟩;{rw[e1,e2];rfl};rw[e1,e2];rfl
   rw[e];exact bP.sc q s h.2 (.bl _)
  |_=>exact alt _ rfl h
 |_=>exact dflt h
inductive KY(x:V) (y:V)(H:Hp)(Q:VK):Prop
 |mk:∀a v,(x=.ref a)->(jl H a y (some v))->(Q v H)->KY x y H Q
def Qz:R2:=λx y H Q=>KY x y H Q
def NZ(hu:X.A.units+64<cLine):qk X Qz:=by intro value slice pins s U H x y v u Q I rx ry h hs;obtain⟨a,w,rfl,g,q⟩:=h;cases rx;exact PyProof.Rows.tail_any (BP I g) PySem.F.slot_dict_getitem.lookup (FJ (by lia) I g ry λw' s3 I3 rw'=>⟨w,H,I3,rw',q⟩) hs
def atK(xs:Zw) (i:Int):Option PyData:=match i with
 |.ofNat n=>xs[n]?
 |.negSucc n=>eZ xs (.negSucc n)
def vo{xs:Zw}{i:Int}:atK xs i=eZ xs i:=by
 cases i with
 |ofNat n=>unfold atK eZ oA;show xs[n]?=_;rw[if_pos (show(0:Int)<=Int.ofNat n from Int.natCast_nonneg n)];by_cases h:n<xs.length;{rw[if_pos (show Int.ofNat n<(xs.length:Int)from Xi.mpr h)];rfl};rw[if_neg (show ¬Int.ofNat n<(xs.length:Int)from λz=>h (Xi.mp z))];exact Vr (Ye h)
 |negSucc n=>rfl
def br:DR:=λds P=>Cm (λx y=>match x,y with
 |.list xs,.int i=>aH (atK xs i) (P .sh)
 |.tuple xs,.int i=>aH (atK xs i) (P .sh)
 |.dict ((.none,.none)::kvs),.tuple ks=>ks.all kG=true/\∃d,cJ kvs (.tuple ks)=some d/\P .sh d
 |.dict kvs,w=>(kG w=true/\iL kvs=true)/\∃d,cJ kvs w=some d/\P .sh d
 |x,y=>LV [x,y] P) ds
def Ey(K:Frag):R2:=λx y H Q=>QD K x y H Q\/Qz x y H Q
def Ut(hu:X.A.units+64<cLine):qk X (Ey X.K):=IS.or (NZ hu)
def Mm:c7 K br (r2 (Ey K)):=by
 intro H Hm vs ds P Q s r h q;obtain⟨x,y,d,w,rfl,rfl,h2,h1,h⟩:=qC r h;have dflt:LV [d,w] P->r2 (Ey K) [x,y] H Q:=λh=>.inl (QM H Hm _ _ P Q s r h q);have alt:∀kvs,d=.dict kvs->((kG w=true/\iL kvs=true)/\∃d,cJ kvs w=some d/\P .sh d)->r2 (Ey K) [x,y] H Q:=λkvs e hz=>by subst e;obtain⟨⟨hk,hp⟩,d,hv,hz⟩:=hz;obtain⟨k,rfl⟩:=om hk;cases q9 h1;obtain⟨a,es,rfl,ha,rt⟩:=uf h2 hp;rcases rt.val (k:=k)with⟨e1,e2⟩|⟨v,d',e1,e2,rv⟩;{rw[e1]at hv;cases hv};rw[e2]at hv;cases hv;exact .inr ⟨a,v,rfl,by rw[<-e1];exact jl.k (s _ _ ha),bP.sc q s hz rv⟩
 have h2':=h2;cases h2' with
 |lst _ _=>
  cases w with
  |int i=>have h:aH (atK _ i) (P .sh):=h;rw[vo,<-bw]at h;exact dflt h
  |_=>exact dflt h
 |tup _ _=>
  cases w with
  |int i=>have h:aH (atK _ i) (P .sh):=h;rw[vo,<-bw]at h;exact dflt h
  |_=>exact dflt h
 |dk _ rk=>
  cases rk with
  |nil=>exact alt _ rfl h
  |@cons k _ _ _ _ _ _=>cases k<;>exact alt _ rfl h
 |exc _ _=>exact alt _ rfl h
 |dt _ _=>
  cases w with
  |tuple ks=>obtain⟨hk,d,hv,hz⟩:=h;obtain⟨k,rfl⟩:=mY hk;obtain⟨b,rfl,hb⟩:=wo h1;obtain⟨a,es,e,ha,rt⟩:=GP h2;cases e;rcases rt.val (k:=k)with⟨e1,e2⟩|⟨v,d',e1,e2,rv⟩;{rw[e1]at hv;cases hv};rw[e2]at hv;cases hv;exact .inr ⟨_,v,rfl,by rw[<-e1];exact jl.t (s _ _ ha) (s _ _ hb),bP.sc q s hz rv⟩
  |_=>exact alt _ rfl h
 |_=>exact dflt h
def cN:DR:=λds P=>match ds with
 |[.dict kvs]=>iL kvs=true/\P .sh (.int kvs.length)
 |ds=>JY ds P
def JK:c7 K cN λxs H Q=>(∃p ys,xs=[.ref p]/\(cz K H p ys\/cG K H p ys)/\Q (.int ys.length) H)\/∃a kvs,xs=[V.ref a]/\H a=some (.dK kvs)/\Q (.int kvs.length) H:=by intro H Hm vs ds P Q s r h q;unfold cN at h;split at h;{obtain⟨x,rfl,h1⟩:=ee r;obtain⟨a,es,rfl,ha,rt⟩:=uf h1 h.1;exact .inr ⟨a,es,rfl,s _ _ ha,by rw[rt.len];exact bP.sc q s h.2 (.int _)⟩};exact .inl (Mn H Hm _ _ P Q s r h q)
def Rl.Jf{F:Nat->Zz}(R:Rl K g E U H Hm F){i:Nat}{a:Addr}(e:E[i]?=some (some (k,d)))(hF:F i=[a])(hv:U[i]?=some (some (.ref a)))(new:Own K (upd H a o) Hm k (.ref a) d' [a])(nt:sO o)(hp:k=.ow true->∃ds,d'=.list ds) : Rl K g (E.set i (some (k,d'))) U (upd H a o) Hm F:=by
 have ma:a∈F i:=by rw[hF];exact V1
 have na:=R.off i a ma;have up:∀b,b≠a->upd H a o b=H b:=λb hb=>aA hb;have li:=bq e;exact {
  len:=by rw[Vs];exact R.len
  sub:=λb u hb=>by
   have:b≠a:=λz=>by rw[z,na]at hb;cases hb
   rw[up b this];exact R.sub b u hb
  slot:=λj k' d'' e'=>by
   by_cases c:j=i
   .subst c;rw[aO li]at e';cases e';exact⟨_,hv,by rw[hF];exact new⟩
   .rw[aq (Ne.symm c)]at e';obtain⟨u,g1,g2⟩:=R.slot j k' d'' e';refine⟨u,g1,g2.step (aj.refl _) λb hb=>up b λz=>c (R.aW j i a (z▸hb) ma)⟩
  off:=R.off
  bI:=λj b hb=>by
   by_cases c:b=a
   .rw[c];exact⟨_,aQ,nt⟩
   .rw[up b c];exact R.bI j b hb
  aW:=R.aW
  fr:=λq u hq ho=>by
   have:q≠a:=λz=>by
    rcases R.new i a ma with y|y
    .exact hq (z▸y)
    .rw[z,y]at ho;cases ho
   rw[up q this];exact R.fr q u hq ho
  new:=R.new
  pin:=λq hq=>by
   obtain⟨g1,ds',g2⟩:=R.pin q hq
   by_cases c:i=q.1
   .rw[<-c]at g1 g2⊢;rw[e]at g2;cases g2;obtain⟨ds,rfl⟩:=hp rfl;exact⟨g1,ds,aO li⟩
   .exact⟨g1,ds',by rw[aq c];exact g2⟩
  old:=R.old }
def LP:ET:=λo i v H Q=>K4 o i v H Q\/∃a H',o=.ref a/\qZ H a i v H'/\Q H'
def SV(hu:X.A.units+64<cLine):Jm X LP:=by intro pins s U H o i v ov iv u Q I ro ri rv h;rcases h with h|⟨a,H',rfl,g,q⟩;{exact set_list pins s U H o i v ov iv u Q I ro ri rv h};cases ro;exact F8 (by lia) I g ri rv λs' I'=>⟨H',I',q⟩
def Mx{F:Nat->Zz}{i:Nat}(R:Rl K g E U H Hm F)(ho:U[i]?=some (some o))(rw':Rp K Hm wv w)(rv:Rp K Hm vv v)(h:lV.setI E i w v Qe)(q:∀E' H',Qe E'->Rl K g E' U H' Hm F->Q H'):LP o wv vv H Q:=by
 unfold lV.setI at h;split at h
 .rename_i p ds a e;rw[<-bw,zh]at h;obtain⟨n,hn,h⟩:=h;cases rw';obtain⟨v',h1,h2⟩:=R.slot i _ _ e;rw[ho]at h1;cases h1;generalize hfi:F i=fi at h2;cases h2 with
  |@ow _ b xs _ ha hr=>refine .inl ⟨b,xs,a,n,rfl,rfl,ha,by rw[hr.len];exact hn,q _ _ h ?_⟩;exact R.Jf e hfi ho (.ow aQ (hr.set rv n)) o9 λ_=>⟨_,rfl⟩
 .rename_i p kvs _ e;obtain⟨⟨hk,hl⟩,h⟩:=h;obtain⟨k,rfl⟩:=om hk;cases q9 rw';obtain⟨v',h1,h2⟩:=R.slot i _ _ e;rw[ho]at h1;cases h1;generalize hfi:F i=fi at h2;cases h2 with
  |@dk _ b es _ ha hr=>refine .inr ⟨b,_,rfl,qZ.k ha (by rw[hr.len];exact hl),q _ _ h ?_⟩;exact R.Jf e hfi ho (.dk aQ (hr.put k rv)) uR λz=>by cases z
 .rename_i p kv kvs ks e;obtain⟨⟨hk,hl⟩,h⟩:=h;obtain⟨k,rfl⟩:=mY hk;obtain⟨c,rfl,hc⟩:=wo rw';obtain⟨v',h1,h2⟩:=R.slot i _ _ e;rw[ho]at h1;cases h1;generalize hfi:F i=fi at h2;cases h2 with
  |@dt _ b es _ ha hr=>refine .inr ⟨b,_,rfl,qZ.t ha (R.sub _ _ hc) (by rw[hr.len];exact hl),q _ _ h ?_⟩;exact R.Jf e hfi ho (.dt aQ (hr.put k rv)) xR λz=>by cases z
 exact h.elim
def Sf{i jx:Nat}(hu:X.A.units+64<cLine)(hv:PE X (.Name x p) (pO jx))(hj:(aM X)[jx]?=some i)(hs:swapsWithSole [.Subscript (.Name x p) j pos'] e pos.line X.env=pure false)
  (ha:∀v,assign (.Subscript (.Name x p) j pos') X.env v=(do
   let ov <-holding [v] (eval (.Name x p) X.env)
   let iv <-holding [v,ov] (eval j X.env)
   standAt pos'
   holding [v,ov,iv] (setItem ov iv v)
   release [v,ov,iv] []))(hd:SE X Ex (aM X) e de)(hd2:SE X Ex (aM X) j dj):S1 X Ex (.Assign [.Subscript (.Name x p) j pos'] e pos) (lV i dj de):=by
 intro g D' E U H Hm F D hx R pp nx rt;refine WS.of (HF bB (Qg hv bB (SV hu) ha) hs) (hd g D'.xc E U H Hm F _ _ hx R pp λE1 k v u H1 Hm1 F1 fp p1 R1 s1 T=>?_)
 replace p1:bK k.fz _:=p1
 rw[dh,dh]at p1;obtain⟨hk,hh,p1⟩:=p1;obtain⟨Hm2,s2,R2,r2⟩:=T.gj R1 hk;obtain⟨o,ho⟩:=kq R2 hh;refine⟨o,fJ hj ho,hd2 g D'.xc E1 U H1 Hm2 F1 _ _ hx R2 p1 λE3 k3 v3 u3 H3 Hm3 F3 fp3 p3 R3 s3 T3=>?_⟩
 replace p3:bK k3.fz _:=p3
 rw[dh]at p3;obtain⟨hk3,p3⟩:=p3;obtain⟨Hm4,s4,R4,r4⟩:=T3.gj R3 hk3;exact Mx R4 ho r4 (r2.mono (s3.trans s4)) p3 λE' H' q R'=>nx _ _ _ _ _ q R' (s1.trans (s2.trans (s3.trans s4)))
end
def ini:A00->Zw->En
 |true::ms,d::ds=>some (.ow true,d)::ini ms ds
 |false::ms,d::ds=>some (.sh,d)::ini ms ds
 |_,_=>[]
def fZ:A00->En->Option (Zw)
 |[],_=>some []
 |true::ms,some (.ow true,.list es)::E=>(fZ ms E).map (.list es::·)
 |false::ms,_::E=>fZ ms E
 |_,_=>none
def gg:A00->Nat->Zz->List (Nat×Addr)
 |true::ms,n,a::as=>(n,a)::gg ms (n+1) as
 |false::ms,n,as=>gg ms (n+1) as
 |_,_,_=>[]
def gS:A00->Zz->List (Zz)
 |true::ms,a::as=>[a]::gS ms as
 |false::ms,as=>[]::gS ms as
 |_,_=>[]
section
variable{K:Frag}{H Hm:Hp}
def Ag.zY(h:Ag K H Hm ms vs ds as):vs.length=ms.length:=by
 induction h with
 |nil=>rfl
 |sh _ _ ih=>rw[VF,VF,ih]
 |mu _ _ _ _ _ ih=>rw[VF,VF,ih]
def Ag.Ue(h:Ag K H Hm ms vs ds as):(ini ms ds).length=vs.length:=by
 induction h with
 |nil=>rfl
 |sh _ _ ih=>rw[ini,VF,VF,ih]
 |mu _ _ _ _ _ ih=>rw[ini,VF,VF,ih]
def Ag.pins(h:Ag K H Hm ms vs ds as):∀n,(gg ms n as).map (·.2)=as:=by
 induction h with
 |nil=>exact λ_=>rfl
 |sh _ _ ih=>exact λn=>ih (n+1)
 |@mu _ _ _ _ a _ _ _ _ _ _ _ ih=>exact λn=>congrArg (a::·) (ih (n+1))
def Ag.slot(h:Ag K H Hm ms vs ds as):∀{i:Nat}{k:Kd}{d:PyData},(ini ms ds)[i]?=some (some (k,d))->∃v,vs[i]?=some v/\Own K H Hm k v d ((gS ms as)[i]?.getD []):=by
 induction h with
 |nil=>intro i k d e;simp[ini]at e
 |@sh ms vs ds as v d r _ ih=>
  intro i k d' e;rw[ini]at e;cases i with
  |zero=>cases e;exact⟨v,rfl,.sh r⟩
  |succ i=>exact ih e
 |@mu ms vs ds as a xs es h1 h2 h3 h4 _ ih=>
  intro i k d' e;rw[ini]at e;cases i with
  |zero=>cases e;exact⟨_,rfl,.ow h1 h2⟩
  |succ i=>exact ih e
def Ag.Le(h:Ag K H Hm ms vs ds as):(∀(i:Nat) a,a∈(gS ms as)[i]?.getD []->a∈as/\Hm a=none/\∃xs,H a=some (.lst xs))/\∀(i j:Nat) a,a∈(gS ms as)[i]?.getD []->a∈(gS ms as)[j]?.getD []->i=j:=by
 induction h with
 |nil=>exact⟨λi a h=>by simp[gS]at h,λi j a h=>by simp[gS]at h⟩
 |@sh ms vs ds as v d r _ ih=>
  refine⟨λi a h=>?_,λi j a h1 h2=>?_⟩
  .rw[gS]at h;cases i with
   |zero=>simp at h
   |succ i=>exact ih.1 i a h
  rw[gS]at h1 h2;cases i with
  |zero=>simp at h1
  |succ i=>
   cases j with
   |zero=>simp at h2
   |succ j=>exact congrArg (·+1) (ih.2 i j a h1 h2)
 |@mu ms vs ds as a xs es g1 g2 g3 g4 _ ih=>
  refine⟨λi b h=>?_,λi j b h1 h2=>?_⟩
  .rw[gS]at h;cases i with
   |zero=>have h:b∈[a]:=h;rw[VB]at h;subst h;exact⟨V1,g3,xs,g1⟩
   |succ i=>obtain⟨y1,y2⟩:=ih.1 i b h;exact⟨V5 _ y1,y2⟩
  rw[gS]at h1 h2;cases i with
  |zero=>
   have h1:b∈[a]:=h1;rw[VB]at h1;subst h1;cases j with
   |zero=>rfl
   |succ j=>exact absurd (ih.1 j b h2).1 g4
  |succ i=>
   cases j with
   |zero=>have h2:b∈[a]:=h2;rw[VB]at h2;subst h2;exact absurd (ih.1 i b h1).1 g4
   |succ j=>exact congrArg (·+1) (ih.2 i j b h1 h2)
def Ag.pin(h:Ag K H Hm ms vs ds as):∀n,∀q∈gg ms n as,∃i,q.1=n+i/\vs[i]?=some (.ref q.2)/\∃es,(ini ms ds)[i]?=some (some (.ow true,.list es)):=by
 induction h with
 |nil=>exact λn q h=>by cases h
 |@sh ms vs ds as v d r _ ih=>intro n q h;obtain⟨i,e,h1,h2⟩:=ih (n+1) q h;exact⟨i+1,by lia,h1,h2⟩
 |@mu ms vs ds as a xs es g1 g2 g3 g4 _ ih=>intro n q h;have h:q∈(n,a)::gg ms (n+1) as:=h;rcases V7.mp h with rfl|h;{exact⟨0,rfl,rfl,es,rfl⟩};obtain⟨i,e,h1,h2⟩:=ih (n+1) q h;exact⟨i+1,by lia,h1,h2⟩
def Ag.back{H' Hm':Hp}{E:En}(h:Ag K H Hm ms vs ds as):∀{n:Nat}{us:Zw},(∀q∈gg ms n as,∃es xs,E[q.1]?=some (some (.ow true,.list es))/\H' q.2=some (.lst xs)/\aC K Hm' xs es/\Hm' q.2=none)->fZ ms (E.drop n)=some us->Bk K H' Hm' as us:=by
 induction h with
 |nil=>intro n us _ e;cases e;exact .nil
 |@sh ms vs ds as v d r _ ih=>
  intro n us hq e;cases hE:E.drop n with
  |nil=>rw[hE]at e;cases e
  |cons o E'=>rw[hE]at e;refine ih (n:=n+1) hq ?_;rw[show E.drop (n+1)=E' from by rw[<-List.tail_drop,hE];rfl];exact e
 |@mu ms vs ds as a xs es g1 g2 g3 g4 _ ih=>
  intro n us hq e;obtain⟨es',xs',e1,e2,e3,e4⟩:=hq (n,a) V1;cases hE:E.drop n with
  |nil=>rw[hE]at e;cases e
  |cons o E'=>
   have ho:o=some (.ow true,.list es'):=by have:=List.getElem?_drop (xs:=E) (i:=n) (j:=0);rw[hE,Nat.add_zero]at this;have e1:E[n]?=_:=e1;rw[e1]at this;exact Option.some.inj this
   subst ho;rw[hE]at e;have e:(fZ ms E').map (PyData.list es'::·)=some us:=e;cases hb:fZ ms E' with
   |none=>rw[hb]at e;cases e
   |some us'=>rw[hb]at e;cases e;refine .cons e2 e3 e4 (ih (n:=n+1) (λq hq'=>hq q (V5 _ hq')) ?_);rw[show E.drop (n+1)=E' from by rw[<-List.tail_drop,hE];rfl];exact hb
def FF{n:Nat}(h:n<=U.length):sel (List.range n) U=U.take n:=by
 refine Wl λi=>?_;unfold sel;rw[VQ,List.getElem?_take];by_cases c:i<n
 .rw[W7 c,if_pos c];have l:i<U.length:=by lia
  rw[VX l];show some ((U[i]?).join)=some U[i];rw[VX l];rfl
 rw[if_neg c,Vr (by rw[VI];lia)];rfl
def Ag.rl(h:Ag K H Hm ms vs ds as)(s:aj Hm H) (m:Nat):Rl K ⟨H,Hm,gg ms 0 as⟩ (ini ms ds++List.replicate m none) (vs.map some++List.replicate m none) H Hm (λi=>(gS ms as)[i]?.getD []):=by
 have hM:Gh.M ⟨H,Hm,gg ms 0 as⟩=as:=h.pins 0;have inE:∀{i:Nat}{k:Kd}{d:PyData},(ini ms ds++List.replicate m none)[i]?=some (some (k,d))->(ini ms ds)[i]?=some (some (k,d)):=λ{i k d} e=>by rcases Vt i (ini ms ds).length with l|l;{rwa[Xn l]at e};rw[Xm l]at e;have:=VZ e;have:=List.eq_of_mem_replicate this;cases this
 have inV:∀{i:Nat}{v:V},vs[i]?=some v->(vs.map some++List.replicate m none)[i]?=some (some v):=λ{i v} e=>by have l:=bq e;rw[Xn (by rw[V4];exact l),VQ,e];rfl
 exact {
  len:=by rw[VD,VD,h.Ue,V4,X4,X4]
  sub:=s
  slot:=λi k d e=>by
   obtain⟨v,h1,h2⟩:=h.slot (inE e);exact⟨v,inV h1,h2⟩
  off:=λi a ha=>(h.Le.1 i a ha).2.1
  bI:=λi a ha=>by
   obtain⟨_,_,xs,e⟩:=h.Le.1 i a ha;exact⟨_,e,o9⟩
  aW:=λi j a h1 h2=>h.Le.2 i j a h1 h2
  fr:=λp o _ e=>e
  new:=λi a ha=>.inl (by rw[hM];exact(h.Le.1 i a ha).1)
  pin:=λq hq=>by
   obtain⟨i,e,h1,es,h2⟩:=h.pin 0 q hq;rw[Xu]at e;rw[e];refine⟨inV h1,es,?_⟩;rw[Xn (bq h2)];exact h2
  old:=λ_ _=>.inl rfl }
end
section
variable{P:Program}{w:World}{K:Frag}{mg:Zm}{base:Heap}
def bg(ms:A00)(Q:Zw->Kd->PyData->Prop)(x:XC):gw where
 nx:=λE=>aH (fZ ms E) λus=>Q us .sh .none
 rt:=λE k v=>aH (fZ ms E) λus=>Q us k v
 xc:=x
def bL{f:Addr}{N ps:A05}{k:Nat}{ms:A00}{sp:bF}{d:DS}{m:Nat}(F:vL K x qual st f fd)(S:aL N ps (ay st))(hl:ms.length=ps.length)(hm:N.length<=ps.length+m)(hb:∀(cdv:Value)(A:Around)(outer:List Env)(s:Shared)(H:Hp)(Ex:XK),dM k (A.deeper (PyProof.Rows.envOfC qual (ay st) s.heap.objs.size f cdv))->SS (ir (fO P w) P w K mg base N qual (ay st) f cdv A outer s H Ex) Ex (i7 st) d)(hd:∀(ds:Zw)(Q:Zw->Kd->PyData->Prop)(x:XC),sp ds Q x->d (bg ms Q x) (ini ms ds++List.replicate m none)):gM P w K mg base (fO P w) (k+1) f fd ps (cC mg K ms sp):=by
 refine F.QO S (λvs H Q E h=>?_) (λcdv A outer s H vs Q E hr h=>?_);{obtain⟨ds,as,Hm,P',x,_,ag,_⟩:=h;rw[ag.zY,hl]};obtain⟨ds,as,Hm,P',xc,sm,ag,hsp,ret,exn⟩:=h;refine⟨_,fG,?_⟩;have R:=ag.rl sm m;have hpre:N.length >= vs.length:=by rw[ag.zY,hl];have:=congrArg List.length S.pre;rw[WK]at this;lia
 have hsel:L2.start N vs=sel (List.range N.length) (vs.map some++List.replicate m none):=by
  have hv:vs.length=ps.length:=by rw[ag.zY,hl]
  rw[FF (by rw[VD,V4,X4];lia)];unfold L2.start;rw[List.take_append,V4,YJ (by rw[V4];exact hpre),List.take_replicate];congr 2;lia
 rw[hsel];have hM:Gh.M ⟨H,Hm,gg ms 0 as⟩=as:=ag.pins 0;have fin:∀{E':En}{k:Kd}{v:PyData}{u:V}{σ':St}{H' Hm':Hp}{F':Nat->Zz}{fp:Zz},(aH (fZ ms E') λus=>P' us k v)->Rl K ⟨H,Hm,gg ms 0 as⟩ E' σ' H' Hm' F'->Tm K ⟨H,Hm,gg ms 0 as⟩ F' H' Hm' k u v fp->Q u H':=by
  intro E' k v u σ' H' Hm' F' fp p R' T;rw[<-bw]at p;obtain⟨us,hus,p⟩:=p;refine ret us k v u H' Hm' fp p (λa o e=>?_) R'.sub (λp o hp e=>R'.fr p o (by rw[hM];exact hp) e) (λa _ ha=>R'.old a ha) ?_ T.own λa ha=>⟨T.new a ha,T.off a ha⟩
  .have:H a≠none:=λz=>by rw[sm _ _ e]at z;cases z
   rcases R'.old a this with e'|⟨e',_⟩;{exact e'.trans e};have e':Hm a=none:=e';rw[e]at e';cases e'
  refine ag.back (E:=E') (n:=0) (λq hq=>?_) (by rw[List.drop_zero];exact hus);obtain⟨h1,es,h2⟩:=R'.pin q hq;obtain⟨v',h3,h4⟩:=R'.slot _ _ _ h2;have hF:=R'.Ff hq;rw[h1]at h3;cases h3;rw[hF]at h4;cases h4 with
  |ow e1 e2=>exact⟨es,_,h2,e1,e2,R'.off q.1 q.2 (by rw[hF];exact V1)⟩
 refine hb cdv A outer s H E hr ⟨H,Hm,gg ms 0 as⟩ (bg ms P' xc) _ _ H Hm _ _ (λc d' C a H' hC hx fr ha hn=>exn c d' C a H' hC hx (λp o hp ho=>fr p o (by rw[hM];exact hp) ho) ha hn) R (hd ds P' xc hsp) (λE' σ' H' Hm' F' p R' _=>?_) (λE' k v u σ' H' Hm' F' fp p R' T=>fin p R' T);exact fin (k:=.sh) (v:=.none) (u:=.bU) p R' (Tm.sh .bU)
end
section
variable{X:Cx}{Ex:XK}{Y:A03}
def xI{i:Int} {j}:SE X Ex Y (.Constant (.int i) j pos) (dC (.int i)):=Ef Pe λ_=>.int i
def xS{j}:SE X Ex Y (.Constant (.str x) j pos) (dC (.str x)):=Ef Hs λ_=>.str x
def xB{b:Bool} {j}:SE X Ex Y (.Constant (.bool b) j pos) (dC (.bool b)):=Ef SX λ_=>.bl b
def xN{j}:SE X Ex Y (.Constant .none j pos) (dC .none):=Ef Ql λ_=>.bU
def xV(j:Nat){i:Nat}(hN:X.N[j]?=some x:=by rfl)(hv:qb X.env.scope x:=by first|exact Or.inl rfl|exact Or.inr (Or.inl rfl)|exact Or.inr (Or.inr rfl))(hj:Y[j]?=some i:=by rfl)(hd:(x==("__debug__":Str))=false:=by decide)(hcd:(x==("__classdict__":Str))=false:=by decide):SE X Ex Y (.Name x pos) (aS i):=O7 (kE hN hv hd hcd) hj
def a0:aV X Ex Y [] []:=.nil
def aP(j:Nat){i:Nat}(S:aV X Ex Y es as)(hN:X.N[j]?=some x:=by rfl)(hv:qb X.env.scope x:=by first|exact Or.inl rfl|exact Or.inr (Or.inl rfl)|exact Or.inr (Or.inr rfl))(hj:Y[j]?=some i:=by rfl)(hd:(x==("__debug__":Str))=false:=by decide)(hcd:(x==("__classdict__":Str))=false:=by decide):aV X Ex Y (.Name x pos::es) (.pk i::as):=.pk (kE hN hv hd hcd) hj S
def aE(h:SE X Ex Y e d)(S:aV X Ex Y es as):aV X Ex Y (e::es) (.ev d::as):=.ev h S
def lT:DR:=pY λi j=>.int (i-j)
def k7:DR:=zc (λ_ j=>0<j) λi j=>.int (i%j)
def xr:DR:=zc Er λi j=>.int (i/j)
def A8:DR:=zc BB λi j=>.int (i^j.toNat)
def GW:DR:=pY λi j=>.bool (decide (i<j))
def UW:DR:=pY λi j=>.bool (decide (i<=j))
def yC:DR:=pY λi j=>.bool (decide (j<i))
def K3:DR:=pY λi j=>.bool (decide (j<=i))
def uw:DR:=λds P=>match ds with
 |[.int a]=>P .sh (.int (-a))
 |_=>False
def Nf:c7 K uw (r1 (rU λi=>.int (-i))):=by intro H Hm vs ds P Q s r h q;unfold uw at h;split at h;{obtain⟨x,rfl,h1⟩:=ee r;cases h1;exact⟨_,rfl,bP.sc q s h (.int _)⟩};exact h.elim
variable{a b:Expr}{pos:Pos}{as:List Arg}
def fU(S:aV X Ex Y [a,b] as):SE X Ex Y (.BinOp a .Add b pos) (ah dW as):=n5 Ny Mt S
def uh(S:aV X Ex Y [a,b] as):SE X Ex Y (.BinOp a .Sub b pos) (ah lT as):=n5 N4 (pQ λ_ _ _=>.int _) S
def mH(S:aV X Ex Y [a,b] as):SE X Ex Y (.BinOp a .Mult b pos) (ah ie as):=n5 Mb MH S
def nV(S:aV X Ex Y [a,b] as):SE X Ex Y (.BinOp a .Mod b pos) (ah k7 as):=n5 Qv (wY λ_ _ _=>.int _) S
def ED(S:aV X Ex Y [a,b] as):SE X Ex Y (.BinOp a .FloorDiv b pos) (ah xr as):=n5 IV (wY λ_ _ _=>.int _) S
def Jg(S:aV X Ex Y [a,b] as):SE X Ex Y (.BinOp a .Pow b pos) (ah A8 as):=n5 Om (wY λ_ _ _=>.int _) S
def I0(S:aV X Ex Y [a] as):SE X Ex Y (.UnaryOp .USub a pos) (ah uw as):=Sm P8 Nf S
def CH(hu:X.A.units+64<cLine)(S:aV X Ex Y [a,b] as):SE X Ex Y (.Compare a [.Eq] [b] pos) (ah gB as):=IC (IB hu) (oR _) HJ S
def Tn(hu:X.A.units+64<cLine)(S:aV X Ex Y [a,b] as)(hm:behindInMarks .In b=false:=by rfl):SE X Ex Y (.Compare a [.In] [b] pos) (ah (iA false) as):=IC (Hz hu) hm (xm false) S
def Py(S:aV X Ex Y [a,b] as):bO X Ex Y (.Compare a [.Lt] [b] pos) (ah GW as):=jI Ep (oR _) (pQ λ_ _ _=>.bl _) S
def Cp(S:aV X Ex Y [a,b] as):bO X Ex Y (.Compare a [.Gt] [b] pos) (ah yC as):=jI R8 (oR _) (pQ λ_ _ _=>.bl _) S
def Tw(S:aV X Ex Y [a,b] as):bO X Ex Y (.Compare a [.GtE] [b] pos) (ah K3 as):=jI Sl (oR _) (pQ λ_ _ _=>.bl _) S
def yG(hu:X.A.units+64<cLine)(S:aV X Ex Y [a,b] as):bO X Ex Y (.Compare a [.Eq] [b] pos) (ah gB as):=jI (IB hu) (oR _) HJ S
def zU(hu:X.A.units+64<cLine)(S:aV X Ex Y [a,b] as):bO X Ex Y (.Compare a [.NotEq] [b] pos) (ah l6 as):=jI (Oe hu) (oR _) OP S
def TF(hu:X.A.units+64<cLine)(S:aV X Ex Y [a,b] as)(hm:behindInMarks .In b=false:=by rfl):bO X Ex Y (.Compare a [.In] [b] pos) (ah (iA false) as):=jI (Hz hu) hm (xm false) S
def Ob(hu:X.A.units+64<cLine)(S:aV X Ex Y [a,b] as)(hm:behindInMarks .NotIn b=false:=by rfl):bO X Ex Y (.Compare a [.NotIn] [b] pos) (ah (iA true) as):=jI (Ir hu) hm (xm true) S
def qj(h:SE X Ex Y e d)(he:∀whole,isTrue e X.env whole=(do let v <-whole;standAt e.pos;holding [v] (truthy v)):=by intro _;rfl):bO X Ex Y e d:=h.yj he
def tV(j:Nat){i:Nat}(hN:X.N[j]?=some x:=by rfl)(hv:qb X.env.scope x:=by first|exact Or.inl rfl|exact Or.inr (Or.inl rfl)|exact Or.inr (Or.inr rfl))(hj:Y[j]?=some i:=by rfl)(hd:(x==("__debug__":Str))=false:=by decide)(hcd:(x==("__classdict__":Str))=false:=by decide):ST X Ex Y (.Name x pos) (CD i):=Uk (kE hN hv hd hcd) hj λ_=>rfl
def cM(hu:X.A.units+64<cLine)(S:aV X Ex Y [a,b] as)(hs:oN b:=by intro _ _;rfl):SE X Ex Y (.Subscript a b pos) (ah br as):=RW (Ut hu) hs Mm S
variable{p:Pos}
def fW(hm:X.mg "len"=none)(S:aV X Ex Y [a] as)(hg:Gl X "len":=by rfl)(ns:noStar a=true:=by rfl):SE X Ex Y (.Call (.Name "len" p) [a] [] pos) (ah cN as):=f7 (Aa.or GH) JK hg hm PySem.boot_len (by decide) (by decide) (by rw[VP,ns];rfl) S
def rT(hm:X.mg "list"=none)(S:aV X Ex Y [a] as)(hg:Gl X "list":=by rfl)(ns:noStar a=true:=by rfl):SE X Ex Y (.Call (.Name "list" p) [a] [] pos) (ah jm as):=yd Ax Kn hg hm ZO (by decide) (by decide) (by rw[VP,ns];rfl) S
def ze(hm:X.mg "tuple"=none)(S:aV X Ex Y [a] as)(hg:Gl X "tuple":=by rfl)(ns:noStar a=true:=by rfl):SE X Ex Y (.Call (.Name "tuple" p) [a] [] pos) (ah kJ as):=yd yS Hy hg hm PyProof.Rows.boot_tuple (by decide) (by decide) (by rw[VP,ns];rfl) S
def JX(hm:X.mg "min"=none)(S:aV X Ex Y [a,b] as)(hc:X.calm=true:=by rfl)(hg:Gl X "min":=by rfl)(ns:noStar a=true:=by rfl)(ns2:noStar b=true:=by rfl):SE X Ex Y (.Call (.Name "min" p) [a,b] [] pos) (ah uH as):=f7 (Im hc) Lz hg hm PyProof.Rows.boot_min (by decide) (by decide) (by rw[VP,VP,ns,ns2];rfl) S
def JS(hm:X.mg "max"=none)(S:aV X Ex Y [a,b] as)(hc:X.calm=true:=by rfl)(hg:Gl X "max":=by rfl)(ns:noStar a=true:=by rfl)(ns2:noStar b=true:=by rfl):SE X Ex Y (.Call (.Name "max" p) [a,b] [] pos) (ah vz as):=f7 (GA hc) Lz hg hm PyProof.Rows.boot_max (by decide) (by decide) (by rw[VP,VP,ns,ns2];rfl) S
def Ul(hm:X.mg "abs"=none)(S:aV X Ex Y [a] as)(hg:Gl X "abs":=by rfl)(ns:noStar a=true:=by rfl):SE X Ex Y (.Call (.Name "abs" p) [a] [] pos) (ah BC as):=f7 Ky Nq hg hm PyProof.Rows.boot_abs (by decide) (by decide) (by rw[VP,ns];rfl) S
def T5(hm:X.mg "sum"=none)(S:aV X Ex Y [a] as)(hc:X.calm=true:=by rfl)(hg:Gl X "sum":=by rfl)(ns:noStar a=true:=by rfl):SE X Ex Y (.Call (.Name "sum" p) [a] [] pos) (ah DH as):=f7 (FG hc) M1 hg hm PyProof.Rows.boot_sum (by decide) (by decide) (by rw[VP,ns];rfl) S
def Uu(hm:X.mg "any"=none)(S:aV X Ex Y [a] as)(hc:X.calm=true:=by rfl)(hg:Gl X "any":=by rfl)(ns:noStar a=true:=by rfl):SE X Ex Y (.Call (.Name "any" p) [a] [] pos) (ah ER as):=f7 (Hj hc) Mp hg hm PyProof.Rows.boot_any (by decide) (by decide) (by rw[VP,ns];rfl) S
def Jb(hm:X.mg "all"=none)(S:aV X Ex Y [a] as)(hc:X.calm=true:=by rfl)(hg:Gl X "all":=by rfl)(ns:noStar a=true:=by rfl):SE X Ex Y (.Call (.Name "all" p) [a] [] pos) (ah wU as):=f7 (Ga hc) MD hg hm PyProof.Rows.boot_all (by decide) (by decide) (by rw[VP,ns];rfl) S
def z8(hm:X.mg "sorted"=none)(S:aV X Ex Y [a] as)(hg:Gl X "sorted":=by rfl)(ns:noStar a=true:=by rfl):SE X Ex Y (.Call (.Name "sorted" p) [a] [] pos) (ah lX as):=f7 z7 Hu hg hm ZQ (by decide) (by decide) (by rw[VP,ns];rfl) S
def qV(h1:X.mg "list"=none)(h2:X.mg "range"=none)(S:aV X Ex Y [a] as)(hc:X.calm=true:=by rfl)(g1:Gl X "list":=by rfl)(g2:Gl X "range":=by rfl)(ns:noStar a=true:=by rfl):SE X Ex Y (.Call (.Name "list" p) [.Call (.Name "range" p2) [a] [] pos2] [] pos) (ah iG as):=JF hc g1 h1 g2 h2 ns S
def cA(S:aV X Ex Y es as)(ns:es.all noStar=true:=by rfl):SE X Ex Y (.List es pos) (ah bW as):=PX ns S
def t8{k:Nat}(S:aV X Ex Y es as)(ns:es.all noStar=true:=by rfl):SE X Ex Y (.Tuple es k pos) (ah jF as):=QI ns S
variable{tg:Expr}
def yx(hm:X.mg "range"=none)(S:aV X Ex Y [a] as)(hg:Gl X "range":=by rfl)(ns:noStar a=true:=by rfl):SI X Ex Y tg (.Call (.Name "range" p) [a] [] pos) (mS qh as):=SH hg hm ns S
def UG(hm:X.mg "range"=none)(S:aV X Ex Y [a,b] as)(hg:Gl X "range":=by rfl)(ns:noStar a=true:=by rfl)(ns2:noStar b=true:=by rfl):SI X Ex Y tg (.Call (.Name "range" p) [a,b] [] pos) (mS GK as):=RQ hg hm ns ns2 S
def Jo{x1:Nat}(hm:X.mg "enumerate"=none)(h:SE X Ex Y a d)(hg:Gl X "enumerate":=by rfl)(ns:noStar a=true:=by rfl):SI X Ex Y (.Tuple elts x1 tp) (.Call (.Name "enumerate" p) [a] [] pos) (yD d):=Sx hg hm ns h
def gN(j:Nat){i:Nat}(hN:X.N[j]?=some x:=by rfl)(hj:Y[j]?=some i:=by rfl)(hl:Loc X.env.scope x:=by first|exact Or.inl rfl|exact Or.inr rfl)(hf:X.fn x=true\/X.env.scope.names.lookup x=some .local:=by first|exact Or.inl rfl|exact Or.inr rfl):gH X Y (.Name x p) (.nm i):=.nm hN hj hl hf
def g0:lM X Y [] []:=.nil
def gC(j:Nat){i:Nat}(t:lM X Y ts is)(hN:X.N[j]?=some x:=by rfl)(hj:Y[j]?=some i:=by rfl)(hl:Loc X.env.scope x:=by first|exact Or.inl rfl|exact Or.inr rfl)(hf:X.fn x=true\/X.env.scope.names.lookup x=some .local:=by first|exact Or.inl rfl|exact Or.inr rfl):lM X Y (.Name x p::ts) (i::is):=.cons hN hj hl hf t
def gT{k:Nat}(t:lM X Y ts is):gH X Y (.Tuple ts k p) (.tp is):=.tp t
def pL:Passes (fO X.prog X.w) X E0:=by rintro pins U H s e s' I⟨_,_,_,_,_,_,_,_,_,_,_,_,_,_,z⟩;exact z.elim
def aJ{k k':Nat}(F:bV X.prog X.w X.K X.mg X.base k x ps (cC X.mg X.K ms sp))(hp:Passes (fO X.prog X.w) X Ex)(hr:dM k' X.A)(S:aV X Ex Y (e::es) as)(hk:k<=k':=by decide)(hg:Gl X x:=by rfl)(hd:(x==("__debug__":Str))=false:=by decide)(ns:(e::es).all noStar=true:=by rfl):SE X Ex Y (.Call (.Name x p) (e::es) [] pos) (aG sp ms as):=NY F hp (hr.mono hk) hg hd ns S
def cj(h:SE X Ex (aM X) a d):S1 X Ex (.Return (some a) pos) (bY d):=Sd h
def jY(i:Nat)(hN:X.N[i]?=some x:=by rfl)(hv:qb X.env.scope x:=by first|exact Or.inl rfl|exact Or.inr (Or.inl rfl)|exact Or.inr (Or.inr rfl))(hd:(x==("__debug__":Str))=false:=by decide)(hcd:(x==("__classdict__":Str))=false:=by decide):S1 X Ex (.Return (some (.Name x p)) pos) (gW i):=P4 (kE hN hv hd hcd) (bq hN)
def fQ(h:SE X Ex (aM X) a d)(hs:swapsWith a none pos.line X.env=pure false:=by rfl):S1 X Ex (.Expr a pos) (eN d):=Qc h hs
def aX(i:Nat)(hN:X.N.Nodup)(h:SE X Ex (aM X) a d)(hi:X.N[i]?=some x:=by rfl)(hl:Loc X.env.scope x:=by first|exact Or.inl rfl|exact Or.inr rfl)(hs:swapsWith a (some (.Name x p)) pos.line X.env=pure false:=by rfl)(hf:X.fn x=true\/X.env.scope.names.lookup x=some .local:=by first|exact Or.inl rfl|exact Or.inr rfl) : S1 X Ex (.Assign [.Name x p] a pos) (aK i d):=S6 hN hi hl hs hf h
def zS{k:Nat}(hN:X.N.Nodup)(ht:lM X (aM X) ts is)(h:SE X Ex (aM X) a d)(hc:X.calm=true:=by rfl)(hs:swapsWithSole [.Tuple ts k p] a pos.line X.env=pure false:=by rfl)(hw:swappedStores [.Tuple ts k p] a X.env=pure none:=by rfl):S1 X Ex (.Assign [.Tuple ts k p] a pos) (qF is d):=RZ hc hN ht hs hw h
def Ed(i:Nat)(hu:X.A.units+64<cLine)(hd:SE X Ex (aM X) a de)(hd2:SE X Ex (aM X) b dj)(hN:X.N[i]?=some x:=by rfl)(hv:qb X.env.scope x:=by first|exact Or.inl rfl|exact Or.inr (Or.inl rfl)|exact Or.inr (Or.inr rfl))(hs:swapsWithSole [.Subscript (.Name x p) b pos'] a pos.line X.env=pure false:=by rfl)
  (ha:∀v,assign (.Subscript (.Name x p) b pos') X.env v=(do
   let ov <-holding [v] (eval (.Name x p) X.env)
   let iv <-holding [v,ov] (eval b X.env)
   standAt pos'
   holding [v,ov,iv] (setItem ov iv v)
   release [v,ov,iv] []):=by intro _;rfl)(hb:(x==("__debug__":Str))=false:=by decide)(hcd:(x==("__classdict__":Str))=false:=by decide):S1 X Ex (.Assign [.Subscript (.Name x p) b pos'] a pos) (lV i dj de):=Sf hu (kE hN hv hb hcd) (fE (bq hN)) hs ha hd hd2
def gc(hc:ST X Ex (aM X) a t)(ha:SS X Ex u d)(hb:SS X Ex v e):S1 X Ex (.If a u v pos) (cO t d e):=T4 hc ha hb
def Ih(hp:PassesOwn (model X.prog X.w) X.A X.env X.xe)(hc:ST X Ex (aM X) a t)(hb:SS X Ex u d):S1 X Ex (.While a u [] pos) (qE t d):=Nu hp hc hb
def f6(hp:PassesOwn (model X.prog X.w) X.A X.env X.xe)(hN:X.N.Nodup)(hi:SI X Ex (aM X) tg a di)(ht:gH X (aM X) tg t)(hb:SS X Ex u d)(hc:X.calm=true:=by rfl)(hs:∀x,foldedSetIterable a X.env x=pure x:=by intro _;rfl):S1 X Ex (.For tg a u [] pos) (eB di t d):=Si hp hc hN hi ht hb hs
end
section
variable{X:Cx}{Ex:XK}{Y:A03}
def e0:sE X Ex Y [] []:=.nil
def eC(h:SE X Ex Y e d)(t:sE X Ex Y es ds):sE X Ex Y (e::es) (d::ds):=.cons h t
def xM(j:Nat){i:Nat}{x name:Str}{id:String}{p apos cpos:Pos}{es:A01}{ds:List DE}{f:DM}{r:V->List V->Hp->VK->Prop}(hm:yu X id r)(D:Dq X.K f r)(slot:Slot "list" name id)(hty:typeOf (.builtin id)=pure (.type "method_descriptor"))(S:sE X Ex Y es ds)(hN:X.N[j]?=some x:=by rfl)(hv:qb X.env.scope x:=by first|exact Or.inl rfl|exact Or.inr (Or.inl rfl)|exact Or.inr (Or.inr rfl))(hj:Y[j]?=some i:=by rfl)(ns:es.all noStar=true:=by rfl)(l30:decide (es.length<30)=true:=by rfl)(hline:(apos.endLine==cpos.line)=true:=by rfl)(hd:(x==("__debug__":Str))=false:=by decide)(hcd:(x==("__classdict__":Str))=false:=by decide):SE X Ex Y (.Call (.Attribute (.Name x p) name apos) es [] cpos) (oU f i ds):=RN hm D slot hty (kE hN hv hd hcd) hj ns (Vf l30) hline S
def kP:A03->Bool
 |[]=>true
 |a::r=>!r.contains a&&kP r
theorem gX:∀{l:A03},kP l=true->l.Nodup
 |[],_=>W8
 |a::r,h=>by rw[kP,V9,Xa,XI,Ys]at h;exact Vi.mpr ⟨h.1,gX h.2⟩
def Bv(Y cs ix:A03)(vs:A05)(sl:A03):Bool:=(cs.length==vs.length)&&ix.all (λi=>Nat.blt i Y.length)&&cs.all (λc=>!Y.contains c)&&kP (cK Y cs ix)&&sl.all (λi=>cs.contains i)
def zk(h:Bv Y cs ix vs sl=true):cs.length=vs.length/\(∀i∈ix,i<Y.length)/\(∀c∈cs,c∉Y)/\(cK Y cs ix).Nodup/\∀i∈sl,i∈cs:=by unfold Bv at h;rw[V9,V9,V9,V9,VN,VN,VN,beq_iff_eq]at h;obtain⟨⟨⟨⟨h1,h2⟩,h3⟩,h4⟩,h5⟩:=h;refine⟨h1,λi hi=>by simpa using h2 i hi,λc hc z=>?_,gX h4,λi hi=>?_⟩;{have:=h3 c hc;rw[Xa,XI,Ys]at this;exact this z};have:=h5 i hi;rw[XI,W2]at this;exact this
def Lc(r:Zl):Bool:=r.all λg=>g.is_async==0
def AW(h:Lc r=true):∀g∈r,g.is_async=0:=λg hg=>by have:=VN.mp h g hg;simpa using this
variable{cs:A03}{elt tg iter:Expr}{ifs:A01}{scope:Scope}{pos:Pos}
def eF{rest:Zl}{vs NB:A05}{ix:A03}{di:DI}{t:Tg}{c:DT}{r:DC}(B:oY X.N X.env.scope scope vs NB ix=true)(hi:SI X Ex Y tg iter di)(ht:∀(C:Addr)(s:Shared)(H:Hp)(fp:Zz),gH (X.block scope C NB s H fp) (cK Y cs ix) tg t)(hif:∀(C:Addr)(s:Shared)(H:Hp)(fp:Zz),jQ (X.block scope C NB s H fp) E0 (cK Y cs ix) ifs c)(hr:∀(C:Addr)(s:Shared)(H:Hp)(fp:Zz)(D:Addr),SL (X.block scope C NB s H fp) (cK Y cs ix) cs D elt (⟨tg,iter,ifs,0⟩::rest) scope pos 1 r)(hc:X.calm=true:=by rfl)(ck:Bv Y cs ix vs t.slots=true:=by rfl)(ha:Lc rest=true:=by rfl)(hs:∀v,foldedSetIterable iter X.env v=pure v:=by intro _;rfl):SE X Ex Y (.ListComp elt (⟨tg,iter,ifs,0⟩::rest) scope pos) (bJ cs di t c r):=
 let⟨h1,h2,h3,h4,h5⟩:=zk ck
 OL (cS.of B) hc h1 h2 h3 h4 hi ht h5 hif hr (AW ha) hs
def DJ{j:Nat}{y:Str}{py spos:Pos}{rest:Zl}{vs NB:A05}{ix:A03}{di:DI}{t:Tg}{c:DT}{r:DC}(hN:X.N.Nodup)(B:oY X.N X.env.scope scope vs NB ix=true)(hi:SI X Ex (aM X) tg iter di)(ht:∀(C:Addr)(s:Shared)(H:Hp)(fp:Zz),gH (X.block scope C NB s H fp) (cK (aM X) cs ix) tg t)(hif:∀(C:Addr)(s:Shared)(H:Hp)(fp:Zz),jQ (X.block scope C NB s H fp) E0 (cK (aM X) cs ix) ifs c)(hr:∀(C:Addr)(s:Shared)(H:Hp)(fp:Zz)(D:Addr),SL (X.block scope C NB s H fp) (cK (aM X) cs ix) cs D elt (⟨tg,iter,ifs,0⟩::rest) scope pos 1 r)(hj:X.N[j]?=some y:=by rfl)(hy:X.env.scope.names.lookup y=some .local:=by rfl)(hsw:swapsWith (.ListComp elt (⟨tg,iter,ifs,0⟩::rest) scope pos) (some (.Name y py)) spos.line X.env=pure true:=by rfl)(hc:X.calm=true:=by rfl)(ck:Bv (aM X) cs ix vs t.slots=true:=by rfl)(ha:Lc rest=true:=by rfl)(hs:∀v,foldedSetIterable iter X.env v=pure v:=by intro _;rfl):S1 X Ex (.Assign [.Name y py] (.ListComp elt (⟨tg,iter,ifs,0⟩::rest) scope pos) spos) (aK j (bJ cs di t c r)):=
 let⟨h1,h2,h3,h4,h5⟩:=zk ck
 SA hN hj hy (cS.of B) hc h1 h2 h3 h4 hi ht h5 hif hr (AW ha) hs hsw
def cB{D:Addr}{k:Nat}(h:SE X E0 Y elt d)(hk:gens[k]?=none:=by rfl):SL X Y cs D elt gens scope pos k (bM sizeLine d):=Nr h hk
def DQ:A05->Bool
 |[]=>true
 |a::r=>!r.contains a&&DQ r
theorem Dl:∀{l:A05},DQ l=true->l.Nodup
 |[],_=>W8
 |a::r,h=>by rw[DQ,V9,Xa,XI,Ys]at h;exact Vi.mpr ⟨h.1,Dl h.2⟩
def QW{D:Addr}{k:Nat}(hi:SI X E0 Y tg iter di)(ht:gH X Y tg t)(hif:jQ X E0 Y ifs c)(hr:SL X Y cs D elt gens scope pos (k+1) r)(hc:X.calm=true:=by rfl)(hN:DQ X.N=true:=by rfl)(nd:kP Y=true:=by rfl)(hts:(t.slots.all λi=>cs.contains i)=true:=by rfl)(hk:gens[k]?=some ⟨tg,iter,ifs,0⟩:=by rfl)(ha:Lc gens=true:=by rfl)(hs:∀v,foldedSetIterable iter X.env v=pure v:=by intro _;rfl):SL X Y cs D elt gens scope pos k (Dt di t c r):=
 Ov hc (Dl hN) (gX nd) hi ht (λi hi=>by
  have:=VN.mp hts i hi;rw[XI,W2]at this;exact this) hif hr hk (AW ha) hs
def Lp{i:Nat}(ho:HZ X op (N3 f))(hN:X.N.Nodup)(hi:X.N[i]?=some x)(hl:Loc X.env.scope x)(hf:X.fn x=true\/X.env.scope.names.lookup x=some .local)(h:SE X Ex (aM X) e d):S1 X Ex (.AugAssign (.Name x pos') op e pos) (v7 f i d):=by
 intro g D' E U H Hm F D hx R p nx rt;replace p:bK (here E i) _:=p;rw[dh]at p;obtain⟨hh,p⟩:=p;obtain⟨v0,hv0⟩:=kq R hh;refine WS.of (HA hN hi hl bB ho hf) ⟨v0,fJ (fE (bq hi)) hv0,h g D'.xc E U H Hm F _ _ hx R p λE' k v u H' Hm' F' fp p' R' s' T=>?_⟩;replace p':Ge f E' i v D'.nx:=p';unfold Ge at p';split at p'
 rotate_left
 .exact p'.elim
 rename_i k' a e1;rw[<-L3]at p';obtain⟨b,rfl,p'⟩:=p';obtain⟨v1,h1,h2⟩:=R'.slot i _ _ e1;rw[hv0]at h1;cases h1;cases h2.int;cases T.own.int;refine⟨a,b,rfl,rfl,?_⟩;have ho:bN E' i=true:=by
  unfold bN;rw[e1];cases k' with
  |sh=>rfl
  |_=>cases h2
 show D.nx ((sel (aM X) U).set i (some _)) H';rw[iY WC (fE (bq hi)) (R'.len▸gk ho)];exact nx _ _ _ _ _ p' (R'.put (Tm.sh (.int _)) ho) s'
def MA(i:Nat)(hN:X.N.Nodup)(h:SE X Ex (aM X) e d)(hi:X.N[i]?=some x:=by rfl)(hl:Loc X.env.scope x:=by first|exact Or.inl rfl|exact Or.inr rfl)(hf:X.fn x=true\/X.env.scope.names.lookup x=some .local:=by first|exact Or.inl rfl|exact Or.inr rfl):S1 X Ex (.AugAssign (.Name x pos') .Add e pos) (v7 (·+·) i d):=Lp Q6 hN hi hl hf h
def NC(i:Nat)(hN:X.N.Nodup)(h:SE X Ex (aM X) e d)(hi:X.N[i]?=some x:=by rfl)(hl:Loc X.env.scope x:=by first|exact Or.inl rfl|exact Or.inr rfl)(hf:X.fn x=true\/X.env.scope.names.lookup x=some .local:=by first|exact Or.inl rfl|exact Or.inr rfl):S1 X Ex (.AugAssign (.Name x pos') .Sub e pos) (v7 (·-·) i d):=Lp P6 hN hi hl hf h
def xZ:PyData->Option String
 |.none=>some "NoneType"
 |.bool _=>some "bool"
 |.int _=>some "int"
 |.str _=>some "str"
 |.list _=>some "list"
 |.tuple _=>some "tuple"
 |.dict _=>none
def jL(c t:String):Bool:=t==c||(c == "int" && t == "bool")
def xJ(c:String):DR:=λds P=>match ds with
 |[d]=>aH (xZ d) λt=>P .sh (.bool (jL c t))
 |_=>False
def tys:List String:=["NoneType","bool","int","str","list","tuple"]
def AM(K:Frag)(cs:List String):Bool:=cs.all λc=>tys.all λt=>kitOne K (.type t) (.type c)==some (jL c t)
def Ru{K:Frag}{cs:List String}(h:AM K cs=true){c t:String}(hc:c∈cs)(ht:t∈tys):kitOne K (.type t) (.type c)=some (jL c t):=by have:=VN.mp (VN.mp h c hc) t ht;simpa using this
def RV(s:aj Hm H)(r:Rp K Hm v d)(h:xZ d=some t):iF K H v (.type t)/\t∈tys:=by
 cases r with
 |bU=>cases h;exact⟨.bU,by decide⟩
 |bl b=>cases h;exact⟨.bl b,by decide⟩
 |int i=>cases h;exact⟨.int i,by decide⟩
 |str x=>cases h;exact⟨.str x,by decide⟩
 |lst a _=>cases h;refine⟨?_,by decide⟩;rcases a with (a|⟨o,a⟩)|⟨its,n,a,_⟩;{exact .lst (s _ _ a)};{exact .gj (s _ _ a)};exact .kl a
 |tup a _=>cases h;exact⟨.tup (s _ _ a),by decide⟩
 |dk _ _=>cases h
 |dt _ _=>cases h
 |exc _ _=>cases h
def N5{css:List String}(kf:AM X.K css=true)(hc:css.contains c=true)(hm:X.mg "isinstance"=none)(hm2:X.mg x=none)(hv:bootBuiltins x=some (.type c))(hg:Gl X "isinstance")(hg2:Gl X x)(hn:x≠"__name__")(hd:(x==("__debug__":Str))=false)(ns:noStar a=true)(S:aV X Ex Y [a] as) : SE X Ex Y (.Call (.Name "isinstance" p) [a,.Name x p2] [] pos) (ah (xJ c) as):=by refine fR (r:=λvs H Q=>∃v t,vs=[v]/\iF X.K H v (.type t)/\t∈tys/\Q (.bl (jL c t)) H) S (λU H Q h=>WE.of (mQ Ka hg hm PyProof.Rows.boot_isinstance (ia bB (ia (CN (v:=.ty c) hg2 hm2 hv rfl hn hd) mF) (bG ns)) (by decide) (by decide) (bG ns) (by rfl)) ?_) ?_;{refine λpins s I=>aT (h pins s I) λv s1 ⟨y,H1,I1,r1,w,t,e,ty,ht,q⟩=>⟨y,H1,I1,r1,?_⟩;cases e;refine⟨_,_,_,_,rfl,ty,λu hu=>?_,q⟩;cases hu;exact Ru kf (by simpa using hc) ht};intro H Hm vs ds P Q s r h q;unfold xJ at h;split at h;{obtain⟨v,rfl,h1⟩:=ee r;rw[<-bw]at h;obtain⟨t,e,h⟩:=h;obtain⟨ty,ht⟩:=RV s h1 e;exact⟨v,t,rfl,ty,ht,bP.sc q s h (.bl _)⟩};exact h.elim
def Eh(kf:AM X.K css=true)(hm:X.mg "isinstance"=none)(hm2:X.mg x=none)(hv:bootBuiltins x=some (.type c))(S:aV X Ex Y [a] as)(hc:css.contains c=true:=by decide)(hg:Gl X "isinstance":=by rfl)(hg2:Gl X x:=by rfl)(hn:x≠"__name__":=by decide)(hd:(x==("__debug__":Str))=false:=by decide)(ns:noStar a=true:=by rfl) : SE X Ex Y (.Call (.Name "isinstance" p) [a,.Name x p2] [] pos) (ah (xJ c) as):=N5 kf hc hm hm2 hv hg hg2 hn hd ns S
end
end Dv
namespace Dv
open PySem L2 PySem.W
open Classical in
def Gh.fS(g:Gh)(H:Hp)(fp:Zz):Gh:=⟨λa=>if a∈fp then H a else g.H0 a,λa=>if a∈fp then none else g.jA a,g.pins⟩
section
variable{K:Frag}{g:Gh}{E:En}{U:St}{H H' Hm Hm':Hp}{F:Nat->Zz}{fp:Zz}
def lE{a:Addr}(h:a∈fp):(g.fS H fp).H0 a=H a:=by unfold Gh.fS;exact if_pos h
def fY{a:Addr}(h:a∉fp):(g.fS H fp).H0 a=g.H0 a:=by unfold Gh.fS;exact if_neg h
def Fp{a:Addr}(h:a∈fp):(g.fS H fp).jA a=none:=by unfold Gh.fS;exact if_pos h
def Cb{a:Addr}(h:a∉fp):(g.fS H fp).jA a=g.jA a:=by unfold Gh.fS;exact if_neg h
structure pH(g:Gh)(F:Nat->Zz)(H Hm:Hp)(fp:Zz):Prop where
 CC:∀a∈fp,∃u,H a=some u/\sO u
 off:∀a∈fp,Hm a=none
 aW:∀a∈fp,∀i,a∉F i
 new:∀a∈fp,g.H0 a=none
def pH.bI(A:pH g F H Hm fp):∀a∈fp,H a≠none:=λa ha z=>by obtain⟨u,hu,_⟩:=A.CC a ha;rw[z]at hu;cases hu
def pH.notM(A:pH g F H Hm fp)(R:Rl K g E U H Hm F):∀a∈fp,a∉g.M:=λa ha m=>by obtain⟨q,hq,rfl⟩:=V6.mp m;exact A.aW _ ha q.1 (by rw[R.Ff hq];exact V1)
theorem Rl.fS(R:Rl K g E U H Hm F)(A:pH g F H Hm fp):Rl K (g.fS H fp) E U H Hm F where
 len:=R.len
 sub:=R.sub
 slot:=R.slot
 off:=R.off
 bI:=R.bI
 aW:=R.aW
 fr:=λp o hp ho=>by
  by_cases c:p∈fp
  .rw[lE c]at ho;exact ho
  .rw[fY c]at ho;exact R.fr p o hp ho
 new:=λi a ha=>by
  have c:a∉fp:=λz=>A.aW a z i ha
  rw[fY c];exact R.new i a ha
 pin:=R.pin
 old:=λa ha=>by
  by_cases c:a∈fp
  .rw[Fp c];exact .inl (A.off a c)
  .rw[fY c]at ha;rw[Cb c];exact R.old a ha
def Rl.vd{F':Nat->Zz}(A:pH g F H Hm fp)(nM:∀a∈fp,a∉g.M)(R:Rl K (g.fS H fp) E' σ' H' Hm' F'):Rl K g E' σ' H' Hm' F'/\pH g F' H' Hm' fp/\∀a∈fp,H' a=H a:=by
 have keep:∀a∈fp,H' a=H a:=λa ha=>by
  cases e:H a with
  |none=>exact absurd e (A.bI a ha)
  |some o=>exact R.fr a o (nM a ha) (by rw[lE ha];exact e)
 refine⟨?_,⟨λa ha=>by rw[keep a ha];exact A.CC a ha,λa ha=>?_,λa ha i z=>?_,A.new⟩,keep⟩
 .exact {
   len:=R.len
   sub:=R.sub
   slot:=R.slot
   off:=R.off
   bI:=R.bI
   aW:=R.aW
   fr:=λp o hp ho=>by
    have c:p∉fp:=λz=>by rw[A.new p z]at ho;cases ho
    exact R.fr p o hp (by rw[fY c];exact ho)
   new:=λi a ha=>by
    rcases R.new i a ha with m|m
    .exact .inl m
    .by_cases c:a∈fp
     .exact .inr (A.new a c)
     .rw[fY c]at m;exact .inr m
   pin:=R.pin
   old:=λa ha=>by
    have c:a∉fp:=λz=>ha (A.new a z)
    have h':=R.old a (by rw[fY c];exact ha)
    rw[Cb c]at h';exact h' }
 .have h':=R.old a (by rw[lE ha];exact A.bI a ha);obtain⟨u,hu,nt⟩:=A.CC a ha;exact h'.off (Fp ha) R.sub (by rw[keep a ha];exact hu) nt
 rcases R.new i a z with m|m;{exact nM a ha m};rw[lE ha]at m;exact A.bI a ha m
theorem XL.fS(A:pH g F H Hm fp)(h:XL X Ex x g):XL X Ex x (g.fS H fp):=λc d C a H' hC hx fr ha hn=>by
 have c0:a∉fp:=λz=>by rw[lE z]at hn;exact A.bI a z hn
 refine h c d C a H' hC hx (λp o hp ho=>fr p o hp ?_) ha (by rw[fY c0]at hn;exact hn);have c:p∉fp:=λz=>by rw[A.new p z]at ho;cases ho
 rw[fY c];exact ho
theorem ff.snoc{xs:List V}{ds:Zw}{b:Addr}{ys:List V}{es:Zw}(e:H b=some (.lst ys))(r:aC K Hm ys es):∀{xs:List V}{ds:Zw}{fp:Zz},ff K H Hm xs ds fp->b∉fp->ff K H Hm (xs++[.ref b]) (ds++[.list es]) (fp++[b])
 |_,_,_,.nil,n=>.own e r n .nil
 |_,_,_,.lR h1 h2 t,n=>.lR h1 h2 (t.snoc (xs:=xs) (ds:=ds) e r n)
 |_,_,_,.own h1 h2 h3 t,n=>.own h1 h2 (λz=>by
   rcases V8.mp z with z|z
   .exact h3 z
   .exact n (VB.mp z▸V1)) (t.snoc (xs:=xs) (ds:=ds) e r λz=>n (V5 _ z))
theorem ff.get:∀{xs:List V}{ds:Zw}{fp:Zz}{m:Nat},ff K H Hm xs ds fp->ds[m]?=some (.list es)->∃b ys,xs[m]?=some (.ref b)/\H b=some (.lst ys)/\aC K Hm ys es/\b∈fp
 |_,_,_,_,.nil,h=>by simp at h
 |_,_,_,0,.lR e _ _,h=>by simp at h;rw[h]at e;cases e
 |_,_,_,m+1,.lR _ _ t,h=>t.get (m:=m) (by simpa using h)
 |_,_,_,0,.own e r _ _,h=>by simp at h;subst h;exact⟨_,_,rfl,e,r,V1⟩
 |_,_,_,m+1,.own _ _ _ t,h=>by obtain⟨b,ys,h1,h2,h3,h4⟩:=t.get (m:=m) (by simpa using h);exact⟨b,ys,h1,h2,h3,V5 _ h4⟩
theorem ff.put{b:Addr}(r:aC K Hm ys new):∀{xs:List V}{ds:Zw}{fp:Zz}{m:Nat},ff K H Hm xs ds fp->xs[m]?=some (.ref b)->(∃es,ds[m]?=some (.list es))->ff K (upd H b (.lst ys)) Hm xs (ds.set m (.list new)) fp
 |_,_,_,_,.nil,h,_=>by simp at h
 |_,_,_,0,.lR e _ _,_,⟨es,h⟩=>by simp at h;rw[h]at e;cases e
 |_,_,_,m+1,.lR e h2 t,h,⟨es,h'⟩=>.lR e h2 (t.put (m:=m) r (by simpa using h) ⟨es,by simpa using h'⟩)
 |_,_,_,0,.own (b:=b') e r' n t,h,_=>by simp at h;subst h;exact .own aQ r n (t.step (aj.refl _) λa ha=>aA λz=>n (z▸ha))
 |_,_,_,m+1,.own (b:=b') (fp:=fp) e r' n t,h,⟨es,h'⟩=>by have h:_:=h;obtain⟨b2,ys2,g1,g2,g3,g4⟩:=t.get (m:=m) (es:=es) (by simpa using h');simp at h;rw[h]at g1;cases g1;refine .own (by rw[aA (show b'≠b from λz=>n (by rw[z];exact g4))];exact e) r' n (t.put (m:=m) r h ⟨es,by simpa using h'⟩)
def Rl.T8(R:Rl K g E U H Hm F){i:Nat}{b:Addr}(e:E[i]?=some (some (k,d)))(hv:U[i]?=some (some v))(hb:b∈F i)(new:Own K (upd H b o) Hm k v d' (F i))(nt:sO o)(hp:k=.ow true->∃ds,d'=.list ds) : Rl K g (E.set i (some (k,d'))) U (upd H b o) Hm F:=by
 have na:=R.off i b hb;have up:∀c,c≠b->upd H b o c=H c:=λc hc=>aA hc;have li:=bq e;exact {
  len:=by rw[Vs];exact R.len
  sub:=λc u hc=>by
   have:c≠b:=λz=>by rw[z,na]at hc;cases hc
   rw[up c this];exact R.sub c u hc
  slot:=λj k' d'' e'=>by
   by_cases c:j=i
   .subst c;rw[aO li]at e';cases e';exact⟨_,hv,new⟩
   .rw[aq (Ne.symm c)]at e';obtain⟨u,g1,g2⟩:=R.slot j k' d'' e';refine⟨u,g1,g2.step (aj.refl _) λa ha=>up a λz=>c (R.aW j i b (z▸ha) hb)⟩
  off:=R.off
  bI:=λj a ha=>by
   by_cases c:a=b
   .rw[c];exact⟨_,aQ,nt⟩
   .rw[up a c];exact R.bI j a ha
  aW:=R.aW
  fr:=λq u hq ho=>by
   have:q≠b:=λz=>by
    rcases R.new i b hb with y|y
    .exact hq (z▸y)
    .rw[z,y]at ho;cases ho
   rw[up q this];exact R.fr q u hq ho
  new:=R.new
  pin:=λq hq=>by
   obtain⟨g1,ds',g2⟩:=R.pin q hq
   by_cases c:i=q.1
   .rw[<-c]at g1 g2⊢;rw[e]at g2;cases g2;obtain⟨ds,rfl⟩:=hp rfl;exact⟨g1,ds,aO li⟩
   .exact⟨g1,ds',by rw[aq c];exact g2⟩
  old:=R.old }
def NH(h:cT t d E=some E'):E'.length=E.length:=by
 have go:∀{is:A03}{ds:Zw}{E E':En},b9 is ds E=some E'->E'.length=E.length:=by
  intro is;induction is with
  |nil=>intro ds E E' h;cases ds with|nil=>cases h;rfl|cons _ _=>cases h
  |cons j is ih=>
   intro ds E E' h;cases ds with
   |nil=>cases h
   |cons d ds=>rw[b9]at h;by_cases o:bN E j=true;{rw[if_pos o]at h;rw[ih h,Vs]};rw[if_neg o]at h;cases h
 cases t with
 |nm j=>exact go (is:=[j]) h
 |tp js=>
  cases d with
  |tuple ds=>exact go (is:=js) h
  |_=>cases h
end
section
variable{X:Cx}{Ex:XK}{Y cs:A03}{elt tg iter:Expr}{ifs:A01}{scope:Scope}{pos:Pos}
def Ku{vs:A05}{t:Tg}(B:cS X scope vs NB ix)(hc:X.calm=true)(hcs:cs.length=vs.length)(hix:∀i∈ix,i<Y.length)(aW:∀c∈cs,c∉Y)(nd:(cK Y cs ix).Nodup)(hi:SI X Ex Y tg iter di)(ht:∀(C:Addr)(s:Shared)(H:Hp)(fp:Zz),gH (X.block scope C NB s H fp) (cK Y cs ix) tg t)(hts:∀i∈t.slots,i∈cs)(hif:∀(C:Addr)(s:Shared)(H:Hp)(fp:Zz),jQ (X.block scope C NB s H fp) E0 (cK Y cs ix) ifs c)(hr:∀(C:Addr)(s:Shared)(H:Hp)(fp:Zz),SE (X.block scope C NB s H fp) E0 (cK Y cs ix) elt e)(hs:∀v,foldedSetIterable iter X.env v=pure v){w:(V->Hp->Prop)->St->Hp->Prop}(hw:∀{wi:TI}{G:TG}{tt:TT}{tr:TL}{U:St}{H:Hp}{Q:VK},PI X tg iter wi->(∀(C:Addr)(s:Shared)(H:Hp)(fp:Zz),PG (X.block scope C NB s H fp) tg G)->(∀(C:Addr)(s:Shared)(H:Hp)(fp:Zz),vS (X.block scope C NB s H fp) ifs tt)-> (∀(C:Addr)(s:Shared)(H:Hp)(fp:Zz)(D:Addr),PL (X.block scope C NB s H fp) D elt (⟨tg,iter,ifs,0⟩::[]) scope pos 1 tr)->uG wi vs.length ix G tt tr U H Q->w Q U H)(g:Gh)(x:XC)(E:En)(U:St)(H Hm:Hp)(F:Nat->Zz)(P:A06)(Q:VK)(hx:XL X Ex x g)(R:Rl X.K g E U H Hm F)(p:oz sizeLine cs di t c e x E P)(q:∀E' k v u H' Hm' F' fp,P E' k v->Rl X.K g E' U H' Hm' F'->aj Hm Hm'->Tm X.K g F' H' Hm' k u v fp->Q u H'):w Q (sel Y U) H:=by
 obtain⟨wi,hpi,hwi⟩:=hi;refine hw (wi:=wi) (G:=λv U H Q=>∀(C:Addr)(s:Shared)(H2:Hp)(fp:Zz),WG (X.block scope C NB s H2 fp) tg v U H Q) (tt:=λU H Q=>∀(C:Addr)(s:Shared)(H2:Hp)(fp:Zz),x9 (X.block scope C NB s H2 fp) ifs U H Q)
  (tr:=Lh λU H Q=>∀(C:Addr)(s:Shared)(H2:Hp)(fp:Zz),WE (X.block scope C NB s H2 fp) elt U H Q) hpi (λC s H2 fp pins s' U H v u Q I r h=>h C s H2 fp pins s' u I r) (λC s H2 fp pins s' U H Q I h=>h C s H2 fp pins s' I)
  (λC s H2 fp D=>DA (λpins s' U H Q I h=>h C s H2 fp pins s' I)) ?_
 refine hwi g x E U H Hm F _ _ hx R p λE1 xs J H1 Hm1 F1 p1 R1 s1 it1=>?_;obtain⟨E0',I,hcl,i0,step,fin⟩:=p1;obtain⟨σ0,F0,R0,a0,n0⟩:=R1.bE hcl;rw[<-hcs,De hix aW a0 λc hc=>(n0 c hc).1];refine⟨λi m ys τ H'=>m=xs.length-i/\i<=xs.length/\∃E' dys' σ' Hm' F' fp,I i dys' E'/\Rl X.K g E' σ' H' Hm' F'/\aj Hm1 Hm'/\ff X.K H' Hm' ys dys' fp/\pH g F' H' Hm' fp/\Agree cs σ0 σ'/\τ=sel (cK Y cs ix) σ',
  ⟨xs.length,by simp,VW _,E0',[],σ0,Hm1,F0,[],i0,R0,aj.refl _,.nil,⟨(λ_ z=>by cases z),(λ_ z=>by cases z),(λ_ z=>by cases z),λ_ z=>by cases z⟩,Agree.refl _ _,rfl⟩,?_⟩
 rintro i m ys τ H2⟨rfl,hi,E2,dys2,σ2,Hm2,F2,fp,i2,R2,s2,r2,A2,a2,rfl⟩;obtain⟨go,stop⟩:=it1 i H2 Hm2 s2 R2.sub;by_cases c':i<xs.length
 .obtain⟨go,sJ⟩:=go xs[i] (VX c');refine .inr ⟨go,λys τ H'=>i+1<=xs.length/\∃E' dys' σ' Hm' F' fp,I (i+1) dys' E'/\Rl X.K g E' σ' H' Hm' F'/\aj Hm1 Hm'/\ff X.K H' Hm' ys dys' fp/\pH g F' H' Hm' fp/\Agree cs σ0 σ'/\τ=sel (cK Y cs ix) σ',λys τ H' z=>⟨xs.length-(i+1),by lia,rfl,z⟩,λx H3 y C s H9 fp9=>?_⟩;obtain⟨Hm3,t1,t2,t3,old,rx⟩:=sJ x H3 y;have R3:=R2.turn t1 t2 t3 old;have k3:∀a∈fp,H3 a=H2 a:=λa ha=>by
   cases e:H2 a with
   |none=>exact absurd e (A2.bI a ha)
   |some o=>exact t3 _ _ e
  have A3:pH g F2 H3 Hm3 fp:=⟨λa ha=>by rw[k3 a ha];exact A2.CC a ha,λa ha=>by
   obtain⟨u,hu,nt⟩:=A2.CC a ha;exact(old a (A2.bI a ha)).off (A2.off a ha) t2 (t3 _ _ hu) nt,A2.aW,A2.new⟩
  have r3:=r2.step (H':=H3) t1 k3;have nM:=A3.notM R3;obtain⟨E4,e4,p4⟩:=step i xs[i] dys2 E2 (VX c') i2;obtain⟨G,g1,g2⟩:=vU (X:=X.block scope C NB s H9 fp9) hc B.nd nd (ht C s H9 fp9);refine WG.of g1 (g2 (g:=g.fS H3 fp) e4 rx (R3.fS A3) λσ4 F4 R4 ag=>?_);have a4:Agree cs σ0 σ4:=a2.trans ⟨by rw[<-R3.len,<-R4.len,NH e4],λj hj=>ag j λz=>hj (hts j z)⟩;intro C2 s2' H92 fp92;refine(hif C2 s2' H92 fp92).ok XL.no R4 p4 λE5 b H5 Hm5 F5 p5 R5 s5=>?_;cases b with
  |true=>
   refine qY λC3 s3' H93 fp93=>?_;refine hr C3 s3' H93 fp93 (g.fS H3 fp) xF E5 σ4 H5 Hm5 F5 _ _ XL.no R5 (by rw[if_pos rfl]at p5;exact p5) λE6 k6 v6 u6 H6 Hm6 F6 fp6 p6 R6 s6 T6=>?_;obtain⟨⟨pb,rfl⟩,hl,p6⟩:=p6;obtain⟨R6',A6,k6⟩:=Rl.vd A3 nM R6;have T1:=T6.own;have hlen:ys.length=dys2.length:=by
    have:∀{xs:List V}{ds:Zw}{fp:Zz}{H Hm:Hp},ff X.K H Hm xs ds fp->xs.length=ds.length:=by
     intro xs ds fp H Hm h;induction h with
     |nil=>rfl
     |lR _ _ _ ih=>rw[VF,VF,ih]
     |own _ _ _ _ ih=>rw[VF,VF,ih]
    exact this r2
   cases T1 with
   |@ow _ b zs es hb rz=>
    have nb:b∉fp:=λz=>by have:=T6.new b V1;rw[lE z]at this;exact A3.bI b z this
    have r6:=(r3.step (H':=H6) (s5.trans s6) k6).snoc (xs:=[]) (ds:=[]) hb rz nb;refine⟨by rw[hlen];exact hl,c',E6,_,σ4,Hm6,F6,fp++[b],p6,R6',s2.trans (t1.trans (s5.trans s6)),r6,⟨λa ha=>?_,λa ha=>?_,λa ha=>?_,λa ha=>?_⟩,a4,rfl⟩;{rcases V8.mp ha with ha|ha;{exact A6.CC a ha};rw[VB.mp ha];exact⟨_,hb,o9⟩};{rcases V8.mp ha with ha|ha;{exact A6.off a ha};rw[VB.mp ha];exact T6.off b V1};{rcases V8.mp ha with ha|ha;{exact A6.aW a ha};rw[VB.mp ha];exact T6.aW b V1};rcases V8.mp ha with ha|ha;{exact A6.new a ha};rw[VB.mp ha];have:=T6.new b V1;rw[fY nb]at this;exact this
  |false=>obtain⟨R5',A5,k5⟩:=Rl.vd A3 nM R5;exact qy ⟨c',E5,dys2,σ4,Hm5,F5,fp,by simpa using p5,R5',s2.trans (t1.trans s5),r3.step (H':=H5) s5 k5,A5,a4,rfl⟩
 have e:i=xs.length:=by lia
 subst e;refine .inl ⟨stop (V3 _),λp hp=>?_⟩;obtain⟨E3,hcl2,p2⟩:=fin _ _ i2;obtain⟨σ3,F3,R3p,a3,n3⟩:=(R2.fS A2).bE hcl2;obtain⟨R3,A3,_⟩:=Rl.vd A2 (A2.notM R2) R3p;have R3':=R3.agree (cs:=cs) ((a0.trans a2).trans a3).symm λc hc=>(n3 c hc).2;have s3:=cE (o:=.lst ys) hp;have R4:=R3'.grow (H':=upd H2 p (.lst ys)) s3 (aj.refl _) (R3'.sub.trans s3) (λi a ha=>R3'.off i a ha) λ_ _=>.inl rfl;have np:p∉fp:=λz=>A2.bI p z hp;refine q _ _ _ _ _ Hm2 F3 (p::fp) p2 R4 (s1.trans s2) ⟨.dp aQ np (r2.step (H':=upd H2 p (.lst ys)) (aj.refl _) λa ha=>aA λz=>np (z▸ha)),λa ha=>?_,λa ha i=>?_,λa ha=>?_⟩;{rcases V7.mp ha with rfl|ha;{exact R3'.vF hp};exact A2.off a ha};{rcases V7.mp ha with rfl|ha;{exact R3'.fresh hp};exact A3.aW a ha i};rcases V7.mp ha with rfl|ha;{exact R3'.gK hp};exact A2.new a ha
end
section
variable{X:Cx}{Ex:XK}{Y cs:A03}{elt tg iter:Expr}{ifs:A01}{scope:Scope}{pos:Pos}
def Pp{j:Nat}(hN:X.N.Nodup)(B:oY X.N X.env.scope scope vs NB ix=true)(hi:SI X Ex (aM X) tg iter di)(ht:∀(C:Addr)(s:Shared)(H:Hp)(fp:Zz),gH (X.block scope C NB s H fp) (cK (aM X) cs ix) tg t)(hif:∀(C:Addr)(s:Shared)(H:Hp)(fp:Zz),jQ (X.block scope C NB s H fp) E0 (cK (aM X) cs ix) ifs c)(hr:∀(C:Addr)(s:Shared)(H:Hp)(fp:Zz),SE (X.block scope C NB s H fp) E0 (cK (aM X) cs ix) elt e)(hj:X.N[j]?=some y:=by rfl)(hy:X.env.scope.names.lookup y=some .local:=by rfl)(hsw:swapsWith (.ListComp elt [⟨tg,iter,ifs,0⟩] scope pos) (some (.Name y py)) spos.line X.env=pure true:=by rfl)(hc:X.calm=true:=by rfl)(ck:Bv (aM X) cs ix vs t.slots=true:=by rfl)(hs:∀v,foldedSetIterable iter X.env v=pure v:=by intro _;rfl):S1 X Ex (.Assign [.Name y py] (.ListComp elt [⟨tg,iter,ifs,0⟩] scope pos) spos) (aK j (oz sizeLine cs di t c e)):=by
 obtain⟨h1,h2,h3,h4,h5⟩:=zk ck;have B':cS X scope vs NB ix:=cS.of B;have ha:∀g∈([]:Zl),g.is_async=0:=λ_ z=>by cases z
 rw[xo];intro g D' E U H Hm F D hx R p nx rt;refine Ku B' hc h1 h2 h3 h4 hi ht h5 hif hr hs (w:=λQ τ H=>(Q=λu H1=>D.nx (τ.set j (some u)) H1)->WS X (.Assign [.Name y py] (.ListComp elt [⟨tg,iter,ifs,0⟩] scope pos) spos) D τ H)
  (λg1 g2 g3 g4 g5 e=>by
   subst e;exact WS.of (Bj hN hj hy B' hc g1 g2 g3 g4 hsw ha hs) g5) g D'.xc E U H Hm F _ _ hx R p (λE' k v u H' Hm' F' fp p' R' s' T=>?_) rfl
 rw[iY WC (fE (bq hj)) (R'.len▸gk p'.1)];exact nx _ _ _ _ _ p'.2 (R'.put T p'.1) s'
def Jc{i n:Nat}(h:dX E n=some E')(ne:i≠n):E'[i]?=E[i]?:=by unfold dX at h;split at h;{split at h;{cases h;exact aq (Ne.symm ne)};cases h};cases h
def Qj{x y name:Str}{id:String}{p yp sp apos cpos:Pos}{jx:Expr}{f:DM}{r:V->List V->Hp->VK->Prop}{dj:DE}{i j n jn:Nat}(hm:yu X id r)(D:Dq X.K f r)(slot:Slot "list" name id)(hty:typeOf (.builtin id)=pure (.type "method_descriptor"))(hv:PE X (.Name x p) (pO j))(hj:Y[j]?=some i)(hy:PE X (.Name y yp) (pO jn))(hjn:Y[jn]?=some n)(hs:oN jx)(hd:SE X Ex Y jx dj)(hline:(apos.endLine==cpos.line)=true) : SE X Ex Y (.Call (.Attribute (.Subscript (.Name x p) jx sp) name apos) [.Name y yp] [] cpos) (tM f i dj n):=by
 intro g xc E U H Hm F P Q hx R h q;obtain⟨hh,h⟩:=h;obtain⟨o,ho⟩:=kq R hh;refine WE.of (K2 ZP slot hty hm (bB (e:=.Subscript (.Name x p) jx sp)) (d9 (es:=[.Name y yp]) rfl) rfl (HQ rfl (show 1<30 by decide)) hline rfl rfl) ?_;refine WE.of (Lb IS hv bB hs) ⟨o,fJ hj ho,?_⟩;refine hd g xc E U H Hm F _ _ hx R h λE1 k1 w u1 H1 Hm1 F1 fp1 p1 R1 s1 T1=>?_;obtain⟨a,pp,ds,m,es,k,d,E2,rfl,e1,hix,hes,en,ne,hf,p1⟩:=p1;cases T1.own.int;obtain⟨v',h1,h2⟩:=R1.slot i _ _ e1;rw[ho]at h1;cases h1;obtain⟨vn,Hm2,F2,hvn,s2,R2,rn⟩:=R1.dX en hf;have e2:E2[i]?=some (some (.dp pp,.list ds)):=(Jc hf ne).trans e1;obtain⟨v2,h3,h4⟩:=R2.slot i _ _ e2;rw[ho]at h3;cases h3;generalize hfi:F2 i=fi at h4;cases h4 with
 |@dp _ a0 xs _ fq ha0 n0 it0=>
  obtain⟨b,ys,hxm,hb,ry,mb⟩:=it0.get hes;have hlen:xs.length=ds.length:=by
   have:∀{xs:List V}{ds:Zw}{fp:Zz}{H Hm:Hp},ff X.K H Hm xs ds fp->xs.length=ds.length:=by
    intro xs ds fp H Hm h;induction h with
    |nil=>rfl
    |lR _ _ _ ih=>rw[VF,VF,ih]
    |own _ _ _ _ ih=>rw[VF,VF,ih]
   exact this it0
  refine .inl ⟨_,xs,a,.ref b,rfl,rfl,cz.of ha0,?_,.inl ⟨rfl,_,cz.of hb⟩,?_⟩;{show(oA xs.length a).bind (λj=>xs[j]?)=some (.ref b);rw[hlen,show oA ds.length a=some m from hix];exact hxm};refine WE.of hy ⟨vn,fJ hjn hvn,?_⟩;show r (.ref b) [vn] H1 Q;have mbF:b∈F2 i:=by rw[hfi];exact V5 _ mb
  refine D H1 Hm2 b ys es [vn] [d] _ Q hb (R2.off i b mbF) R2.sub ry (.cons rn .nil) p1 λys' new u v p2 ry' ru=>?_;have nab:a0≠b:=λz=>n0 (z▸mb);have R3:=R2.T8 (o:=.lst ys') (d':=.list (ds.set m (.list new))) e2 ho mbF (by
   rw[hfi];exact .dp (by rw[aA nab];exact ha0) n0 (it0.put ry' hxm ⟨es,hes⟩)) o9 λz=>by cases z
  exact q _ _ _ _ _ _ _ [] p2 R3 (s1.trans s2) (Tm.sh ru)
def KZ(j jn:Nat){i n:Nat}{x y name:Str}{id:String}{p yp sp apos cpos:Pos}{jx:Expr}{f:DM}{r:V->List V->Hp->VK->Prop}{dj:DE}(hm:yu X id r)(D:Dq X.K f r)(slot:Slot "list" name id)(hty:typeOf (.builtin id)=pure (.type "method_descriptor"))(hd:SE X Ex Y jx dj)(hN:X.N[j]?=some x:=by rfl)(hv:qb X.env.scope x:=by first|exact Or.inl rfl|exact Or.inr (Or.inl rfl)|exact Or.inr (Or.inr rfl))(hj:Y[j]?=some i:=by rfl)(hNn:X.N[jn]?=some y:=by rfl)(hvn:qb X.env.scope y:=by first|exact Or.inl rfl|exact Or.inr (Or.inl rfl)|exact Or.inr (Or.inr rfl))(hjn:Y[jn]?=some n:=by rfl)(hs:oN jx:=by intro _ _;rfl)(hline:(apos.endLine==cpos.line)=true:=by rfl)(hb:(x==("__debug__":Str))=false:=by decide)(hcd:(x==("__classdict__":Str))=false:=by decide)(hbn:(y==("__debug__":Str))=false:=by decide)(hcn:(y==("__classdict__":Str))=false:=by decide) : SE X Ex Y (.Call (.Attribute (.Subscript (.Name x p) jx sp) name apos) [.Name y yp] [] cpos) (tM f i dj n):=Qj hm D slot hty (kE hN hv hb hcd) hj (kE hNn hvn hbn hcn) hjn hs hd hline
end
section
variable{P:Program}{w:World}{K:Frag}{mg:Zm}{base:Heap}{N:A05}{qual:Str}{scope:Scope}{f:Addr}{cd:Value}{A:Around}{outer:List Env}{s0:Shared}{H0:Hp}{Ex:XK}
def sf{j}(h:∃C,mg x=some (.ref C)/\iJ K C oK "ValueError.__new__" none=true)(hg:Gl (ir (fO P w) P w K mg base N qual scope f cd A outer s0 H0 Ex) x:=by rfl)(hdb:(x==("__debug__":Str))=false:=by decide) : S1 (ir (fO P w) P w K mg base N qual scope f cd A outer s0 H0 Ex) Ex (.Raise (some (.Call (.Name x np) [.Constant (.str y) j p] [] cpos)) none pos) (oM x):=by obtain⟨C,h⟩:=h;intro g D' E U H Hm F D hx R hp nx rt;refine WS.of (Kp h.2 hg h.1 (ia Hs mF) hdb) ⟨by show 1<=sizeLine;decide,λa ha=>?_⟩;exact hx x .none C a _ h.1 hp (λp o hp ho=>cE ha _ _ (R.fr p o hp ho)) aQ (R.gK ha)
end
end Dv
namespace Dv
open PySem L2
def K7(most:Nat)(E:En) (i:Nat)(v:PyData)(Q:A0B):Prop:=match E[i]?,v with
 |some (some (.ow p,.list ds)),.list es=>ds.length+es.length<=most/\Q (E.set i (some (.ow p,.list (ds++es))))
 |_,_=>False
universe u
def aI{a b:Prop}(x:a)(y:b):a/\b:=⟨x,y⟩
theorem rr0:dC v x E Q=Q E .sh v:=rfl
theorem rr1:aS i x (o::E) Q=F7 (o::E) i Q:=rfl
theorem rr2:ah r as x (o::E) Q=jB as x (o::E) λE1 os=>vD r as E1 os Q:=rfl
theorem rr3:aG sp ms as x (o::E) Q=jB as x (o::E) λE1 os=>GQ sp ms as x E1 os Q:=rfl
theorem rr4:bS d x (o::E) Q=d x (o::E) λE' _ v=>vP v (Q E'):=rfl
theorem rr5:CD i x (o::E) Q=Ht (o::E) i Q:=rfl
theorem rr6:sI t x (o::E) Q=t x (o::E) λE' b=>Q E' (!b):=rfl
theorem rr7:wX a b x (o::E) Q=a x (o::E) λE1 _ v=>DG v λc=>dS c (b x E1 Q) (Q E1 .sh (.bool false)):=rfl
theorem rr8:qc a b x (o::E) Q=a x (o::E) λE1 _ v=>DG v λc=>dS c (Q E1 .sh (.bool true)) (b x E1 Q):=rfl
theorem rr9:mK a x (o::E) Q=a x (o::E) λE1 _ v=>vP v λc=>Q E1 .sh (.bool !c):=rfl
theorem rr10:pC f f' a b c x (o::E) Q=a x (o::E) λE1 _ u=>tF u λi=>b x E1 λE2 _ v=>tF v λj=>dS (f i j) (c x E2 λE3 _ w=>tF w λk=>Q E3 .sh (.bool (f' j k))) (Q E2 .sh (.bool false)):=rfl
theorem rr11:zK c a b x (o::E) Q=c x (o::E) λE1 t=>dS t (a x E1 Q) (b x E1 Q):=rfl
theorem rr12:dJ D E=D.nx E:=rfl
theorem rr13:au a b D (o::E)=a { D with nx:=b D } (o::E):=rfl
theorem rr14:cO c a b D (o::E)=c D.xc (o::E) λE1 t=>dS t (a D E1) (b D E1):=rfl
theorem rr15:aK i e D (o::E)=e D.xc (o::E) λE' k v=>bK (gA E' i) (D.nx (E'.set i (some (k,v)))):=rfl
theorem rr16:qF is e D (o::E)=e D.xc (o::E) λE' k v=>bK k.fz (Lo is v E' D.nx):=rfl
theorem rr17:bY e D (o::E)=e D.xc (o::E) D.rt:=rfl
theorem rr18:gW i D (o::E)=Gg (o::E) i D.rt:=rfl
theorem rr19:oU f i es x (o::E) Q=bK (jC (o::E) i) (jB (es.map .ev) x (o::E) λE1 os=>Fi f i (es.map .ev) E1 os Q):=rfl
theorem rr20:lV i j e D (o::E)=e D.xc (o::E) λE1 k v=>bK k.fz (bK (here E1 i) (j D.xc E1 λE2 k2 w=>bK k2.fz (lV.setI E2 i w v D.nx))):=rfl
theorem rr21:v7 f i e D (o::E)=bK (here (o::E) i) (e D.xc (o::E) λE1 _ v=>Ge f E1 i v D.nx):=rfl
theorem rr22:oM c D E=D.xc c .none:=rfl
theorem rr23:eN e D (o::E)=e D.xc (o::E) λE' _ _=>D.nx E':=rfl
theorem rr24:cY x E Q=Q E true:=rfl
theorem rr25:iE e x (o::E) Q=e x (o::E) λE' k v=>bK k.fz (Lw v λxs=>Q E' xs):=rfl
theorem rr26:mS g as x (o::E) Q=jB as x (o::E) λE1 os=>aH (cZ as E1 os) λds=>aH (g ds) λxs=>Q E1 xs:=rfl
theorem rr27:yD e x (o::E) Q=e x (o::E) λE' k v=>bK k.fz (xY v λds=>Q E' (j8 ds)):=rfl
theorem rr28:UX a b x (o::E) Q=a x (o::E) λE1 k v=>bK k.fz (b x E1 λE2 k2 v2=>bK k2.fz (xY v λds=>xY v2 λes=>Q E2 ((ds.zip es).map λp=>.tuple [p.1,p.2]))):=rfl
theorem rr29:bM most e x ys (o::E) Q=e x (o::E) λE1 k v=>k.fz=true/\ys.length<most/\Q (ys++[v]) E1:=rfl
theorem rr30:jB [] x E Q=Q E []:=rfl
theorem rr31:jB (.pk i::r) x (o::E) Q=bK (here (o::E) i) (jB r x (o::E) λE' os=>Q E' (none::os)):=rfl
theorem rr32:jB (.ev d::r) x (o::E) Q=d x (o::E) λE1 k v=>bK k.fz (jB r x E1 λE' os=>Q E' (some v::os)):=rfl
theorem rr33:cZ [] E []=some []:=rfl
theorem rr34:∀{i:Nat}{r:List Arg}{o:A08}{E:En}{os:A07},cZ (.pk i::r) (o::E) (none::os)=match(o::E)[i]? with
  |some (some (k,d))=>dS k.rd ((cZ r (o::E) os).map (d::·)) none
  |_=>none:=rfl
theorem rr35:∀{d:DE}{v:PyData}{r:List Arg}{E:En}{os:A07},cZ (.ev d::r) E (some v::os)=(cZ r E os).map (v::·):=rfl
theorem rr36:aH (some a) Q=Q a:=rfl
theorem rr37:aH none Q=False:=rfl
theorem rr38:here (o::E) i=match(o::E)[i]? with
  |some (some _)=>true
  |_=>false:=rfl
theorem rr39:bH (some (k,d))=!k.pin:=rfl
theorem rr40:bH none=true:=rfl
theorem rr41:jC (o::E) i=match(o::E)[i]? with
  |some (some (.ow _,.list _))=>true
  |_=>false:=rfl
theorem rr42:iS (o::E) i=match(o::E)[i]? with
  |some (some (.sh,_))=>true
  |_=>false:=rfl
theorem rr43:t6 (o::E) i=match(o::E)[i]? with
  |some (some (k,d))=>dS k.fz (some ((o::E).set i (some (.sh,d)))) none
  |_=>none:=rfl
theorem rr44:j9 [] E=some E:=rfl
theorem rr45:j9 (i::r) E=(t6 E i).bind (j9 r):=rfl
theorem rr46:F7 (o::E) i Q=match(o::E)[i]? with
  |some (some (_,d))=>aH (t6 (o::E) i) λE'=>Q E' .sh d
  |_=>False:=rfl
theorem rr47:Gg (o::E) i Q=match(o::E)[i]? with
  |some (some (k,d))=>bK (!k.pin) (Q ((o::E).set i none) k d)
  |_=>False:=rfl
theorem rr48:Ht (o::E) i Q=match(o::E)[i]? with
  |some (some (k,d))=>bK k.rd (vP d (Q (o::E)))
  |_=>False:=rfl
theorem rr49:∀{r:DR}{as:List Arg}{o:A08}{E:En}{os:A07}{Q:A06},vD r as (o::E) os Q=aH (cZ as (o::E) os) λds=>r ds λk v=>aH (tX as (o::E) k v) λE2=>Q E2 k v:=rfl
theorem rr50:∀{sp:bF}{ms:A00}{as:List Arg}{x:XC}{o:A08}{E:En}{os:A07}{Q:A06},GQ sp ms as x (o::E) os Q=aH (cZ as (o::E) os) λds=>bK (uM ms as (o::E)) (sp ds (λus k v=>IF ms as (o::E) us k v Q) x):=rfl
theorem rr51:∀{f:DM}{i:Nat}{as:List Arg}{o:A08}{E:En}{os:A07}{Q:A06},Fi f i as (o::E) os Q=aH (cZ as (o::E) os) λargs=>match(o::E)[i]? with
  |some (some (.ow p,.list ds))=>f ds args λnew v=>Q ((o::E).set i (some (.ow p,.list new))) .sh v
  |_=>False:=rfl
theorem rr52:Ge f (o::E) i v Q=match(o::E)[i]? with
  |some (some (_,.int a))=>tF v λb=>Q ((o::E).set i (some (.sh,.int (f a b))))
  |_=>False:=rfl
theorem rr53:vP (.bool b) Q=Q b:=rfl
theorem rr54:DG (.bool b) Q=Q b:=rfl
theorem rr55:tF (.int i) Q=Q i:=rfl
theorem rr56:vP (.list ds) Q=Q (!ds.isEmpty):=rfl
theorem rr57:Lw (.list ds) Q=Q ds:=rfl
theorem rr58:Lw (.tuple ds) Q=Q ds:=rfl
theorem rr59:xY (.list ds) Q=Q ds:=rfl
theorem rr60:tX as (o::E) k v=dS ((fM as).all (iS (o::E))||flat k v) (some (o::E)) (j9 (fM as) (o::E)):=rfl
theorem rr61:fM []=[]:=rfl
theorem rr62:fM (.pk i::r)=i::fM r:=rfl
theorem rr63:fM (.ev d::r)=fM r:=rfl
theorem rr64:Kd.fz .sh=true:=rfl
theorem rr65:Kd.fz (.ow false)=true:=rfl
theorem rr66:Kd.fz (.dp false)=true:=rfl
theorem rr67:Kd.fz (.dk false)=true:=rfl
theorem rr68:Kd.fz (.dt false)=true:=rfl
theorem rr69:Kd.rd .sh=true:=rfl
theorem rr70:Kd.rd (.ow p)=true:=rfl
theorem rr71:Kd.rd (.dp p)=true:=rfl
theorem rr72:Kd.rd (.dk p)=true:=rfl
theorem rr73:Kd.rd (.dt p)=true:=rfl
theorem rr74:Kd.pin .sh=false:=rfl
theorem rr75:Kd.pin (.ow p)=p:=rfl
theorem rr76:Kd.pin (.dp p)=p:=rfl
theorem rr77:Kd.pin (.dk p)=p:=rfl
theorem rr78:Kd.pin (.dt p)=p:=rfl
theorem rr79:flat .sh v=lf v:=rfl
theorem rr80:lf (.int i)=true:=rfl
theorem rr81:lf (.bool b)=true:=rfl
theorem rr82:lf (.str s)=true:=rfl
theorem rr83:lf .none=true:=rfl
theorem rr84:(bg ms Q x).xc=x:=rfl
theorem rr85:(bg ms Q x).nx (o::E)=aH (fZ ms (o::E)) λus=>Q us .sh .none:=rfl
theorem rr86:(bg ms Q x).rt (o::E) k v=aH (fZ ms (o::E)) λus=>Q us k v:=rfl
theorem rr87:fZ [] E=some []:=rfl
theorem rr88:fZ (true::ms) (some (.ow true,.list es)::E)=(fZ ms E).map (.list es::·):=rfl
theorem rr89:fZ (false::ms) (o::E)=fZ ms E:=rfl
theorem rr90:ini (true::ms) (d::ds)=some (.ow true,d)::ini ms ds:=rfl
theorem rr91:ini (false::ms) (d::ds)=some (.sh,d)::ini ms ds:=rfl
theorem rr92:ini [] []=[]:=rfl
theorem rr93:List.replicate (n+1) (none:A08)=none::List.replicate n none:=rfl
theorem rr94:List.replicate 0 (none:A08)=[]:=rfl
theorem rr95:∀{α β:Type}{f:α->β}{a:α},(some a).map f=some (f a):=rfl
theorem rr96:∀{α β:Type}{f:α->Option β}{a:α},(some a).bind f=f a:=rfl
theorem rr97:∀{α:Type}{p:α->Bool},[].all p=true:=rfl
theorem rr98:∀{α:Type}{p:α->Bool}{a:α}{l:List α},(a::l).all p=(p a&&l.all p):=rfl
theorem rr99:(true&&b)=b:=rfl
theorem rr100:(false&&b)=false:=rfl
theorem rr101:(true||b)=true:=rfl
theorem rr102:(false||b)=b:=rfl
theorem rr103:((!true)=false):=rfl
theorem rr104:((!false)=true):=rfl
theorem rr105:∀{α:Type}{l:List α},([]:List α)++l=l:=rfl
theorem rr106:∀{α:Type}{a:α}{l m:List α},(a::l)++m=a::(l++m):=rfl
theorem rr107:gA (o::E) i=match(o::E)[i]? with
  |some o=>bH o
  |none=>false:=rfl
theorem rr108:bK true P=P:=rfl
theorem rr109:bK false P=False:=rfl
theorem rr110:∀{α:Sort u}{a b:α},dS true a b=a:=rfl
theorem rr111:∀{α:Sort u}{a b:α},dS false a b=b:=rfl
theorem rr112:Lo is (.tuple ds) E Q=aH (stK is ds E) Q:=rfl
theorem rr113:stK [] [] E=some E:=rfl
theorem rr114:stK (i::is) (d::ds) (o::E)=dS (gA (o::E) i) (stK is ds ((o::E).set i (some (.sh,d)))) none:=rfl
theorem rr115:nO i []=false:=rfl
theorem rr116:nO i (j::l)=(i==j||nO i l):=rfl
theorem rr117:qv [] ks E=true:=rfl
theorem rr118:qv (i::r) ks E=((!nO i ks&&!nO i r&&jC E i)&&qv r ks E):=rfl
theorem rr119:∀{α:Type}{o:α}{E:List α},(o::E)[0]?=some o:=rfl
theorem rr120:∀{α:Type}{o:α}{E:List α}{n:Nat},(o::E)[n+1]?=E[n]?:=rfl
theorem rr121:∀{α:Type}{o a:α}{E:List α},(o::E).set 0 a=a::E:=rfl
theorem rr122:∀{α:Type}{o a:α}{E:List α}{n:Nat},(o::E).set (n+1) a=o::E.set n a:=rfl
def dv:=aI @rr0<|aI @rr1<|aI @rr2<|aI @rr3<|aI @rr4<|aI @rr5<|aI @rr6<|aI @rr7<|aI @rr8<|aI @rr9<|aI @rr10<|aI @rr11<|aI @rr12<|aI @rr13<|aI @rr14<|aI @rr15<|aI @rr16<|aI @rr17<|aI @rr18<|aI @rr19<|aI @rr20<|aI @rr21<|aI @rr22<|aI @rr23<|aI @rr24<|aI @rr25<|aI @rr26<|aI @rr27<|aI @rr28<|aI @rr29<|aI @rr30<|aI @rr31<|aI @rr32<|aI @rr33<|aI @rr34<|aI @rr35<|aI @rr36<|aI @rr37<|aI @rr38<|aI @rr39<|aI @rr40<|aI @rr41<|aI @rr42<|aI @rr43<|aI @rr44<|aI @rr45<|aI @rr46<|aI @rr47<|aI @rr48<|aI @rr49<|aI @rr50<|aI @rr51<|aI @rr52<|aI @rr53<|aI @rr54<|aI @rr55<|aI @rr56<|aI @rr57<|aI @rr58<|aI @rr59<|aI @rr60<|aI @rr61<|aI @rr62<|aI @rr63<|aI @rr64<|aI @rr65<|aI @rr66<|aI @rr67<|aI @rr68<|aI @rr69<|aI @rr70<|aI @rr71<|aI @rr72<|aI @rr73<|aI @rr74<|aI @rr75<|aI @rr76<|aI @rr77<|aI @rr78<|aI @rr79<|aI @rr80<|aI @rr81<|aI @rr82<|aI @rr83<|aI @rr84<|aI @rr85<|aI @rr86<|aI @rr87<|aI @rr88<|aI @rr89<|aI @rr90<|aI @rr91<|aI @rr92<|aI @rr93<|aI @rr94<|aI @rr95<|aI @rr96<|aI @rr97<|aI @rr98<|aI @rr99<|aI @rr100<|aI @rr101<|aI @rr102<|aI @rr103<|aI @rr104<|aI @rr105<|aI @rr106<|aI @rr107<|aI @rr108<|aI @rr109<|aI @rr112<|aI @rr113<|aI @rr114<|aI @rr115<|aI @rr116<|aI @rr117<|aI @rr118<|aI @rr119<|aI @rr120<|aI @rr121<|@rr122
def dw:
 (∀{o:A08}{E:En}{i:Nat},bN (o::E) i=match(o::E)[i]? with
  |some o=>bH o
  |none=>false) /\
 (∀{P:Prop},(True/\P)=P) /\
 (∀{P:Prop},(P/\True)=P) /\
 (∀{α:Type}{a:α},(a=a)=True) /\
 (∀{b:Bool},(b||true)=true) /\
 (∀{α:Type}{a b:α},(if True then a else b)=a) /\
 (∀{α:Type}{a b:α},(if False then a else b)=b) /\
 (∀{p:Prop} [Decidable p],(decide p=true)=p) /\
 ((true=false)=False) /\
 ((false=true)=False) /\
 (∀{b:Bool},((!b)=true)=(b=false)) /\
 (∀{p:Prop} [Decidable p],(decide p=false)=¬p) /\
 (type_of%@dh) /\
 (∀{α:Type}{p:Prop} [Decidable p]{a b:α},dS (decide p) a b=if p then a else b) /\
 (∀{p:Prop} [Decidable p]{a b:Prop},dS (decide p) a b=if p then a else b) /\
 (∀{b:Bool}{p q:Prop},dS b p q=if b=true then p else q) /\
 (∀{α:Type}{b:Bool}{p q:α},dS b p q=if b=true then p else q):=
 ⟨(by intro o E i;unfold bN bH;generalize (o::E)[i]?=z;rcases z with _|_|⟨k,d⟩<;>rfl),(by intros;simp),(by intros;simp),(by intros;simp),(by intros;simp),(by intros;simp),(by intros;simp),(by intros;simp),(by intros;simp),(by intros;simp),(by intros;simp),(by intros;simp),@dh,(by intros;rw[cF];simp only[W2]),(by intros;rw[cF];simp only[W2]),(by intros;exact cF),(by intros;exact cF)⟩
def US{x:PyData}{l:Zw}:eZ (x::l) 0=some x:=by unfold eZ oA;simp
def UN{x y:PyData}{l:Zw}:eZ (x::y::l) 1=some y:=by unfold eZ oA;simp;rw[if_pos (by lia)];rfl
def U6{n:Nat}:lO (n+1) 0=some 0:=by unfold lO;simp
def Tp{n:Nat}:lO (n+2) 1=some 1:=by unfold lO;simp;lia
theorem rr123:dW [.int a,.int b] P=P .sh (.int (a+b)):=rfl
theorem rr124:dW [.list a,.list b] P=(a.length+b.length<=sizeLine/\P (.ow false) (.list (a++b))):=rfl
theorem rr125:dW [.tuple a,.tuple b] P=((a≠[]/\a.length+b.length<=sizeLine)/\P .sh (.tuple (a++b))):=rfl
theorem rr126:lT [.int a,.int b] P=P .sh (.int (a-b)):=rfl
theorem rr127:ie [.int a,.int b] P=(kY a b/\P .sh (.int (a*b))):=rfl
theorem rr128:ie [.list a,.int k] P=((-(2^63)<=k/\k<2^63/\a.length*k.toNat<=sizeLine)/\P (.ow false) (.list (List.replicate k.toNat a).flatten)):=rfl
theorem rr129:k7 [.int a,.int b] P=(0<b/\P .sh (.int (a%b))):=rfl
theorem rr130:xr [.int a,.int b] P=(Er a b/\P .sh (.int (a/b))):=rfl
theorem rr131:A8 [.int a,.int b] P=(BB a b/\P .sh (.int (a^b.toNat))):=rfl
theorem rr132:GW [.int a,.int b] P=P .sh (.bool (decide (a<b))):=rfl
theorem rr133:UW [.int a,.int b] P=P .sh (.bool (decide (a<=b))):=rfl
theorem rr134:yC [.int a,.int b] P=P .sh (.bool (decide (b<a))):=rfl
theorem rr135:K3 [.int a,.int b] P=P .sh (.bool (decide (b<=a))):=rfl
theorem rr136:uw [.int a] P=P .sh (.int (-a)):=rfl
theorem rr137:gB [.int a,.int b] P=P .sh (.bool (decide (a=b))):=rfl
theorem rr138:gB [.str a,.str b] P=P .sh (.bool (decide (a=b))):=rfl
theorem rr139:l6 [.int a,.int b] P=P .sh (.bool !(decide (a=b))):=rfl
theorem rr140:l6 [.str a,.str b] P=P .sh (.bool !(decide (a=b))):=rfl
theorem rr141:gB [.list a,.list b] P=((dl 8 (.list a)=true/\dl 8 (.list b)=true)/\P .sh (.bool (decide (PyData.list a=.list b)))):=rfl
theorem rr142:l6 [.list a,.list b] P=((dl 8 (.list a)=true/\dl 8 (.list b)=true)/\P .sh (.bool !(decide (PyData.list a=.list b)))):=rfl
theorem rr143:br [.list xs,.int i] P=aH (atK xs i) (P .sh):=rfl
theorem rr144:br [.tuple xs,.int i] P=aH (atK xs i) (P .sh):=rfl
theorem rr145:cN [.list xs] P=P .sh (.int xs.length):=rfl
theorem rr146:cN [.tuple xs] P=P .sh (.int xs.length):=rfl
theorem rr147:jm [.list xs] P=P (.ow false) (.list xs):=rfl
theorem rr148:jm [.tuple xs] P=P (.ow false) (.list xs):=rfl
theorem rr149:kJ [.list xs] P=P .sh (.tuple xs):=rfl
theorem rr150:kJ [.tuple xs] P=P .sh (.tuple xs):=rfl
theorem rr151:uH [.int a,.int b] P=P .sh (.int (if b<a then b else a)):=rfl
theorem rr152:vz [.int a,.int b] P=P .sh (.int (if b>a then b else a)):=rfl
theorem rr153:BC [.int a] P=P .sh (.int (if a<0 then-a else a)):=rfl
theorem rr154:HW [.int a] P=P .sh (.int a):=rfl
theorem rr155:HW [.bool b] P=P .sh (.int (if b=true then 1 else 0)):=rfl
theorem rr156:iG [.int j] P=((0<=j/\j<=1000)/\P (.ow false) (.list (k8 0 j.toNat))):=rfl
theorem rr157:bW ds P=(ds.length<=sizeLine/\P (.ow false) (.list ds)):=rfl
theorem rr158:jF ds P=(ds.length<=sizeLine/\P .sh (.tuple ds)):=rfl
theorem rr159:sF false false [.list xs] P=P (.ow false) (.list (cutD xs none none)):=rfl
theorem rr160:sF true false [.list xs,.int a] P=P (.ow false) (.list (cutD xs (some a) none)):=rfl
theorem rr161:sF false true [.list xs,.int b] P=P (.ow false) (.list (cutD xs none (some b))):=rfl
theorem rr162:sF true true [.list xs,.int a,.int b] P=P (.ow false) (.list (cutD xs (some a) (some b))):=rfl
theorem rr163:sF false true [.tuple xs,.int b] P=P .sh (.tuple (cutD xs none (some b))):=rfl
theorem rr164:qh [.int j]=@ite _ (-(2^62)<=j/\j<2^62) (Classical.propDecidable _) (some (k8 0 j.toNat)) none:=rfl
theorem rr165:GK [.int i,.int j]=@ite _ (-(2^62)<=i/\i<2^62/\-(2^62)<=j/\j<2^62) (Classical.propDecidable _) (some (k8 i (j-i).toNat)) none:=rfl
theorem rr166:xJ c [d] P=aH (xZ d) λt=>P .sh (.bool (jL c t)):=rfl
theorem rr167:xZ (.int i)=some "int":=rfl
theorem rr168:xZ (.tuple i)=some "tuple":=rfl
theorem rr169:xZ (.list i)=some "list":=rfl
theorem rr170:xZ (.bool b)=some "bool":=rfl
theorem rr171:xZ .none=some "NoneType":=rfl
theorem rr172:jL "int" "int"=true:=rfl
theorem rr173:jL "int" "tuple"=false:=rfl
theorem rr174:jL "tuple" "int"=false:=rfl
theorem rr175:jL "tuple" "tuple"=true:=rfl
theorem rr176:jL "bool" "int"=false:=rfl
theorem rr177:jL "list" "list"=true:=rfl
theorem rr178:jL "int" "NoneType"=false:=rfl
theorem rr179:jL "tuple" "NoneType"=false:=rfl
theorem rr180:cV ds [d] P=(ds.length<sizeLine/\P (ds++[d]) .none):=rfl
theorem rr181:Mu ds [.list es] P=(ds.length+es.length<=sizeLine/\P (ds++es) .none):=rfl
theorem rr182:wK ds [] P=∃d,ds[ds.length-1]?=some d/\P ds.dropLast d:=rfl
theorem rr183:wK ds [.int i] P=((-(2^63)<=i/\i<2^63)/\∃n d,seqIndex? i ds.length=some n/\ds[n]?=some d/\P (ds.eraseIdx n) d):=rfl
theorem rr184:cT (.nm i) d E=b9 [i] [d] E:=rfl
theorem rr185:cT (.tp is) (.tuple ds) E=b9 is ds E:=rfl
theorem rr186:b9 [] [] E=some E:=rfl
theorem rr187:bE [] E=some E:=rfl
theorem rr188:lV.setI (o::E) i w v Q=match(o::E)[i]?,w with
  |some (some (.ow p,.list ds)),.int a=>aH (Bl ds.length a) λn=>Q ((o::E).set i (some (.ow p,.list (ds.set n v))))
  |some (some (.dk p,.dict kvs)),w=>(kG w=true/\kvs.length<16777216)/\Q ((o::E).set i (some (.dk p,.dict (putD kvs w v))))
  |some (some (.dt p,.dict (_::kvs))),.tuple ks=>(ks.all kG=true/\kvs.length<16777216)/\Q ((o::E).set i (some (.dt p,.dict ((.none,.none)::putD kvs (.tuple ks) v))))
  |_,_=>False:=rfl
theorem rr189:IF ms as (o::E) us k v Q=aH (kL ms as us (o::E)) λE2=>aH (uY ms as us E2 k v) λE3=>Q E3 k v:=rfl
theorem rr190:kL [] [] [] E=some E:=rfl
theorem rr191:kL (false::ms) (a::r) us E=kL ms r us E:=rfl
theorem rr192:kL (true::ms) (.pk i::r) (u::us) (o::E)=match(o::E)[i]? with
  |some (some (.ow p,.list _))=>dS (Cj u) (kL ms r us ((o::E).set i (some (.ow p,u)))) none
  |_=>none:=rfl
theorem rr193:Cj (.list l)=true:=rfl
theorem rr194:uY ms as us (o::E) k v=dS ((kept ms as).all (iS (o::E))||(flat k v&&us.all (flat (.ow false)))) (some (o::E)) (j9 (kept ms as) (o::E)):=rfl
theorem rr195:kept [] []=[]:=rfl
theorem rr196:kept (false::ms) (.pk i::r)=i::kept ms r:=rfl
theorem rr197:kept (false::ms) (.ev d::r)=kept ms r:=rfl
theorem rr198:kept (true::ms) (a::r)=kept ms r:=rfl
theorem rr199:uM ms as (o::E)=(shape ms as&&qv (lent ms as) (kept ms as) (o::E)):=rfl
theorem rr200:lent [] []=[]:=rfl
theorem rr201:lent (true::ms) (.pk i::r)=i::lent ms r:=rfl
theorem rr202:lent (false::ms) (a::r)=lent ms r:=rfl
theorem rr203:shape [] []=true:=rfl
theorem rr204:shape (true::ms) (.pk i::r)=shape ms r:=rfl
theorem rr205:shape (false::ms) (a::r)=shape ms r:=rfl
theorem rr206:∀{α:Type},([]:List α).length=0:=rfl
theorem rr207:∀{α:Type}{a:α}{l:List α},(a::l).length=l.length+1:=rfl
theorem rr208:sizeLine=16777216:=rfl
theorem rr209:∀{f:DE->Arg},List.map f []=[]:=rfl
theorem rr210:∀{f:DE->Arg}{a:DE}{l:List DE},List.map f (a::l)=f a::List.map f l:=rfl
theorem rr211:atK (x::l) 0=some x:=rfl
theorem rr212:atK (x::y::l) 1=some y:=rfl
theorem rr213:Bl (n+1) 0=some 0:=rfl
theorem rr214:Bl (n+2) 1=some 1:=rfl
theorem rr215:Bl (n+1+1) 1=some 1:=rfl
def UY:(∀{x:PyData}{l:Zw},eZ (x::l) 0=some x)/\(∀{x y:PyData}{l:Zw},eZ (x::y::l) 1=some y)/\(∀{n:Nat},lO (n+1) 0=some 0)/\(∀{n:Nat},lO (n+2) 1=some 1)/\(∀{n:Nat},lO (n+1+1) 1=some 1)/\(∀{P:A09},kO false [.none,.none] P=P .sh (.bool true))/\(∀{P:A09},kO true [.none,.none] P=P .sh (.bool false))/\(∀{i:Int}{P:A09},kO false [.int i,.none] P=P .sh (.bool false))/\(∀{i:Int}{P:A09},kO true [.int i,.none] P=P .sh (.bool true))/\(∀{i:Zw}{P:A09},kO false [.tuple i,.none] P=P .sh (.bool false))/\(∀{i:Zw}{P:A09},kO true [.tuple i,.none] P=P .sh (.bool true))/\(∀{d:PyData}{xs:Zw}{P:A09},iA false [d,.list xs] P=((xs.all (dl 8)=true/\dl 8 d=true)/\P .sh (.bool (decide (d∈xs)))))/\(∀{d:PyData}{xs:Zw}{P:A09},iA true [d,.list xs] P=((xs.all (dl 8)=true/\dl 8 d=true)/\P .sh (.bool !(decide (d∈xs)))))/\(∀{d:PyData}{xs:Zw}{P:A09},iA false [d,.tuple xs] P=((xs.all (dl 8)=true/\dl 8 d=true)/\P .sh (.bool (decide (d∈xs)))))/\(∀{d:PyData}{xs:Zw}{P:A09},iA true [d,.tuple xs] P=((xs.all (dl 8)=true/\dl 8 d=true)/\P .sh (.bool !(decide (d∈xs)))))/\(∀{i:Nat}{is:A03}{d:PyData}{ds:Zw}{o:A08}{E:En},b9 (i::is) (d::ds) (o::E)=if bN (o::E) i then b9 is ds ((o::E).set i (some (.sh,d)))else none)/\(∀{i:Nat}{r:A03}{o:A08}{E:En},bE (i::r) (o::E)=if bN (o::E) i then bE r ((o::E).set i none)else none)/\(∀{i:Nat},List.contains [] i=false)/\(∀{i j:Nat}{l:A03},List.contains (j::l) i=(i==j||List.contains l i))/\(∀{α:Type},(([]:List α).Nodup)=True)/\(∀{i:Nat},([i]:A03).Nodup=True)/\type_of%@vo/\type_of%@zh:=
 ⟨US,UN,U6,Tp,Tp,(by simp[kO]),(by simp[kO]),(by simp[kO]),(by simp[kO]),(by simp[kO]),(by simp[kO]),(by intro d xs P;cases d<;>rfl),(by intro d xs P;cases d<;>rfl),(by intro d xs P;cases d<;>rfl),(by intro d xs P;cases d<;>rfl),rfl,rfl,(by intros;simp),(by intros;rw[Z2]),(by intros;simp),(by intros;simp),@vo,@zh⟩
def dx:=aI @rr123<|aI @rr124<|aI @rr125<|aI @rr126<|aI @rr127<|aI @rr128<|aI @rr129<|aI @rr130<|aI @rr131<|aI @rr132<|aI @rr133<|aI @rr134<|aI @rr135<|aI @rr136<|aI @rr137<|aI @rr138<|aI @rr139<|aI @rr140<|aI @rr141<|aI @rr142<|aI @rr143<|aI @rr144<|aI @rr145<|aI @rr146<|aI @rr147<|aI @rr148<|aI @rr149<|aI @rr150<|aI @rr151<|aI @rr152<|aI @rr153<|aI @rr154<|aI @rr155<|aI @rr156<|aI @rr157<|aI @rr158<|aI @rr159<|aI @rr160<|aI @rr161<|aI @rr162<|aI @rr163<|aI @rr164<|aI @rr165<|aI @rr166<|aI @rr167<|aI @rr168<|aI @rr169<|aI @rr170<|aI @rr171<|aI @rr172<|aI @rr173<|aI @rr174<|aI @rr175<|aI @rr176<|aI @rr177<|aI @rr178<|aI @rr179<|aI @rr180<|aI @rr181<|aI @rr182<|aI @rr183<|aI @rr184<|aI @rr185<|aI @rr186<|aI @rr187<|aI @rr188<|aI @rr189<|aI @rr190<|aI @rr191<|aI @rr192<|aI @rr193<|aI @rr194<|aI @rr195<|aI @rr196<|aI @rr197<|aI @rr198<|aI @rr199<|aI @rr200<|aI @rr201<|aI @rr202<|aI @rr203<|aI @rr204<|aI @rr205<|aI @rr206<|aI @rr207<|aI @rr208<|aI @rr209<|aI @rr210<|aI @rr211<|aI @rr212<|aI @rr213<|aI @rr214<|aI @rr215<|@UY
end Dv
namespace L2
open PySem PySem.Spec PyProof.Rows
def FH{K:Zt}{mb:Zm}{CX:mZ}{k:Nat}{fa a:Addr}{sp:Sp}{s₁:Shared}{vs:Zy}{ns:A04}(KX:K.In s₁.heap)(hns:s₁.heap.Ns mainGlobals mg)(hb:s₁.heap.Ns builtinsNs mb)(hbb:∀x:Str,x≠"__name__"->mb x=bootBuiltins x)(hlim:s₁.heap.NoLimit)(hg:s₁.gens=#[])(ha:s₁.heap.get? a=some { cls:=.type "list",data:=.seq vs.toArray })(hi:IntsAre vs ns)(hl:ns.length<=sizeLine)(hr:dM k callerA)(F:∀base:Heap,K.In base->base.Ns mainGlobals mg->gM P w K mg base CX k fa fd [x] sp)(hbind:∀(s:Shared)(u:Value),BindsTo s fd ⟨[u],[]⟩ [(x,u)])(hsp:∀H:Hp,J8 H->Dv.cP K H a (ns.map V.int)->sp [.ref a] H (λv _=>v=.bl true) λ_ _ _=>False)(hCX:∀H e s',CX [] H s₁ (λ_ _ _=>False) e s'->False) : codeAny (model P w) callerA (.call (.ref fa) ⟨[.ref a],[]⟩) (λr s'=>r=.ok (.ret (.bool true))/\OldK s₁.heap s'.heap/\s'.os=s₁.os/\AllBare s'.gens) s₁:=by
 have rv:=xK hi;have zY:=hi.length
 -- from an abstract heap in which nothing but the script may be tracked
 have core:∀H:Hp,J8 H->Dv.cP K H a (ns.map V.int)->dR P w H s₁.heap->(∀b,H b≠none->b=a)->(H a≠none->K.lookup a=none)->
   codeAny (model P w) callerA (.call (.ref fa) ⟨[.ref a],[]⟩) (λr s'=>r=.ok (.ret (.bool true))/\OldK s₁.heap s'.heap/\s'.os=s₁.os/\AllBare s'.gens) s₁:=by
  intro H hO hS hok hA hK;have base_of:∀{b:Addr}{o:Obj},s₁.heap.get? b=some o->H b=none->(pR s₁.heap H).get? b=some o:=λe n=>Kl e n
  have noA:∀{b:Addr}{o:Obj}{es:Array DictEntry}{ep:Nat},s₁.heap.get? b=some o->o.data=.dict es ep->H b=none:=λ{b o es ep} e d=>by
   cases q:H b with
   |none=>rfl
   |some u=>
    have e':b=a:=hA b (by rw[q];simp)
    subst e';rw[ha]at e;cases e;have d':Data.seq vs.toArray _=Data.dict es ep:=d;cases d'
  have nsK:∀{b:Addr}{m:Zm},s₁.heap.Ns b m->(pR s₁.heap H).Ns b m:=λ{b m} ⟨o,es,ep,e,d,r⟩=>⟨o,es,ep,base_of e (noA e d),d,r⟩
  have hKb:K.In (pR s₁.heap H):=λb o e=>base_of (KX b o e) (by
   cases q:H b with
   |none=>rfl
   |some u=>
    have e':b=a:=hA b (by rw[q];simp)
    subst e';rw[hK (by rw[q];simp)]at e;cases e)
  have hM:Mod K mg (pR s₁.heap H):=⟨hKb,nsK hns,⟨mb,nsK hb,hbb⟩,let⟨mc,h1,h2⟩:=hlim;⟨mc,nsK h1,h2⟩⟩
  have e0:DY P w K mg (pR s₁.heap H) callerA [] s₁ H:=⟨rfl,hM,λb o e=>NP e,Xx (HX _ _),trivial,λb hb=>absurd (show b∈([]:Zz)from hb) (by simp),hok,.of_eq hg⟩
  refine Wm ((F _ hKb (nsK hns)).run callerA [] s₁ H ⟨[.ref a],[]⟩ [.ref a] [.ref a] _ _ hr e0 (hbind s₁ (.ref a)) (.cons rfl .nil) (hsp H hO hS)) λr s' h=>?_
  cases r with
  |error e=>exact(hCX H e s' h).elim
  |ok fl=>
   cases fl with
   |next=>exact False.elim h
   |brk=>exact False.elim h
   |cont=>exact False.elim h
   |ret u=>
    obtain⟨v,H',os,bare,un,hok',r',q⟩:=h;have q':v=.bl true:=q;subst q';obtain rfl:u=Value.bool true:=r';refine⟨rfl,OldK.of_keep λb o e=>?_,os,bare⟩
    cases q:H b with
    |none=>exact un.keep b o e q (by intro z;exact absurd (show b∈([]:Zz)from z) (by simp)) (by simp)
    |some u=>
     rcases hO b with z|⟨ob,xs,z⟩
     .rw[q]at z;cases z
     .have z2:=un.jH b ob _ z;obtain⟨e1,_⟩:=hok b _ z;obtain⟨e2,_⟩:=hok' b _ z2;rw[e]at e1;cases e1;exact e2
 cases hk:K.lookup a with
 |some o=>
  -- the script is one of the module's own objects
  have e:=KX a o hk;rw[ha]at e;cases e;refine core (λ_=>none) (λ_=>.inl rfl) (.inr ⟨vs,_,hk,by rw[zY];exact hl,rv⟩) (λb u z=>by have z':(none:Option HO)=some u:=z;cases z') (λb z=>absurd rfl z) λz=>absurd rfl z
 |none=>
  refine core (λb=>if b=a then some (.gj { cls:=.type "list",data:=.seq vs.toArray } (.lst (ns.map V.int)))else none) (λb=>?_) (.inl (.inr ⟨{ cls:=.type "list",data:=.seq vs.toArray },if_pos rfl⟩)) (λb u z=>?_) (λb z=>?_) λ_=>hk
  .by_cases hb:b=a
   .exact .inr ⟨_,_,if_pos hb⟩
   .exact .inl (if_neg hb)
  .by_cases hb:b=a
   .have z':=(if_pos hb).symm.trans z;cases z';subst hb;exact⟨ha,by rw[V4];exact hl,vs,_,rv,ha⟩
   .have z':=(if_neg hb).symm.trans z;cases z'
  .by_cases hb:b=a
   .exact hb
   .exact absurd (if_neg hb) z
def Qy{l:PySem.W.OpenLaw}{n k:Nat}{YP:World->Heap->Prop}{d:DefRec}{K:Params->Zt}{CX:World->mZ}{sp:World->Sp}(hn:l.most=some n)(hn2:n<=sizeLine)(hdf:d.params.defaults=[])(hr:dM k callerA)(hY:∀(w:World)(h:Heap),YP w h->(K w.params).In h)(F:∀(w:World)(mg:Zm)(fa:Addr)(h:Heap),(K w.params).In h->h.Ns mainGlobals mg->mg d.name=some (.ref fa)-> ∃fd:FuncData,(∀(s:Shared)(u:Value),BindsTo s fd ⟨[u],[]⟩ [(x,u)]) /\ ∀base:Heap,(K w.params).In base->base.Ns mainGlobals mg->gM l.prog w (K w.params) mg base (CX w) k fa fd [x] (sp w))(hsp:∀(w:World)(H:Hp)(a:Addr)(ns:A04),ns.length<=n->J8 H->Dv.cP (K w.params) H a (ns.map V.int)->sp w [.ref a] H (λv _=>v=.bl true) λ_ _ _=>False)(hCX:∀(w:World)(H:Hp)(s:Shared)(e:Value)(s':Shared),CX w [] H s (λ_ _ _=>False) e s'->False) : PySem.W.WalkO q loose XP YP l.row.toRowW d [] (λf vs=>PySem.call f vs):=by refine TN.BG hn hdf λw s₀ s₁ mg mb fa o pm cd doc a vs ns G AAB ho hd hcd hmg hobj hints hlen hg=>?_;have KX:=hY w _ AAB;obtain⟨fd,hb,hF⟩:=F w mg fa _ KX G.T.g hmg;exact FH KX G.T.g G.T.b G.T.builtins G.T.nolimit hg hobj hints (VS hlen hn2) hr hF hb (λH hO hS=>hsp w H a ns hlen hO hS) λH e s'=>hCX w H s₁ e s'
end L2
namespace Dv
open PySem L2 PySem.W
inductive Dp(K:Frag)(vs:List V)(H:Hp)(Q:VK):Prop
 |mk:∀(a:Addr)(ns:A04),(vs=[.ref a])->(cP K H a (ns.map V.int))->(ns.length<=63)->(∀H',Q (.bl true) H')->Dp K vs H Q
def Gz(K:Frag):Sp:=λvs H Q _E3=>Dp K vs H Q
def wM:bF:=λds Q x=>∃ns:A04,ds=[.list (ns.map .int)]/\ns.length<=63/\Q [] .sh (.bool true)
def Mz(h:Gz K vs H Q E):cC mg K [false] wM vs H Q E:=by
 obtain⟨a,ns,rfl,r,hl,q⟩:=h;refine⟨[.list (ns.map .int)],[],H,λ_ _ r=>r=.bool true,xF,aj.refl _,.sh (.lst r (mz ns)) .nil,⟨ns,rfl,hl,rfl⟩,λus k r u H' Hm' fp e _ _ _ _ _ o _=>?_,λ_ _ _ _ _ _ z=>z.elim⟩;cases e;cases o with
 |sh h=>cases h;exact q H'
def Gy{l:OpenLaw}{YP:World->Heap->Prop}{d:DefRec}{K:Params->Frag}{k:Nat}(hn:l.most=some 63)(hdf:d.params.defaults=[])(hr:dM k callerA)(hY:∀(w:World)(h:Heap),YP w h->(K w.params).In h)(F:∀(w:World)(mg:Zm)(fa:Addr)(h:Heap),(K w.params).In h->h.Ns mainGlobals mg->mg d.name=some (.ref fa)-> ∃fd:FuncData,(∀(s:Shared)(u:Value),BindsTo s fd ⟨[u],[]⟩ [("script",u)])/\∀base:Heap,(K w.params).In base->base.Ns mainGlobals mg->gM l.prog w (K w.params) mg base (fO l.prog w) k fa fd ["script"] (cC mg (K w.params) [false] wM)) : WalkO q loose XP YP l.row.toRowW d [] (λf vs=>PySem.call f vs):=
 L2.Qy (n:=63) (k:=k) (x:="script") (CX:=λw=>fO l.prog w) (sp:=λw=>Gz (K w.params)) hn (by decide) hdf hr hY (λw mg fa h h1 h2 h3=>by
  obtain⟨fd,hb,hF⟩:=F w mg fa h h1 h2 h3;exact⟨fd,hb,λbase g1 g2=>(hF base g1 g2).imp λvs H Q E z=>Mz z⟩) (λ_ _ a ns hl _ hS=>⟨a,ns,rfl,hS,hl,λ_=>rfl⟩) λw H s e s' z=>by
  obtain⟨_,_,_,_,_,_,_,_,_,_,_,_,_,_,z⟩:=z;exact z.elim
end Dv
namespace TS
open PySem PyProof.Rows
section
variable{prog:Program}{w:World}{A:Around}{E:Zk}{s:Shared}{kd:SortKind}{P:Value->Prop}{xs0:Array Keyed}
def QG{st:SortSt}(L:wI prog w A s kd P)(G:Good P xs0)(B:SB kd xs0 st)(p0:pendingOf st=#[])(h2:2<=xs0.size)(h64:xs0.size<64)(h:∀st',SB kd xs0 st'->Q () st'):wpS (model prog w) A E s sortRuns' Q st:=by
 rw[sortRuns'_eq];refine VG (wpS_get ?_);dsimp only;have hmr:minRun' xs0.size xs0.size 0=xs0.size:=by
  obtain⟨f,hf⟩:∃f,xs0.size=f+1:=⟨xs0.size-1,by lia⟩;have:minRun' (f+1) xs0.size 0=xs0.size:=by rw[minRun'_succ,if_pos h64];rfl
  rwa[<-hf]at this
 simp only[B.size,hmr];refine VG (Wf (Wg
  (I:=λx c st'=>(x=0/\c=(none,0)/\SB kd xs0 st'/\pendingOf st'=#[])\/(1<=x/\c=(none,xs0.size)/\SB kd xs0 st'/\(pendingOf st').size=1))
  (Q:=λc st'=>c=(none,xs0.size)/\SB kd xs0 st'/\(pendingOf st').size=1) ?step ?fin (.inl ⟨rfl,rfl,B,p0⟩)) ?post)
 case fin=>
  rintro c st' (⟨hx,_,_⟩|⟨_,hc,hD⟩)
  .lia
  .exact⟨hc,hD⟩
 case step=>
  rintro x c st' _ hx (⟨rfl,rfl,B1,p1⟩|⟨hx1,rfl,hD⟩)
  .dsimp only;rw[if_neg (by lia)]
   simp only[Yr,Nat.min_self,Xu];refine VG (Ju L G B1 (by lia) (by lia) λm st2 B2 p2 m1 m2=>?_)
   dsimp only;have push:∀st3:SortSt,SB kd xs0 st3->pendingOf st3=#[]->SB kd xs0 (setPending st3 ((pendingOf st3).push (0,xs0.size,0)))/\(pendingOf (setPending st3 ((pendingOf st3).push (0,xs0.size,0)))).size=1:=λst3 B3 p3=>
    ⟨⟨B3.perm,B3.kind,B3.ok⟩,by show((pendingOf st3).push _).size=1;rw[p3];rfl⟩
   by_cases hlt:m<xs0.size
   .rw[if_pos hlt];refine VG (wpS_lift (Wy ⟨rfl,?_⟩));refine VG (QA L G B2 (by lia) λst3 B3 p3=>?_)
    simp only[Yi,Ws,WZ];refine VG (wpS_get ?_);have p4:pendingOf st3=#[]:=p3.trans (p2.trans p1);have hb:(pendingOf st3).back?=none:=by rw[p4];rfl
    rw[hb];dsimp only;exact VG (wpS_modify (VU (.inr ⟨by lia,rfl,push st3 B3 p4⟩)))
   .rw[if_neg hlt];have hm:m=xs0.size:=by lia
    subst hm;refine VG (wpS_get ?_);have p4:pendingOf st2=#[]:=p2.trans p1;have hb:(pendingOf st2).back?=none:=by rw[p4];rfl
    rw[hb];dsimp only;exact VG (wpS_modify (VU (.inr ⟨by lia,rfl,push st2 B2 p4⟩)))
  .dsimp only;rw[if_pos (V3 _)];exact VU ⟨rfl,hD⟩
 case post=>
  rintro c st'⟨rfl,B1,p1⟩;dsimp only;refine VG (Wf (Wg (I:=λ_ c st''=>st''=st'/\c=(none,())) (Q:=λc st''=>st''=st'/\c=(none,())) ?_ (λ_ _ hh=>hh) ⟨rfl,rfl⟩) ?_)
  .rintro x c st'' _ _⟨rfl,rfl⟩;refine VG (wpS_get ?_);rw[if_pos (by rw[p1];exact V3 1)]
   exact VU ⟨rfl,rfl⟩
  .rintro c st''⟨rfl,rfl⟩;exact VU (h _ B1)
end
section
variable{prog:Program}{w:World}{A:Around}{E:Zk}{s:Shared}
def AR{a:Addr}{n:Nat}(ho:s.heap.get? a=some (seqObj "list" vs.toArray n))(hv:∀v∈vs,IsPair s.heap v)(few:vs.length<=63)(h:∀us:Zv,us.toList.Perm vs->R (.done (.ret .none)) { s with heap:=sortedHeap s.heap a vs us }):wpAny (model prog w) A (Builtin.«list.sort» ⟨[.ref a],[]⟩) R E s:=by
 have line:(1000:Nat)<=sizeLine:=by decide
 have az:a<s.heap.objs.size:=VA ho;rw[list_sort_plain (a:Addr)];refine V0 (Yp ho rfl (?_:_));refine V0 (listUpdate_at ho rfl (?_:_) (by simp;lia) (by simp));obtain⟨ep,g1⟩:∃ep,(s.heap.update a (Obj.mapSeq λ_=>#[])).get? a=some (seqObj "list" #[] ep):=⟨_,get?_update_seq ho λ_=>#[]⟩;refine V0 (seqEpoch_at g1 rfl (?_:_));refine V0 (wpAny_newTuple (?_:_) (by simp;lia));refine V0 (Yo (?_:_));refine Vo (?_:_);have g6:(((s.heap.update a (Obj.mapSeq λ_=>#[])).push (seqObj "tuple" vs.toArray 0)).push (seqObj "list" #[] 0)).get? a=some (seqObj "list" #[] ep):=VM _ (VM _ g1);have keep:∀b o,b≠a->s.heap.get? b=some o->(((s.heap.update a (Obj.mapSeq λ_=>#[])).push (seqObj "tuple" vs.toArray 0)).push (seqObj "list" #[] 0)).get? b=some o:=λb o hb e=>VM _ (VM _ ((WD _ _ (Ne.symm hb)).trans e));have hv6:∀v∈vs,IsPair (((s.heap.update a (Obj.mapSeq λ_=>#[])).push (seqObj "tuple" vs.toArray 0)).push (seqObj "list" #[] 0)) v:=λv m=>(hv v m).keep ho rfl keep;refine id (?_:wpAny (model prog w) A _ R E { s with heap:=((s.heap.update a (Obj.mapSeq λ_=>#[])).push (seqObj "tuple" vs.toArray 0)).push (seqObj "list" #[] 0) });dsimp only;have psz:(vs.toArray.zip vs.toArray).size=vs.length:=by simp
 have out:∀zs:Array Keyed,zs.Perm (vs.toArray.zip vs.toArray)->(zs.map (·.2)).toList.Perm vs:=λzs p=>by
  have p2:=(Array.perm_iff_toList_perm.mp p).map (·.2);rw[Array.toList_map];refine p2.trans ?_;have:((vs.toArray.zip vs.toArray).toList.map (·.2))=vs:=by rw[Array.toList_zip];simp[List.map_snd_zip]
  rw[this]
 by_cases h2:vs.toArray.size<2;{rw[if_pos h2,if_pos h2];refine V0 (V2 (?_:_));rw[StateT.run_pure];refine V0 (V2 (?_:_));dsimp only;refine V0 (seqEpoch_at g6 rfl (?_:_));have o1:=out (vs.toArray.zip vs.toArray) (Array.Perm.refl _);have l1:=o1.length_eq;rw[W0]at l1;refine V0 (listUpdate_at g6 rfl (?_:_) (by simp) (VS (Xx l1) (by lia)));simp only[bne_self_eq_false,Ws,WZ];refine V2 (?_:_);exact h _ o1};rw[if_neg h2,if_neg h2];have ne:vs≠[]:=λz=>h2 (by rw[z];decide);refine V0 (DZ (s:={ s with heap:=((s.heap.update a (Obj.mapSeq λ_=>#[])).push (seqObj "tuple" vs.toArray 0)).push (seqObj "list" #[] 0) }) ne hv6 (?_:_));refine V0 (Vh (QG (kd:=tuples' true) (P:=IsPair (((s.heap.update a (Obj.mapSeq λ_=>#[])).push (seqObj "tuple" vs.toArray 0)).push (seqObj "list" #[] 0))) (xs0:=vs.toArray.zip vs.toArray) (s:={ s with heap:=((s.heap.update a (Obj.mapSeq λ_=>#[])).push (seqObj "tuple" vs.toArray 0)).push (seqObj "list" #[] 0) }) (Q:=λ_ st'=>SB (tuples' true) (vs.toArray.zip vs.toArray) st') Fd (λk p hp=>?_) ⟨Array.Perm.refl _,rfl,rfl⟩ rfl (by rw[psz];rw[VO]at h2;lia) (by rw[psz];lia) λst' B=>B) ?_ λ_ _ e=>e);{have m:p∈(vs.toArray.zip vs.toArray).toList:=VZ (by rw[Vp];exact hp);rw[Array.toList_zip]at m;exact hv6 _ (YU m).1};rintro⟨⟨⟩,st'⟩s'⟨rfl,B⟩;dsimp only;refine V0 (seqEpoch_at g6 rfl (?_:_));have o1:=out _ B.perm;have l1:=o1.length_eq;rw[W0]at l1;refine V0 (listUpdate_at g6 rfl (?_:_) (by simp) (VS (Xx l1) (by lia)));rw[B.ok];simp only[bne_self_eq_false,Ws,WZ];refine V2 (?_:_);exact h _ o1
end
end TS
namespace L2
open PySem PySem.Spec PyProof.Rows
section
variable{X:Cx}
inductive AL(K:Zt)(xs:List V)(H:Hp)(Q:VK):Prop
 |mk:∀(a:Addr)(ys:List V),(xs=[.ref a])->(cz K H a ys)->((∀y∈ys,∃(b:Addr) (i j:Int),y=.ref b/\cG K H b [.int i,.int j]))->(ys.length<=63)->(∀(zs:List V)(p:Addr),zs.Perm ys->H p=none->Q (.ref p) (upd H p (.lst zs)))->AL K xs H Q
def Dy(K:Zt):List V->Hp->VK->Prop:=λxs H Q=>AL K xs H Q
def yR:cu X (.builtin "sorted") (Dy X.K):=by
 intro pins s U H xs us Q I r h;obtain⟨a,ys,rfl,hq,tu,few,q⟩:=h;obtain⟨u,rfl,ru⟩:=r.one;cases ru;obtain⟨its,rv,p,_⟩:=I.list hq;have hlen:its.length=ys.length:=rv.length.symm;have hv:∀v∈its,TS.IsPair s.heap v:=λv m=>by
  obtain⟨i,hi⟩:=We m;have go:∀{ys:List V}{its:Zy},Vals ys its->∀(i:Nat)(u:Value),its[i]?=some u->∃x,ys[i]?=some x/\RelV x u:=λ{ys its} r=>by
   induction r with
   |nil=>exact λi u h=>(nomatch h)
   |cons h _ ih=>
    intro i u e;cases i with
    |zero=>cases e;exact⟨_,rfl,h⟩
    |succ i=>exact ih i u e
  obtain⟨x,hx,rx⟩:=go rv i v hi;obtain⟨b,i1,j1,rfl,sb⟩:=tu x (VZ hx);cases rx;obtain⟨its2,r2,⟨o2,e2,c2,n2,d2⟩,_⟩:=I.tuple sb;cases r2 with
  |cons ra r3=>
   cases r3 with
   |cons rb r4=>cases r4;obtain⟨t,rfl⟩:=ra;obtain⟨u,rfl⟩:=rb;exact⟨b,o2,i1,j1,t,u,n2,rfl,e2,c2,d2⟩
 have line:(1000:Nat)<=sizeLine:=by decide
 refine Calls.call_function_entry kind_sorted plain_sorted entry_sorted (args_sorted1 _) (?_:_);unfold Builtin.«sorted»;refine V0 (m:=checkCount "sorted" 1 1 _) (V2 (?_:_));refine V0 (collect_list p.isList (?_:_) (by lia));refine V0 (Yo (?_:_) (by lia));have sz:((s.heap.push (seqObj "list" #[] 0)).update s.heap.objs.size (Obj.mapSeq (·++its.toArray))).objs.size=s.heap.objs.size+1:=by rw[Heap.size_update];exact size_push' _ _
 have g0:(((s.heap.push (seqObj "list" #[] 0)).update s.heap.objs.size (Obj.mapSeq (·++its.toArray))).push (seqObj "list" its.toArray 0)).get? (s.heap.objs.size+1)=some (seqObj "list" its.toArray 0):=by rw[<-sz];exact Vj _ rfl
 have old:∀b o,s.heap.get? b=some o->(((s.heap.push (seqObj "list" #[] 0)).update s.heap.objs.size (Obj.mapSeq (·++its.toArray))).push (seqObj "list" its.toArray 0)).get? b=some o:=λb o e=>VM _ ((WD _ _ (X3 (VA e))).trans (VM _ e));refine id (?_:wpAny _ _ _ _ _ { s with heap:=((s.heap.push (seqObj "list" #[] 0)).update s.heap.objs.size (Obj.mapSeq (·++its.toArray))).push (seqObj "list" its.toArray 0) });rw[sz];have hv2:∀v∈its,TS.IsPair (((s.heap.push (seqObj "list" #[] 0)).update s.heap.objs.size (Obj.mapSeq (·++its.toArray))).push (seqObj "list" its.toArray 0)) v:=λv m=>by obtain⟨b,o,i,j,t,u,n,e,ho,r⟩:=hv v m;exact⟨b,o,i,j,t,u,n,e,old b o ho,r⟩
 refine V0 (Vo (X5 slot_list_sort ⟨_,g0,rfl⟩ entry_list_sort (TS.AR g0 hv2 (by lia) λout pm=>⟨_,rfl,(?_:_)⟩) (args_list_sort _)));obtain⟨n,hn⟩:=sortedHeap_at (vs:=its) (out:=out) g0;obtain⟨zs,pz,rz⟩:=GV pm rv;have new:s.heap.get? (s.heap.objs.size+1)=none:=Y4 (Y9 _);have I2:=I.y9 (a:=s.heap.objs.size+1) (o:=.lst zs) (t':=s.toks) (h':=sortedHeap (((s.heap.push (seqObj "list" #[] 0)).update s.heap.objs.size (Obj.mapSeq (·++its.toArray))).push (seqObj "list" its.toArray 0)) (s.heap.objs.size+1) its out) (λb o hb=>by
   have lt:=VA hb;rw[sortedHeap_old (VC (WM lt)) (by rw[size_push',sz];exact WM (WM lt))]
   exact old b o hb) new
  ⟨by rw[pz.length_eq];lia,out.toList,n,rz,by simpa using hn⟩
 exact V2 ⟨_,rfl,.ref (s.heap.objs.size+1),_,I2,rfl,q zs _ pz (I.iZ new)⟩
end
end L2
namespace Dv
open PySem L2 PySem.W
def vI:DR:=λds P=>∃ps:Zs,ds=[.list (ps.map pD)]/\ps.length<=63/\∀qs:Zs,qs.Perm ps->P (.ow false) (.list (qs.map pD))
def J0:∀{zs ys:List V},zs.Perm ys->∀{ps:Zs},aC K H ys (ps.map pD)->∃qs:Zs,qs.Perm ps/\aC K H zs (qs.map pD):=by
 intro zs ys h;induction h with
 |nil=>intro ps r;exact⟨ps,.refl _,r⟩
 |cons x _ ih=>
  intro ps r;cases ps with
  |nil=>cases r
  |cons p ps=>
   cases r with
   |cons h t=>obtain⟨qs,pq,r'⟩:=ih t;exact⟨p::qs,pq.cons _,.cons h r'⟩
 |swap x y l=>
  intro ps r
  match ps,r with
  |p::p2::ps,.cons h (.cons h2 t)=>exact⟨p2::p::ps,List.Perm.swap _ _ _,.cons h2 (.cons h t)⟩
 |trans _ _ ih1 ih2=>intro ps r;obtain⟨q1,p1,r1⟩:=ih2 r;obtain⟨q2,p2,r2⟩:=ih1 r1;exact⟨q2,p2.trans p1,r2⟩
def GG:c7 K vI (Dy K):=by
 rintro H Hm vs ds P Q s r⟨ps,rfl,hn,h⟩q;obtain⟨x,rfl,h1⟩:=ee r;obtain⟨a,xs,rfl,ha,r1⟩:=gU h1;have l1:xs.length=ps.length:=by rw[r1.len,V4]
 refine⟨a,xs,rfl,(cP.mono s ha).sq,λy hy=>?_,by rw[l1];exact hn,λzs p pm hp=>?_⟩
 .obtain⟨i,hi⟩:=We hy;obtain⟨d,e,r'⟩:=r1.KA hi;rw[VQ]at e;obtain⟨p,_,rfl⟩:=Wd.mp e;cases r' with
  |tup b r2=>obtain⟨x,y,rfl,h2,h3⟩:=jG r2;cases h2;cases h3;exact⟨_,_,_,rfl,cG.of (s _ _ b)⟩
 obtain⟨qs,pq,r'⟩:=J0 pm r1;exact bP.nl q s (h qs pq) hp r'
section
variable{X:Cx}{Ex:XK}{Y:A03}{a:Expr}{p pos:Pos}{as:List Arg}
def Pa(hm:X.mg "sorted"=none)(S:aV X Ex Y [a] as)(hg:Gl X "sorted":=by rfl)(ns:noStar a=true:=by rfl):SE X Ex Y (.Call (.Name "sorted" p) [a] [] pos) (ah vI as):=f7 yR GG hg hm ZQ (by decide) (by decide) (by rw[VP,ns];rfl) S
end
end Dv
namespace Dv
open PySem L2 PySem.W PyProof.Rows
def yN{M:Model}{A:Around}{E:Zk}{s:Shared}{a b:Value}{T id:String}{Q:Zk}(ha:s.TypeIs a T)(hb:s.TypeIs b T)(hl:typeLookup (.type T) (dunderI "add")=pure (some (.builtin id)))(hi:isSeqSlotId id=true)(hfill:fillsNumberSlot (.type T) "add"=pure false)(hc:wpAny M A (call (.builtin id) [a,b]) Q E s):wpAny M A (inplaceOp .Add a b) Q E s:=by
 unfold inplaceOp;refine Vo ?_;have hfi:fillsInplaceSlot (.type T) "add" (Operator.Add == .Add)=pure false:=by unfold fillsInplaceSlot;show(typeLookup (.type T) (dunderI "add")>>=λfi=>pure (fi.isSome&&!isSeqSlot fi))=pure false;rw[hl];show(pure ((some (Value.builtin id)).isSome&&!isSeqSlotId id):Sem Bool)=pure false;rw[hi];rfl
 have hsi:seqSlot? (.type T) (dunderI "add")=pure (some (.builtin id)):=PySem.seqSlot_of hl hi;refine V0 (XO ha (V0 (YG hfi ?_)));show wpAny M A (if false=true then _ else _) Q E s;rw[if_neg VY];refine V0 (binaryOp1_none (nm:="add") ha hb hfill ?_);refine V0 (YG hsi ?_);exact V0 (Wy hc)
def U1(K:Frag):Hg:=λx y H Q=>∃l b xs zs,x=.ref l/\y=.ref b/\H l=some (.lst xs)/\cP K H b zs/\xs.length+zs.length<=sizeLine/\Q (.ref l) (upd H l (.lst (xs++zs)))
section
variable{X:Cx}{Ex:XK}
def My:HZ X .Add (U1 X.K):=by
 intro pins s U H x y v u Q I rx ry h;obtain⟨l,b,xs,zs,rfl,rfl,hH,hB,hz,q⟩:=h;cases rx;cases ry;obtain⟨z,its,n,r,hl,e⟩:=I.EU hH;obtain⟨z2,its2,n2,r2,e2⟩:=hB.get I;have hl2:=r2.length;have hsz:its.toArray.size+its2.toArray.size<=sizeLine:=by rw[VO,VO];lia
 have hlong:¬(!its.toArray.isEmpty&&Builtin.List.listTooLong (its.toArray.size+its2.toArray.size))=true:=by rw[By hsz,Bool.and_false];exact VY
 refine yN (T:="list") ⟨_,e,rfl⟩ ⟨_,e2,rfl⟩ F.slot_list_iadd.lookup (by decide+kernel) noFill_list_add ?_;refine Xp F.slot_list_iadd ⟨_,e,rfl⟩ F.entry_list_iadd (F.args_list_iadd_2 _ _)
  (AutoSeq1.list___iadd___list_list_0 l its.toArray n b its2.toArray n2 hlong (by rw[VO];lia) (by lia)) ⟨e,e2,?_⟩
 refine⟨.ref l,_,I.E8 (its':=its++its2) hH e (by simp) (r.append r2) ?_,rfl,q⟩;rw[VD];lia
def Su{i:Nat}(hN:X.N.Nodup)(hi:X.N[i]?=some x)(hl:Loc X.env.scope x)(hf:X.fn x=true\/X.env.scope.names.lookup x=some .local)(h:SE X Ex (aM X) e d):S1 X Ex (.AugAssign (.Name x pos') .Add e pos) (Be sizeLine i d):=by
 intro g D' E U H Hm F D hx R p nx rt;obtain⟨hh,p⟩:=p;have hh':here E i=true:=by unfold jC at hh;unfold here;split at hh;{rename_i q;rw[q]};cases hh
 obtain⟨v0,hv0⟩:=kq R hh';refine WS.of (HA hN hi hl bB My hf) ⟨v0,fJ (fE (bq hi)) hv0,h g D'.xc E U H Hm F _ _ hx R p λE' k v u H' Hm' F' fp p' R' s' T=>?_⟩;obtain⟨fz,pp,ds,es,e1,rfl,hlen,p'⟩:=p';obtain⟨Hm2,up,R2,rp⟩:=T.gj R' fz;obtain⟨b,zs,rfl,hb,rz⟩:=gU rp;obtain⟨v1,h1,h2⟩:=R2.slot i _ _ e1;rw[hv0]at h1;cases h1;generalize hfi:F' i=fi at h2;cases h2 with
 |@ow _ a xs _ ha rx=>
  obtain⟨a',xs',g1,g2,g3,g4,R3⟩:=R2.chg (es:=ds++es) e1 (rx.app rz);rw[hv0]at g1;cases g1;rw[ha]at g2;cases g2;refine⟨a,b,xs,zs,rfl,rfl,ha,cP.mono R2.sub hb,by rw[rx.len,rz.len];exact hlen,?_⟩;show D.nx ((sel (aM X) U).set i (some (.ref a))) _;have hsel:(sel (aM X) U).set i (some (.ref a))=sel (aM X) U:=by refine Wl λj=>?_;rw[Xh];by_cases c:i=j;{subst c;have:=fJ (fE (bq hi)) hv0;rw[if_pos rfl,this,if_pos];rcases Vt i (sel (aM X) U).length with z|z;{exact z};rw[Vr z]at this;cases this};rw[if_neg c]
  rw[hsel];exact nx _ _ _ _ _ p' R3 (s'.trans up)
def Uq(i:Nat)(hN:X.N.Nodup)(h:SE X Ex (aM X) e d)(hi:X.N[i]?=some x:=by rfl)(hl:Loc X.env.scope x:=by first|exact Or.inl rfl|exact Or.inr rfl)(hf:X.fn x=true\/X.env.scope.names.lookup x=some .local:=by first|exact Or.inl rfl|exact Or.inr rfl):S1 X Ex (.AugAssign (.Name x pos') .Add e pos) (Be sizeLine i d):=Su hN hi hl hf h
end
end Dv
namespace Dv
open PySem L2 PySem.W
def prs{α:Type}:List α->Option (List (α×α))
 |[]=>some []
 |k::v::r=>(prs r).map ((k,v)::·)
 |[_]=>none
def Rv(kvs:Zi):Zi:=kvs.foldl (λacc kv=>putD acc kv.1 kv.2) []
def jZ:DR:=λds P=>∃kvs,prs ds=some kvs/\(kvs.all λkv=>kG kv.1)=true/\kvs.length<=15/\P (.dk false) (.dict (Rv kvs))
section
variable{K:Frag}{g:Gh}{E:En}{U:St}{H H' Hm Hm':Hp}{F:Nat->Zz}
def Rl.Sn(R:Rl K g E U H Hm F){p:Addr}(A:pH g F H Hm [p]):Rl K g E U (upd H p o) Hm F where
 len:=R.len
 sub:=λb u e=>by
  have:b≠p:=λz=>by rw[z,A.off p V1]at e;cases e
  rw[aA this];exact R.sub _ _ e
 slot:=λi k d e=>by
  obtain⟨v,h1,h2⟩:=R.slot i k d e;exact⟨v,h1,h2.step (aj.refl _) λa ha=>aA λz=>A.aW p V1 i (z▸ha)⟩
 off:=R.off
 bI:=λi a ha=>by
  obtain⟨u,hu,n⟩:=R.bI i a ha;have ne:a≠p:=λz=>A.aW p V1 i (z▸ha)
  exact⟨u,by rw[aA ne];exact hu,n⟩
 aW:=R.aW
 fr:=λq o hq ho=>by
  have:q≠p:=λz=>by rw[z,A.new p V1]at ho;cases ho
  rw[aA this];exact R.fr q o hq ho
 new:=R.new
 pin:=R.pin
 old:=R.old
theorem xH:∀{vs:List V}{ds:Zw}{kvd:Zi},aC K H vs ds->prs ds=some kvd->(kvd.all λkv=>kG kv.1)=true->∃kvs:List (Key×V),prs vs=some (kvs.map λkv=>(kV kv.1,kv.2))/\d7 K H kvs kvd
 |_,_,kvd,.nil,e,_=>by cases e;exact⟨[],rfl,.nil⟩
 |_,_,kvd,.cons h .nil,e,_=>by cases e
 |_,_,kvd,.cons (d:=d1) h1 (.cons (d:=d2) h2 r),e,hk=>by simp only[prs]at e;obtain⟨rest,e1,rfl⟩:=Wd.mp e;rw[VP,V9]at hk;obtain⟨k,rfl⟩:=om hk.1;obtain⟨kvs,e2,q⟩:=xH r e1 hk.2;rw[q9 h1];exact⟨(k,_)::kvs,by simp only[prs,e2];rfl,.cons h2 q⟩
theorem d7.length:∀{kvs:List (Key×V)}{ds:Zi},d7 K H kvs ds->kvs.length=ds.length
 |_,_,.nil=>rfl
 |_,_,.cons _ r=>congrArg (·+1) r.length
theorem vp:∀(kvs:List (Key×V)){kvd:Zi}{acc:List (Key×V)}{accd:Zi},d7 K H kvs kvd->d7 K H acc accd->d7 K H (lQ acc kvs) (kvd.foldl (λacc kv=>putD acc kv.1 kv.2) accd)
 |[],kvd,_,_,r,h=>by cases r;exact h
 | (k,v)::kvs,kvd,_,_,r,h=>by
  cases r with
  |cons r t=>have:=vp kvs t (h.put k r);exact this
end
section
variable{X:Cx}{Ex:XK}{Y:A03}
def WE.mono(h:WE X e U H Q)(q:∀v H,Q v H->Q' v H):WE X e U H Q':=λpins s I=>aT (h pins s I) λu s1 ⟨x,H1,I1,rx,q1⟩=>⟨x,H1,I1,rx,q _ _ q1⟩
theorem wQ:∀{qs:List (Expr×Expr)}{H:Hp}{Q Q':List (V×V)->Hp->Prop},oG (qs.map λq=>(WE X q.1,WE X q.2)) U H Q->(∀ps H,Q ps H->Q' ps H)->oG (qs.map λq=>(WE X q.1,WE X q.2)) U H Q'
 |[],_,_,_,h,q=>q _ _ h
 |_::qs,_,_,_,h,q=>WE.mono h λ_ _ h1=>WE.mono h1 λ_ _ h2=>wQ (qs:=qs) h2 λ_ _ h3=>q _ _ h3
theorem Gf:∀{ks vs:A01}{pos:Pos},ks.length=vs.length->FO X pos (ks.map some) vs ((ks.zip vs).map λq=>(WE X q.1,WE X q.2))
 |[],[],_,_=>NO
 |k::ks,v::vs,_,h=>IW bB bB (Gf (by simpa using h))
theorem zT:∀{ks vs es:A01}{H:Hp}{Q:List V->Hp->Prop},ks.length=vs.length->prs es=some (ks.zip vs)->vN X es U H Q->oG ((ks.zip vs).map λq=>(WE X q.1,WE X q.2)) U H λps H1=>∃us,prs us=some ps/\Q us H1
 |[],[],es,H,Q,_,e,h=>by
  match es,e with
  |[],_=>exact⟨[],rfl,h⟩
  |[_],e=>cases e
  |_::_::r,e=>simp only[prs]at e;obtain⟨_,_,z⟩:=Wd.mp e;cases z
 |k::ks,v::vs,es,H,Q,hl,e,h=>by
  match es,e with
  |[],e=>cases e
  |[_],e=>cases e
  |a::b::r,e=>simp only[prs]at e;obtain⟨rest,e1,z⟩:=Wd.mp e;cases z;refine WE.mono h λx H1 h1=>WE.mono h1 λy H2 h2=>?_;have:=zT (ks:=ks) (vs:=vs) (es:=r) (H:=H2) (Q:=λus H3=>Q (x::y::us) H3) (by simpa using hl) e1 h2;refine wQ this λps H3=>?_;rintro⟨us,e2,q⟩;exact⟨x::y::us,by simp only[prs,e2];rfl,q⟩
def C5(S:aV X Ex Y es as)(hl:ks.length=vs.length)(he:prs es=some (ks.zip vs))(h0:ks≠[])(h15:ks.length<=15)(hp:fM as=[]):SE X Ex Y (.Dict (ks.map some) vs pos) (ah jZ as):=by
 intro g x E U H Hm F P Q hx R h q;refine WE.of (NK (Gf hl) (by rw[XD];exact VN.mpr λ_ _=>rfl) (by rw[V4];exact hl) (λz=>h0 (Yt.mp z)) (by rw[V4];exact h15)) ?_;intro p hp0;have sH:=cE (o:=.dK []) hp0;have R1:=R.grow (H':=upd H p (.dK [])) sH (aj.refl _) (R.sub.trans sH) (λi a ha=>R.off i a ha) λ_ _=>.inl rfl;have A:pH g F (upd H p (.dK [])) Hm [p]:=⟨λa ha=>by rw[VB.mp ha];exact⟨_,aQ,uR⟩,λa ha=>by rw[VB.mp ha];exact R.vF hp0,λa ha i=>by rw[VB.mp ha];exact R.fresh hp0,λa ha=>by rw[VB.mp ha];exact R.gK hp0⟩;have nM:=A.notM R1;refine wQ (zT hl he (kC (hx.fS A) S (R1.fS A) h (Q:=λus H2=>H2 p=some (.dK [])/\∀ps,prs us=some ps->∃kvs:List (Key×V),ps=kvs.map (λkv=>(kV kv.1,kv.2))/\kvs.length<=15/\Q (.ref p) (upd H2 p (.dK (lQ [] kvs)))) λE1 os us H1 Hm1 F1 pp R2 s1 G=>?_)) λps H2 ⟨us,e,h1,h2⟩=>⟨h1,h2 ps e⟩;replace pp:vD jZ as E1 os P:=pp;unfold vD at pp;rw[<-bw,e7]at pp;obtain⟨ds,hf,kvd,e1,e2,e3,pp⟩:=pp;rw[<-bw,wB]at pp;obtain⟨E2,ha,pq⟩:=pp;have OJ:aC X.K Hm1 us ds:=oj R2 (aj.refl _) G hf λi hi=>by rw[hp]at hi;cases hi
 obtain⟨R3,A3,keep⟩:=Rl.vd A nM R2;obtain⟨kvs,e4,kv⟩:=xH OJ e1 e2;have hE:E2=E1:=by unfold Ow at ha;rw[hp]at ha;have:eE [] E1=some E1:=rfl;split at ha;{cases ha;rfl};rw[this]at ha;cases ha;rfl
 subst hE;refine⟨(keep p V1).trans aQ,λps ep=>⟨kvs,?_,by rw[kv.length];exact e3,?_⟩⟩;{rw[e4]at ep;cases ep;rfl};exact q _ _ _ _ _ Hm1 F1 [p] pq (R3.Sn A3) s1 ⟨.dk aQ (vp kvs kv .nil),λa ha=>A3.off a ha,λa ha i=>A3.aW a ha i,λa ha=>A3.new a ha⟩
end
section
variable{X:Cx}{Ex:XK}{Y:A03}
def Pz(S:aV X Ex Y [k,v] as)(hp:fM as=[]:=by rfl):SE X Ex Y (.Dict [some k] [v] pos) (ah jZ as):=C5 (ks:=[k]) (vs:=[v]) S rfl rfl (XE _ _) (Yu rfl) hp
def OG(S:aV X Ex Y [k1,v1,k2,v2,k3,v3] as)(hp:fM as=[]:=by rfl):SE X Ex Y (.Dict [some k1,some k2,some k3] [v1,v2,v3] pos) (ah jZ as):=C5 (ks:=[k1,k2,k3]) (vs:=[v1,v2,v3]) S rfl rfl (XE _ _) (Yu rfl) hp
end
def Ng:jZ [k,v] P=(kG k=true/\P (.dk false) (.dict [(k,v)])):=by unfold jZ;refine propext ⟨?_,?_⟩;{rintro⟨kvs,e,h1,h2,h⟩;cases e;exact⟨by simpa using h1,h⟩};rintro⟨h1,h⟩;exact⟨[(k,v)],rfl,by simpa using h1,Yu rfl,h⟩
def Nd(h1:a≠b)(h2:a≠c)(h3:b≠c):jZ [.str a,u,.str b,v,.str c,w] P=P (.dk false) (.dict [(.str a,u),(.str b,v),(.str c,w)]):=by
 have e:Rv [(.str a,u),(.str b,v),(.str c,w)]=[(.str a,u),(.str b,v),(.str c,w)]:=by have n1:PyData.str a≠.str b:=λz=>h1 (PyData.str.inj z);have n2:PyData.str a≠.str c:=λz=>h2 (PyData.str.inj z);have n3:PyData.str b≠.str c:=λz=>h3 (PyData.str.inj z);simp[Rv,putD,n1,n2,n3]
 unfold jZ;refine propext ⟨?_,?_⟩;{rintro⟨kvs,z,h1,h2,h⟩;cases z;rw[e]at h;exact h};intro h;exact⟨_,rfl,rfl,Yu rfl,by rw[e];exact h⟩
def Sk:DE:=λ_ E Q=>Q E (.st false) (.dict [(.none,.none)])
def Rec(K:Frag) (x:Str)(st:Stmt):Prop:=∃(f:Addr)(fd:FuncData),nsIn K mainGlobals x=some (some (.ref f))/\vL K x x st f fd
def Qo{K:Frag}{x:Str}{st:Stmt}{f:Addr}{oc:Value}{od an:Zx}{osl:Zj}{kV doc pm cdv ct:Value}(n:nsIn K mainGlobals x=some (some (.ref f)))(l:K.lookup f=some ⟨oc,od,.func (fnOf x x (lJ st) (i7 st) (ay st) .none kV doc pm an cdv ct),osl⟩)(c:codeIn K cdv x=true)(k:keepIn K (.ref f)=true):Rec K x st:=⟨f,_,n,Qa l c k⟩
def Ab(K:Frag) (x:Str):Prop:=∃C,nsIn K mainGlobals x=some (some (.ref C))/\iJ K C oK "ValueError.__new__" none=true
def M4{K:Frag}{x:Str}{C:Addr}(h1:nsIn K mainGlobals x=some (some (.ref C)))(h2:iJ K C oK "ValueError.__new__" none=true):Ab K x:=⟨C,h1,h2⟩
def aZ{P:Program}{w:World}{K:Frag}{base:Heap}{mg:Zm}{k:Nat}{x:Str}{ps:A05}{sp:Sp}{st:Stmt}(N:∃h:Heap,K.In h/\h.Ns mainGlobals mg)(r:Rec K x st)(b:∀(kV doc pm:Value)(an:Zx)(cdv ct:Value)(us:Zy),us.length=ps.length->bindArgs (fnOf x x (lJ st) (i7 st) (ay st) .none kV doc pm an cdv ct) ⟨us,[]⟩=pure (ps.zip us))(ok:∀{f:Addr}{fd:FuncData},vL K x x st f fd->gM P w K mg base (fO P w) k f fd ps sp):bV P w K mg base k x ps sp:=by obtain⟨f,fd,n,F⟩:=r;obtain⟨h,X,G⟩:=N;exact⟨f,fd,mg_of X G n,F.kp,F.binds b,ok F⟩
end Dv
namespace SM
open PySem PySem.SetTable PySem.W PyProof.Rows
section
variable{prog:Program}{w:World}{A:Around}{E:Zk}{s:Shared}{es:Array Ent}{ep:Nat}{a it:Addr}
def BX(hh:A.handled=none)(ho:s.heap.get? a=some o)(T:nL (intKind prog w) o ks)(few:ks.length<=63)(q:∀(h':Heap) (tk:Nat)(p:Addr)(out:Zv)(ms:A04) (n:Nat),(∀b o',s.heap.get? b=some o'->h'.get? b=some o')->s.heap.get? p=none->h'.get? p=some (seqObj "list" out n)->L2.Vals (ms.map L2.V.int) out.toList->(∀x,x∈ms↔x∈ks)->ms.length=ks.length->ms.Pairwise (·<=·)->Q (.ref p) { s with heap:=h',toks:=tk }) : wpAny (model prog w) A (call (.builtin "sorted") [.ref a]) Q E s:=by
 obtain⟨ex,es,ep,t,hd,TBt,_,_,pl,ld,sp⟩:=T;have S:g8 w s.heap a es ep:=⟨o,t,ho,ex,hd,TBt.fits,TBt.ri,TBt.sz,pl,ld⟩;have el:=sp.len;refine Calls.call_function_entry kind_sorted plain_sorted entry_sorted (args_sorted1 _) (?_:_);unfold Builtin.«sorted»;refine V0 (m:=checkCount "sorted" 1 1 _) (V2 (?_:_));refine V0 (BW (by simpa using hh) S (by lia) λh' tk kp sz=>?_);have pe:=Bh w a ep es;have eint:∀l:List Ent,(∀e∈l,∃k,k∈ks/\EG (intKind prog w) e k)->∃ns:A04,IntsAre (l.map (·.2)) ns/\∀x,x∈ns↔∃e∈l,EG (intKind prog w) e x:=λl=>by
  induction l with
  |nil=>exact λ_=>⟨[],.nil,λx=>⟨λh=>(nomatch h),λ⟨e,h,_⟩=>(nomatch h)⟩⟩
  |cons e l ih=>intro h;obtain⟨ns,h1,h2⟩:=ih λe' he'=>h e' (V5 _ he');obtain⟨k,_,h3,h4,h5⟩:=h e V1;obtain⟨tk,h6⟩:=Value.isInt_shape h3;obtain⟨eh,ev⟩:=e;dsimp only at h4 h6;subst h6;refine⟨k::ns,.cons k tk h1,λx=>?_⟩;rw[V7,h2 x];constructor;{rintro (rfl|⟨e',h7,h8⟩);{exact⟨_,V1,h3,h4,h5⟩};exact⟨e',V5 _ h7,h8⟩};rintro⟨e',h7,h8⟩;rcases V7.mp h7 with rfl|h7;{exact .inl ((intKind prog w).inj _ _ _ h8.1 h3)};exact .inr ⟨e',h7,h8⟩
 obtain⟨ns,hI,hns⟩:=eint (dY w a ep es).toList λe he=>sp.ok e (pe.mem_iff.mp he);have vl:((dY w a ep es).toList.map (·.2)).length=ks.length:=by rw[V4,pe.length_eq];simpa using el
 have mem:∀x,x∈ns↔x∈ks:=λx=>by rw[hns x];constructor;{rintro⟨e,h1,h2⟩;obtain⟨k,h3,h4⟩:=sp.ok e (pe.mem_iff.mp h1);exact(intKind prog w).inj _ _ _ h2.1 h4.1▸h3};intro h;obtain⟨e,h1,h2⟩:=sp.on x h;exact⟨e,pe.mem_iff.mpr h1,h2⟩
 generalize (dY w a ep es).toList.map (·.2)=vs at *;refine V0 (Yo (hsz:=VS (show vs.length<=63 by lia) (by decide)) (?_:_));have g0:(h'.push (seqObj "list" vs.toArray 0)).get? h'.objs.size=some (seqObj "list" vs.toArray 0):=Vj _ rfl;refine V0 (Vo (X5 slot_list_sort ⟨_,g0,rfl⟩ entry_list_sort (list_sort_tree g0 hI (by lia) λout ms a1 a2 a3=>⟨_,rfl,(?_:_)⟩) (args_list_sort _)));obtain⟨n,hn⟩:=sortedHeap_at (vs:=vs) (out:=out) g0;have hlen:ns.length=ks.length:=by rw[<-vl];exact(L2.jb hI).length.symm▸(by simp)
 refine V2 ⟨_,rfl,q _ _ h'.objs.size out ms n (λb o' hb=>?_) (Y4 (WX sz)) hn (L2.jb a1) (λx=>by rw[a2.mem_iff,mem x]) (a2.length_eq.trans hlen) a3⟩;have hb':=kp b o' hb;have lt:=VA hb';rw[sortedHeap_old (VC lt) (by rw[size_push'];exact WM lt)];exact VM _ hb'
end
end SM
namespace L2
open PySem PySem.Spec PyProof.Rows
section
variable{X:Cx}
def yL(hc:X.calm=true):cu X (.builtin "sorted") (λxs H Q=>∃(a:Addr)(ks:A04),xs=[.ref a]/\H a=some (xD X.prog X.w a ks)/\ks.length<=63/\∀(ms:A04)(p:Addr),(∀x,x∈ms↔x∈ks)->ms.length=ks.length->ms.Pairwise (·<=·)->H p=none->Q (.ref p) (upd H p (.lst (ms.map V.int)))):=by
 intro pins s U H xs us Q I r h;obtain⟨a,ks,rfl,ha,few,q⟩:=h;obtain⟨u,rfl,ru⟩:=vals1 r;cases ru;obtain⟨⟨o,z1,z2⟩,_⟩:=I.hok a _ ha;refine SM.BX (I.ok.hd hc) z1 z2 few λh' tk p out ms n kp new hp rm mem ml xP=>?_;have I2:=I.y9 (a:=p) (o:=.lst (ms.map V.int)) (t':=tk) (h':=h') kp new
  ⟨by rw[V4,ml];exact VS few (by decide),out.toList,n,rm,by simpa using hp⟩
 exact⟨.ref p,_,I2,rfl,q ms _ mem ml xP (I.iZ new)⟩
end
end L2
namespace Dv
open PySem L2 PySem.W
def Bc:DR:=λds P=>∃ns:A04,ds=[.list (ns.map .int)]/\ns.length<=63/\∀ms:A04,(∀x,x∈ms↔x∈ns)->ms.Pairwise (·<·)->P (.ow false) (.list (ms.map .int))
def zV:DR:=λds P=>∃kss:Zp,ds=[.list (kss.map λks=>.tuple (ks.map .int))]/\kss.length<=126/\∀n:Nat,n<=kss.length->(n=kss.length↔kss.Nodup)->P .sh (.int n)
def CU(s:aj H H2){a:Addr}(h:H2 a=none):H a=none:=by
 cases e:H a with
 |none=>rfl
 |some o=>rw[s _ _ e]at h;cases h
def bP.up(q:bP K H Hm P Q)(s:aj H H2):bP K H2 Hm P Q:=λk v u H' Hm' fp pp s1 s2 s3 od o fr=>
 q k v u H' Hm' fp pp (s.trans s1) s2 s3 (λa ha=>od a λz=>ha (CU s z)) o λa ha=>⟨CU s (fr a ha).1,(fr a ha).2⟩
theorem Bp{α:Type} [DecidableEq α]:∀{l:List α},¬l.Nodup->∃k:List α,k.length+1=l.length/\∀x∈l,x∈k
 |[],h=>absurd W8 h
 |a::l,h=>by by_cases c:a∈l;{exact⟨l,rfl,λx hx=>(V7.mp hx).elim (λe=>e▸c) id⟩};obtain⟨k,h1,h2⟩:=Bp (l:=l) λz=>h (Vi.mpr ⟨c,z⟩);refine⟨a::k,by rw[VF,VF,h1],λx hx=>?_⟩;rcases V7.mp hx with rfl|hx;{exact V1};exact V5 _ (h2 x hx)
theorem zx{α:Type} [DecidableEq α]:∀{l k:List α},l.Nodup->(∀x∈l,x∈k)->l.length<=k.length
 |[],_,_,_=>VW _
 |a::l,k,h,s=>by obtain⟨h1,h2⟩:=Vi.mp h;have m:=s a V1;have:=zx (l:=l) (k:=k.erase a) h2 λx hx=>(ZR (λz:x=a=>h1 (z▸hx))).mpr (s x (V5 _ hx));rw[ZS m]at this;have:=Xc m;rw[VF];lia
def S7{α:Type} [DecidableEq α]{l k:List α}(h:k.Nodup)(s:∀x∈k,x∈l)(e:l.length=k.length):l.Nodup:=by by_cases c:l.Nodup;{exact c};obtain⟨l',h1,h2⟩:=Bp c;have:=zx h λx hx=>h2 x (s x hx);lia
def Q5(kss:Zp):dn kss=kss.length↔kss.Nodup:=by
 have key:∀(f:Nat->A04) (n:Nat),(SM.met f n).length=n↔∀i j,i<j->j<n->f i≠f j:=by
  intro f n;induction n with
  |zero=>exact⟨λ_ i j _ h=>by lia,λ_=>rfl⟩
  |succ n ih=>have hl:=SM.rX f n;have hm:=SM.CI f (f n) n;rw[show SM.met f (n+1)=if f n∈SM.met f n then SM.met f n else SM.met f n++[f n]from rfl];split;{rename_i c;refine⟨λh=>by lia,λh=>?_⟩;obtain⟨j,hj,e⟩:=hm.mp c;exact absurd e (h j n hj (Wv n))};rename_i c;rw[VD,Wc];constructor;{intro h i j l1 l2;by_cases e:j=n;{subst e;exact λz=>c (hm.mpr ⟨i,l1,z⟩)};exact ih.mp (by lia) i j l1 (by lia)};intro h;have:=ih.mpr λi j l1 l2=>h i j l1 (by lia);lia
 unfold dn;rw[key,List.nodup_iff_pairwise_ne,XX];constructor;{intro h i j hi hj l;have:=h i j l hj;rwa[Vk,Vk,VX hi,VX hj]at this};intro h i j l hj;have:=h i j (by lia) hj l;rw[Vk,Vk,VX (show i<kss.length by lia),VX hj];exact this
section
variable{X:Cx}{Ex:XK}{Y:A03}{a:Expr}{as:List Arg}{p p2 pos pos2:Pos}
abbrev LW(X:Cx):List V->Hp->VK->Prop:=λxs H Q=>∃(a:Addr)(ns:A04),xs=[.ref a]/\cz X.K H a (ns.map V.int)/\ns.length<=126/\∀(p:Addr)(ks:A04),H p=none->(∀x,x∈ks↔x∈ns)->ks.Nodup->Q (.ref p) (upd H p (xD X.prog X.w p ks))
abbrev KL(X:Cx):List V->Hp->VK->Prop:=λxs H Q=>∃(a:Addr)(ks:A04),xs=[.ref a]/\H a=some (xD X.prog X.w a ks)/\ks.length<=63/\∀(ms:A04)(p:Addr),(∀x,x∈ms↔x∈ks)->ms.length=ks.length->ms.Pairwise (·<=·)->H p=none->Q (.ref p) (upd H p (.lst (ms.map V.int)))
def GZ:c7 X.K Bc λvs H Q=>LW X vs H λv H1=>KL X [v] H1 Q:=by rintro H Hm vs ds P Q s r⟨ns,rfl,hn,h⟩q;obtain⟨x,rfl,h1⟩:=ee r;obtain⟨a,xs,rfl,ha,r1⟩:=gU h1;cases l5 r1;refine⟨a,ns,rfl,(cP.mono s ha).sq,by lia,λp ks hp hm nd=>?_⟩;refine⟨p,ks,rfl,aQ,VS (zx nd λx hx=>(hm x).mp hx) hn,λms p' m1 m2 m3 hp'=>?_⟩;have sH:=cE (o:=xD X.prog X.w p ks) hp;refine bP.nl (bP.up q sH) (s.trans sH) (h ms (λx=>(m1 x).trans (hm x)) ?_) hp' (mz ms);have nm:=S7 nd (λx hx=>(m1 x).mpr hx) m2;exact(m3.and nm).imp λ⟨u,v⟩=>by lia
def PV(hm:X.mg "sorted"=none)(hm2:X.mg "set"=none)(S:aV X Ex Y [a] as)(hc:X.calm=true:=by rfl)(hg:Gl X "sorted":=by rfl)(hg2:Gl X "set":=by rfl)(ns:noStar a=true:=by rfl):SE X Ex Y (.Call (.Name "sorted" p) [.Call (.Name "set" p2) [a] [] pos2] [] pos) (ah Bc as):=
 fR (r:=λvs H Q=>LW X vs H λv H1=>KL X [v] H1 Q) S (λU H Q h=>WE.of (mQ (yL hc) hg hm ZQ (ia (kB (GN hc) hg2 hm2 PyProof.Rows.boot_set (d9 (es:=[a]) (by rw[VP,ns];rfl)) (by decide) (by decide) (bG ns) (fT rfl)) mF) (by decide) (by decide) rfl rfl) h) GZ
abbrev LK(X:Cx):List V->Hp->VK->Prop:=λxs H Q=>∃a ys kss,xs=[.ref a]/\cz X.K H a ys/\zJ X.K H ys kss/\kss.length<=126/\∀p,H p=none->Q (.ref p) (upd H p (xg p (dn kss)))
abbrev KS:List V->Hp->VK->Prop:=λxs H Q=>∃a n,xs=[.ref a]/\H a=some (xg a n)/\n<1000/\Q (.int n) H
def MJ(s:aj H H')(r:aC K H vs (kss.map λks=>.tuple (ks.map .int))):zJ K H' vs kss:=by
 refine⟨by rw[r.len,V4],λi x ks h1 h2=>?_⟩;obtain⟨d,hd,rd⟩:=r.KA h1;rw[VQ,h2]at hd;cases hd;cases rd with
 |tup e rs=>cases l5 rs;exact⟨_,rfl,cG.of (s _ _ e)⟩
def Ft:c7 X.K zV λvs H Q=>LK X vs H λv H1=>KS [v] H1 Q:=by rintro H Hm vs ds P Q s r⟨kss,rfl,hn,h⟩q;obtain⟨x,rfl,h1⟩:=ee r;obtain⟨a,xs,rfl,ha,r1⟩:=gU h1;have hl:dn kss<=kss.length:=SM.rX _ _;refine⟨a,xs,kss,rfl,(cP.mono s ha).sq,MJ s r1,hn,λp hp=>?_⟩;have sH:=cE (o:=xg p (dn kss)) hp;exact⟨p,dn kss,rfl,aQ,by lia,bP.sc (bP.up q sH) (s.trans sH) (h (dn kss) hl (Q5 kss)) (.int _)⟩
def Po(hu:X.A.units+64<cLine)(hm:X.mg "len"=none)(hm2:X.mg "set"=none)(S:aV X Ex Y [a] as)(hc:X.calm=true:=by rfl)(hg:Gl X "len":=by rfl)(hg2:Gl X "set":=by rfl)(ns:noStar a=true:=by rfl):SE X Ex Y (.Call (.Name "len" p) [.Call (.Name "set" p2) [a] [] pos2] [] pos) (ah zV as):=
 fR (r:=λvs H Q=>LK X vs H λv H1=>KS [v] H1 Q) S (λU H Q h=>WE.of (mQ Ie hg hm PySem.boot_len (ia (kB (HK hc (by lia)) hg2 hm2 PyProof.Rows.boot_set (d9 (es:=[a]) (by rw[VP,ns];rfl)) (by decide) (by decide) (bG ns) (fT rfl)) mF) (by decide) (by decide) rfl rfl) h) Ft
end
def Of(c:Str):PyData:=.dict [(.none,.str c)]
def qe(c b:Str):Bool:=decide (b=c)||(decide (b="HailError")||decide (b="ValueError"))
abbrev XH:=En->Str->Prop
abbrev DB:=XH->gw->En->Prop
def GC(o:Option Nat)(E:En)(k:Kd)(v:PyData)(Q:A0B):Prop:=match o with
 |none=>Q E
 |some i=>bK (gA E i) (Q (E.set i (some (k,v))))
def GI(sp:bF)(as:List Arg)(o:Option Nat):DB:=λh D E=>jB as xF E λE1 os=>aH (cZ as E1 os) λds=>bK ((fM as).all (iS E1)) (sp ds (λ_ k v=>GC o E1 k v D.nx) (λc _=>h E1 c))
def OH(t:DT)(a b:DB):DB:=λh D E=>t xF E λE1 c=>dS c (a h D E1) (b h D E1)
def J9(cs:A05) (B:Str)(b:DB) (i:Nat)(t:DS):DS:=λD E=>b (λE1 c=>bK (cs.contains c&&qe c B) (bK (gA E1 i) (t { nx:=λE2=>bK (gA E2 i) (D.nx (E2.set i none)),rt:=D.rt,xc:=xF } (E1.set i (some (.sh,Of c)))))) D E
def RP(cs:A05) (B:Str)(b:DB)(t:DS):DS:=λD E=>b (λE1 c=>bK (cs.contains c&&qe c B) (t { D with xc:=xF } E1)) D E
def SB(X:Cx)(st:A02)(d:DB):Prop:=∀(pins:Zn)(Hd:HD)(g:Gh)(h:XH)(D':gw)(E:En)(U:St)(H Hm:Hp)(F:Nat->Zz)(D:Ends),Rl X.K g E U H Hm F->d h D' E->
  (∀E' σ' H' Hm' F',D'.nx E'->Rl X.K g E' σ' H' Hm' F'->aj Hm Hm'->D.nx (sel (aM X) σ') H')->
  (∀E' c C a H' Hm' F',h E' c->X.mg c=some (.ref C)->Rl X.K g E' U H' Hm' F'->aj Hm Hm'->Hm' a=some (.ext (fP a C none))->Hd (sel (aM X) U) C a H')->mL (gu X pins Hd) st D (sel (aM X) U) H
section
variable{X:Cx}{Ex:XK}
def Sw:∀{ms:A00}{vs:List V}{ds:Zw},aC K Hm vs ds->ms.length=ds.length->ms.all (!·)=true->Ag K H Hm ms vs ds []:=by
 intro ms;induction ms with
 |nil=>intro vs ds h e _;cases h with|nil=>exact .nil|cons _ _=>cases e
 |cons b ms ih=>
  intro vs ds h e n;rw[VP,V9]at n;cases h with
  |nil=>cases e
  |cons r t=>
   cases b with
   |true=>cases n.1
   |false=>exact .sh r (ih t (Nat.succ.inj e) n.2)
theorem um:∀{as:List Arg}{E:En}{os:A07}{ds:Zw},fill as E os=some ds->ds.length=as.length
 |[],_,[],_,h=>by cases h;rfl
 |[],_,_::_,_,h=>by cases h
 |.pk i::r,E,none::os,ds,h=>by
  rw[fill]at h;split at h
  .split at h
   .cases e:fill r E os with
    |none=>rw[e]at h;cases h
    |some es=>rw[e]at h;cases h;exact congrArg (·+1) (um e)
   cases h
  cases h
 |.ev _::r,E,some v::os,ds,h=>by
  rw[fill]at h;cases e:fill r E os with
  |none=>rw[e]at h;cases h
  |some es=>rw[e]at h;cases h;exact congrArg (·+1) (um e)
 |.pk _::_,_,[],_,h=>by cases h
 |.pk _::_,_,some _::_,_,h=>by cases h
 |.ev _::_,_,[],_,h=>by cases h
 |.ev _::_,_,none::_,_,h=>by cases h
def L7{k:Nat}(hex:X.ex=[])(Fn:bV X.prog X.w X.K X.mg X.base k x ps (cC X.mg X.K ms sp))(hr:dM k X.A)(hg:Gl X x)(hd:(x==("__debug__":Str))=false)(ns:(e::es).all noStar=true)(hms:ms.all (!·)=true)(hl:ms.length=as.length)(S:aV (gu X pins Hd) E0 (aM X) (e::es) as){F:Nat->Zz}(R:Rl X.K g E U H Hm F)(q:GI sp as o h D' E)(nx:∀E1 F1 k v u H' Hm' fp,GC o E1 k v D'.nx->Rl X.K g E1 U H' Hm' F1->aj Hm Hm'->Tm X.K g F1 H' Hm' k u v fp->Q u H')(xh:∀E' c C a H' Hm' F',h E' c->X.mg c=some (.ref C)->Rl X.K g E' U H' Hm' F'->aj Hm Hm'->Hm' a=some (.ext (fP a C none))->Hd (sel (aM X) U) C a H') : WE (gu X pins Hd) (.Call (.Name x p) (e::es) [] pos) (sel (aM X) U) H Q:=by
 refine WE.of (MP hex Fn hr hg (d9 ns) hd (bG (by rw[VP,V9]at ns;exact ns.1)) (fT (by rw[VP,V9]at ns;exact ns.2))) ?_;refine kC (X:=gu X pins Hd) (Ex:=E0) XL.no S R q λE1 os vs H1 Hm1 F1 p R1 s1 G=>?_;rw[<-bw,e7]at p;obtain⟨ds,hf,p⟩:=p;rw[dh]at p;obtain⟨hsh,p⟩:=p;have hF:∀i∈fM as,∀a∈F1 i,Hm1 a=H1 a:=λi hi a ha=>by have:=VN.mp hsh i hi;unfold iS at this;split at this;{rename_i d e;obtain⟨v,_,o⟩:=R1.slot i _ _ e;generalize F1 i=fi at o ha;cases o;cases ha};cases this
 have rs:=oj R1 (aj.refl Hm1) G hf hF;show cC X.mg X.K ms sp (vs++[]) H1 Q _;rw[Vm];refine⟨ds,[],Hm1,_,_,R1.sub,Sw rs (by rw[hl,um hf]) hms,p,λus k r u H' Hm' fp p sM sS fr old bk o new=>?_,λc d C a H' hC hxc fr ha hn=>?_⟩
 .have sH:aj H1 H':=λb u e=>fr b u VE e;have off:∀i a,a∈F1 i->Hm' a=none:=λi a ha=>by obtain⟨u,hu,nt⟩:=R1.bI i a ha;rcases old a VE (by rw[hu];simp)with z|⟨_,xs,z⟩;{rw[z];exact R1.off i a ha};have:=sS _ _ z;rw[sH _ _ hu]at this;cases this;exact absurd rfl (nt xs)
  refine nx E1 F1 k r u H' Hm' fp p (R1.grow sH sM sS off λa ha=>?_) (s1.trans sM) ⟨o,λa ha=>(new a ha).2,λa ha i z=>R1.fresh (new a ha).1 z,λa ha=>R1.gK (new a ha).1⟩;exact old a VE (R1.rR ha)
 have sH:aj H1 H':=λb u e=>fr b u VE e;have hm1:=R1.vF hn;refine⟨C,a,rfl,rfl,xh E1 c C a H' (upd Hm1 a (.ext (fP a C none))) F1 hxc hC (R1.grow sH (cE hm1) (λb u e=>?_) (λi b hb=>?_) λb hb=>.inl ?_) (s1.trans (cE hm1)) aQ⟩;{by_cases z:b=a;{subst z;rw[aQ]at e;cases e;exact ha};rw[aA z]at e;exact sH _ _ (R1.sub _ _ e)};{rw[aA (show b≠a from λz=>R1.fresh hn (z▸hb))];exact R1.off i b hb};rw[aA (show b≠a from λz=>hb (by rw[z];exact R1.gK hn))]
def Dj{k k':Nat}(Fn:bV X.prog X.w X.K X.mg X.base k x ps (cC X.mg X.K ms sp))(hr:dM k' X.A)(S:∀pins Hd,aV (gu X pins Hd) E0 (aM X) (e::es) as)(hk:k<=k':=by decide)(hex:X.ex=[]:=by rfl)(hg:Gl X x:=by rfl)(hd:(x==("__debug__":Str))=false:=by decide)(ns:(e::es).all noStar=true:=by rfl)(hms:ms.all (!·)=true:=by rfl)(hl:ms.length=as.length:=by rfl)(hs:swapsWith (.Call (.Name x p) (e::es) [] pos) none pos2.line X.env=pure false:=by rfl):SB X [.Expr (.Call (.Name x p) (e::es) [] pos) pos2] (GI sp as none):=by intro pins Hd g h D' E U H Hm F D R q nx xh;refine mL.of (xE (CW (X:=gu X pins Hd) bB hs)) ?_;exact L7 hex Fn (hr.mono hk) hg hd ns hms hl (S pins Hd) R q (λE1 F1 k v u H' Hm' fp p R' s' T=>nx E1 U H' Hm' F1 p R' s') xh
def S2(hc:∀pins Hd,ST (gu X pins Hd) E0 (aM X) c t)(ha:SB X a d)(hb:SB X b2 e):SB X [.If c a b2 pos] (OH t d e):=by
 intro pins Hd g h D' E U H Hm F D R q nx xh;refine mL.of (xE (K9 (X:=gu X pins Hd) jX fG fG)) ?_;refine hc pins Hd g xF E U H Hm F _ (λb H1=>if b=true then mL _ a D _ H1 else mL _ b2 D _ H1) XL.no R q λE1 b H1 Hm1 F1 p1 R1 s1=>?_;cases b with
 |true=>exact qY (ha pins Hd g h D' E1 U H1 Hm1 F1 D R1 p1 (λE2 σ2 H2 Hm2 F2 p2 R2 s2=>nx _ _ _ _ _ p2 R2 (s1.trans s2)) λE' c C a H' Hm' F' q1 q2 q3 s2 q4=>xh _ _ _ _ _ _ _ q1 q2 q3 (s1.trans s2) q4)
 |false=>exact qy (hb pins Hd g h D' E1 U H1 Hm1 F1 D R1 p1 (λE2 σ2 H2 Hm2 F2 p2 R2 s2=>nx _ _ _ _ _ p2 R2 (s1.trans s2)) λE' c C a H' Hm' F' q1 q2 q3 s2 q4=>xh _ _ _ _ _ _ _ q1 q2 q3 (s1.trans s2) q4)
def Rl.unset{F:Nat->Zz}(R:Rl K g E U H Hm F){i:Nat}(o:bN E i=true):Rl K g (E.set i none) (U.set i none) H Hm (λj=>if j=i then []else F j):=by
 have nin:∀{j:Nat}{a:Addr},a∈(if j=i then []else F j)->j≠i/\a∈F j:=λ{j a} h=>by by_cases c:j=i;{rw[if_pos c]at h;cases h};rw[if_neg c]at h;exact⟨c,h⟩
 exact {
  len:=by rw[Vs,Vs];exact R.len
  sub:=R.sub
  slot:=λj k d e=>by
   by_cases c:i=j
   .subst c;rw[Xh,if_pos rfl]at e;split at e<;>cases e
   .rw[aq c]at e;obtain⟨v,h1,h2⟩:=R.slot j k d e;refine⟨v,by rw[aq c];exact h1,?_⟩
    rw[if_neg (Ne.symm c)];exact h2
  off:=λj a h=>R.off j a (nin h).2
  bI:=λj a h=>R.bI j a (nin h).2
  aW:=λj k a h1 h2=>R.aW j k a (nin h1).2 (nin h2).2
  fr:=R.fr
  new:=λj a h=>R.new j a (nin h).2
  pin:=λq hq=>by
   obtain⟨h1,ds,h2⟩:=R.pin q hq;have c:i≠q.1:=λz=>by
    subst z;unfold bN at o;rw[h2]at o;cases o
   exact⟨by rw[aq c];exact h1,ds,by rw[aq c];exact h2⟩
  old:=R.old }
def G7(K:Frag)(cs:A05) (B:Str):Bool:=match nsIn K mainGlobals B with
 |some (some (.ref B'))=>cs.all λc=>match nsIn K mainGlobals c with
  |some (some (.ref C))=>exmOne K (.ref C) (.ref B')==some (qe c B)
  |_=>false
 |_=>false
def SO(h:G7 K cs B=true):∃B',nsIn K mainGlobals B=some (some (.ref B'))/\∀c∈cs,∃C,nsIn K mainGlobals c=some (some (.ref C))/\exmOne K (.ref C) (.ref B')=some (qe c B):=by unfold G7 at h;split at h;{rename_i B' e;refine⟨B',e,λc hc=>?_⟩;have z:=VN.mp h c hc;split at z;{rename_i C e2;exact⟨C,e2,by simpa using z⟩};cases z};cases h
def RX{i:Nat}(N:∃h:Heap,X.K.In h/\h.Ns mainGlobals X.mg)(kx:G7 X.K cs x=true)(hN:X.N.Nodup)(hb:SB X body b)(hh:∀a,SS (C0 X a) E0 (b₀::suite) t)(hex:X.ex=[]:=by rfl)(hst:X.stack=X.env::X.outer:=by rfl)(hfr:X.env.frame=some X.env.locals:=by rfl)(hg:Gl X x:=by rfl)(hi:X.N[i]?=some n:=by rfl)(hk:X.env.scope.names.lookup n=some .local:=by rfl)(hdb:(x==("__debug__":Str))=false:=by decide) : S1 X Ex (.Try body [.ExceptHandler (some (.Name x np)) (some n) (b₀::suite) hpos] [] [] pos) (J9 cs x b i t):=by obtain⟨B',nB,hc⟩:=SO kx;obtain⟨h0,KX,G⟩:=N;intro g D' E U H Hm F D hx R p nx rt;refine WS.of (Ox hex hst hfr hg (mg_of KX G nB) hN hi hk (λpins Hd=>fG) (λa=>fG) hdb) λpins=>?_;refine hb pins _ g _ D' E U H Hm F D R p nx λE1 c C a H1 Hm1 F1 q hC R1 s1 ha=>?_;rw[dh,V9,ZT]at q;obtain⟨⟨q1,q2⟩,q⟩:=q;rw[dh,jV]at q;obtain⟨op,q⟩:=q;obtain⟨C',e1,e2⟩:=hc c q1;have e3:=(mg_of KX G e1).symm.trans hC;cases e3;refine⟨by rw[e2,q2],?_⟩;rw[iY WC (fE (bq hi)) (R1.len▸gk op)];refine hh a g _ _ (U.set i (some (.ref a))) H1 Hm1 _ (gone i D) XL.no (R1.put (Tm.sh (.exc ha e1)) op) q (λE2 σ2 H2 Hm2 F2 p2 R2 s2=>?_) rt;replace p2:bK (gA E2 i) _:=p2;rw[dh,jV]at p2;show D.nx ((sel (aM X) σ2).set i none) H2;rw[iY WC (fE (bq hi)) (R2.len▸gk p2.1)];exact nx _ _ _ _ _ p2.2 (R2.unset p2.1) (s1.trans s2)
end
def pV(cs Bs:A05):DR:=λds P=>match ds with
 |[.dict [(.none,.str c)]]=>bK (cs.contains c) (P .sh (.bool (Bs.any (qe c))))
 |_=>False
def Kh(K:Frag)(C:Addr):Bool:=(QZ K C&&findIn K (.ref C) "__setattr__" == some (some (.builtin "object.__setattr__")))&&(findIn K (.ref C) "__getattribute__" == some (some (.builtin "BaseException.__getattribute__"))&&findIn K (.ref C) "__getattr__" == some none) &&
 (findIn K (.ref C) "__class__" == some (some (.builtin "object.__class__"))&&(specialIn K (.builtin "object.__class__") "__get__" == some (some (.builtin "getset_descriptor.__get__"))&&takesIn K (.builtin "object.__class__")==some true))
def PF{C:Addr}(h:Kh K C=true):IE K C:=by unfold Kh at h;simp only[V9,beq_iff_eq]at h;obtain⟨⟨⟨a,b⟩,c,d⟩,e,f,g⟩:=h;exact⟨⟨a,b,c,d⟩,e,f,g⟩
def LA(K:Frag) (B:Str):Zu:=match nsIn K mainGlobals B with
 |some (some v)=>some v
 |some none=>bootBuiltins B
 |none=>none
def G3(K:Frag)(cs Bs:A05):Bool:=cs.all λc=>match nsIn K mainGlobals c with
 |some (some (.ref C))=>Kh K C&&Bs.all λB=>match LA K B with
  |some v=>kitOne K (.ref C) v==some (qe c B)
  |none=>false
 |_=>false
def Ss(h:G3 K cs Bs=true)(hc:c∈cs):∃C,nsIn K mainGlobals c=some (some (.ref C))/\IE K C/\∀B∈Bs,∃v,LA K B=some v/\kitOne K (.ref C) v=some (qe c B):=by have z:=VN.mp h c hc;split at z;{rename_i C e;rw[V9]at z;refine⟨C,e,PF z.1,λB hB=>?_⟩;have y:=VN.mp z.2 B hB;split at y;{rename_i v e2;exact⟨v,e2,by simpa using y⟩};cases y};cases z
def gV:Value->Option V
 |.ref a=>some (.ref a)
 |.type t=>some (.ty t)
 |_=>none
def IG(h:gV u=some v):RelV v u:=by unfold gV at h;split at h;{cases h;rfl};{cases h;rfl};cases h
def MT(h:gV u=some v)(r:RelV v u2):u2=u:=by unfold gV at h;split at h;{cases h;exact r};{cases h;exact r};cases h
def HV(K:Frag)(Bs:A05):Bool:=Bs.all λB=>(!(B==("__debug__":Str)) && !(B==("__name__":Str)))&&match nsIn K mainGlobals B with
 |some (some u)=>(gV u).isSome
 |some none=>match bootBuiltins B with
  |some u=>(gV u).isSome
  |none=>false
 |none=>false
section
variable{X:Cx}{Ex:XK}{Y:A03}
def Sj(N:∃h:Heap,X.K.In h/\h.Ns mainGlobals X.mg)(h:HV X.K Bs=true)(hB:B∈Bs)(hg:Gl X B):∃u v,LA X.K B=some u/\gV u=some v/\∀p,PE X (.Name B p) (tC v):=by obtain⟨h0,KX,G⟩:=N;have z:=VN.mp h B hB;rw[V9,V9,Xa,Xa]at z;obtain⟨⟨z1,z2⟩,z⟩:=z;unfold LA;split at z;{rename_i u e;obtain⟨v,hv⟩:=Z7.mp z;exact⟨u,v,rfl,hv,λp=>Np hg (mg_of KX G e) (IG hv) z1⟩};{rename_i e;split at z;{rename_i u e2;obtain⟨v,hv⟩:=Z7.mp z;exact⟨u,v,e2,hv,λp=>CN hg (Vw KX G e) e2 (IG hv) (λq=>by rw[q]at z2;exact absurd z2 (by decide)) z1⟩};cases z};cases z
def Qp(N:∃h:Heap,X.K.In h/\h.Ns mainGlobals X.mg)(kx:G3 X.K cs Bs=true)(kc:HV X.K Bs=true)(hm:X.mg "isinstance"=none)(S:aV X Ex Y [a] as)(hB:Bs.contains B=true)(hg:Gl X "isinstance")(hg2:Gl X B)(ns:noStar a=true) : SE X Ex Y (.Call (.Name "isinstance" p) [a,.Name B p2] [] pos) (ah (pV cs [B]) as):=by
 have hB:=ZT.mp hB;obtain⟨u,w,e1,ru,pe⟩:=Sj N kc hB hg2;refine fR (r:=λvs H Q=>∃a C c,vs=[.ref a]/\H a=some (.ext (fP a C none))/\c∈cs/\nsIn X.K mainGlobals c=some (some (.ref C))/\Q (.bl (qe c B)) H) S (λU H Q h=>WE.of (mQ Jx hg hm PyProof.Rows.boot_isinstance (ia bB (ia (pe p2) mF) (bG ns)) (by decide) (by decide) (bG ns) (by rfl)) ?_) ?_;{refine λpins s I=>aT (h pins s I) λv s1 ⟨y,H1,I1,r1,b,C,c,e,hb,hc,n,q⟩=>⟨y,H1,I1,r1,?_⟩;cases e;obtain⟨C',n',xi,k⟩:=Ss kx hc;rw[n]at n';cases n';obtain⟨u',e2,k⟩:=k B hB;rw[e1]at e2;cases e2;exact⟨_,C,w,_,rfl,.inl hb,xi,λu2 hu=>by rw[MT ru hu];exact k,q⟩};intro H Hm vs ds P Q s r h q;unfold pV at h;split at h
 .rename_i c;obtain⟨v,rfl,h1⟩:=ee r;rw[dh,ZT]at h;generalize e:PyData.dict [(.none,.str c)]=d at h1;cases h1 with
  |exc ha n=>cases e;refine⟨_,_,c,rfl,s _ _ ha,h.1,n,bP.sc q s ?_ (.bl _)⟩;have:=h.2;rw[X7,List.any_nil,Bool.or_false]at this;exact this
  |dk _ k=>
   cases e;generalize e:[(PyData.none,PyData.str c)]=l at k;cases k with
   |nil=>cases e
   |@cons k _ _ _ _ _ _=>cases k<;>cases e
  |_=>cases e
 exact h.elim
def DP(N:∃h:Heap,X.K.In h/\h.Ns mainGlobals X.mg)(kx:G3 X.K cs Bs=true)(kc:HV X.K Bs=true)(hm:X.mg "isinstance"=none)(S:aV X Ex Y [a] as)(hB:Bs.contains B=true:=by decide)(hg:Gl X "isinstance":=by rfl)(hg2:Gl X B:=by rfl)(ns:noStar a=true:=by rfl) : SE X Ex Y (.Call (.Name "isinstance" p) [a,.Name B p2] [] pos) (ah (pV cs [B]) as):=Qp N kx kc hm S hB hg hg2 ns
def JM:A00->Nat
 |[]=>0
 |b::r=>(if b=true then 1 else 0)+JM r
def CF:Zw->Option (A00)
 |[]=>some []
 |.bool b::r=>(CF r).map (b::·)
 |_=>none
def RT:DR:=λds P=>match ds with
 |[.list xs]=>aH (CF xs) λbs=>P .sh (.int (JM bs))
 |_=>False
end
end Dv
namespace Dv
open PySem L2
theorem rr216:J9 cs B b i t D (o::E)=b (λE1 c=>bK (cs.contains c&&qe c B) (bK (gA E1 i) (t { nx:=λE2=>bK (gA E2 i) (D.nx (E2.set i none)),rt:=D.rt,xc:=xF } (E1.set i (some (.sh,Of c)))))) D (o::E):=rfl
theorem rr217:RP cs B b t D (o::E)=b (λE1 c=>bK (cs.contains c&&qe c B) (t { D with xc:=xF } E1)) D (o::E):=rfl
theorem rr218:GI sp as w h D (o::E)=jB as xF (o::E) λE1 os=>aH (cZ as E1 os) λds=>bK ((fM as).all (iS E1)) (sp ds (λ_ k v=>GC w E1 k v D.nx) λc _=>h E1 c):=rfl
theorem rr219:OH t a b h D (o::E)=t xF (o::E) λE1 c=>dS c (a h D E1) (b h D E1):=rfl
theorem rr220:GC none (o::E) k v Q=Q (o::E):=rfl
theorem rr221:GC (some i) (o::E) k v Q=bK (gA (o::E) i) (Q ((o::E).set i (some (k,v)))):=rfl
theorem rr222:pV cs Bs [.dict [(.none,.str c)]] P=bK (cs.contains c) (P .sh (.bool (Bs.any (qe c)))):=rfl
theorem rr223:pV cs Bs [Of c] P=bK (cs.contains c) (P .sh (.bool (Bs.any (qe c)))):=rfl
theorem rr224:RT [.list xs] P=aH (CF xs) λbs=>P .sh (.int (JM bs)):=rfl
theorem rr225:CF []=some []:=rfl
theorem rr226:CF (.bool b::r)=(CF r).map (b::·):=rfl
end Dv
namespace Dv
open PySem L2 PySem.W
def UC:DR:=λds P=>match ds with
 |[.list ds]=>ds.length<61/\P (.ow false) (.list ds.reverse)
 |_=>False
theorem rr227:UC [.list l] P=(l.length<61/\P (.ow false) (.list l.reverse)):=rfl
end Dv
namespace PB
open PySem L2 Dv
def ic:DS:=au (qF [1,2] (aS 0)) (au (aK 3 (oz sizeLine [6] (mS qh [.pk 1]) (.nm 6) (cY) (ah bW []))) (au (eB (iE (aS 2)) (.tp [4,5]) (au (eN (tM cV 3 (aS 4) 5)) (eN (tM cV 3 (aS 5) 4)))) (gW 3)))
def iu:DS:=cO (sI (bS (pC (λi j=>decide (i<=j)) (λi j=>decide (i<j)) (dC (.int 0)) (aS 1) (ah br [.pk 0,.ev (dC (.int 0))])))) (oM "NoPlace") (dJ)
def nW:DS:=au (qF [2,3] (aS 0)) (au (aK 4 (zK (bS (ah gB [.pk 1,.ev (dC (.str "ties"))])) (ah bW []) (ah iG [.pk 2]))) (au (aK 5 (zK (bS (ah gB [.pk 1,.ev (dC (.str "places"))])) (ah bW []) (ah jm [.pk 3]))) (bY (ah dW [.pk 4,.pk 5]))))
def qQ:DS:=au (qF [1,2] (aS 0)) (bY (ah gB [.ev (ah cN [.pk 2]),.ev (ah lT [.pk 1,.ev (dC (.int 1))])]))
def iT(AAG:bF):DS:=cO (sI (bS (aG AAG [false] [.pk 0]))) (oM "NoTree") (dJ)
def jK:DS:=au (aK 3 (ah bW [])) (au (aK 4 (ah bW [.ev (ah jF [.pk 1,.pk 2])])) (au (qE (CD 4) (au (qF [5,6] (oU wK 4 [])) (au (eN (oU cV 3 [aS 6])) (Be sizeLine 4 (bJ [7] (iE (ah br [.pk 0,.pk 6])) (.nm 7) (bS (ah l6 [.pk 7,.pk 5])) (bM sizeLine (ah jF [.pk 6,.pk 7]))))))) (bY (ah lX [.pk 3]))))
def nS(AAb AAa AAX AAY:bF):DS:=au (eN (aG AAb [false] [.pk 0])) (au (eN (aG AAa [false,false] [.pk 0,.pk 1])) (au (aK 2 (aG AAX [false] [.pk 0])) (bY (bJ [3] (iE (ah br [.pk 2,.pk 1])) (.nm 3) (cY) (bM sizeLine (aG AAY [false,false,false] [.pk 2,.pk 1,.pk 3]))))))
def qU(AAZ:bF):DS:=bY (bJ [3] (iE (aG AAZ [false,false] [.pk 0,.pk 1])) (.nm 3) (sI (bS (ah ER [.ev (bJ [4] (iE (aS 3)) (.nm 4) (cY) (bM sizeLine (ah (iA false) [.pk 4,.pk 2])))]))) (bM sizeLine (aS 3)))
def kT(AAb AAf AAX AAW:bF):DS:=au (eN (aG AAb [false] [.pk 0])) (au (cO (bS (ah GW [.ev (ah cN [.ev (aG AAf [false,false] [.pk 0,.pk 1])]),.ev (dC (.int 2))])) (bY (ah bW [])) (dJ)) (au (aK 2 (bJ [6] (iE (aG AAX [false] [.pk 0])) (.nm 6) (cY) (bM sizeLine (ah cN [.pk 6])))) (au (aK 3 (bJ [6,7] (yD (aS 2)) (.tp [6,7]) (bS (ah gB [.pk 7,.ev (dC (.int 1))])) (bM sizeLine (aS 6)))) (au (cO (bS (ah gB [.pk 1,.ev (dC (.str "all"))])) (bY (bJ [6] (iE (aS 3)) (.nm 6) (cY) (bM sizeLine (ah bW [.ev (ah bW [.pk 6]),.ev (ah bW [])])))) (dJ)) (au (aK 4 (bJ [6,7] (yD (aS 2)) (.tp [6,7]) (bS (ah yC [.pk 7,.ev (dC (.int 2))])) (bM sizeLine (aS 6)))) (au (cO (sI (CD 4)) (bY (ah bW [.ev (bJ [6] (iE (aS 3)) (.nm 6) (cY) (bM sizeLine (ah bW [.pk 6])))])) (dJ)) (au (aK 5 (bJ [6] (iE (aS 4)) (.nm 6) (cY) (bM sizeLine (aG AAW [false,false,false] [.pk 0,.pk 6,.pk 4])))) (bY (bJ [6] (iE (aS 5)) (.nm 6) (CD 6) (bM sizeLine (aS 6)))))))))))
def kU(AAc:bF):DS:=bY (ah DH [.ev (bJ [2] (iE (aG AAc [false,false] [.pk 0,.pk 1])) (.nm 2) (cY) (bM sizeLine (ah lT [.ev (ah cN [.pk 2]),.ev (dC (.int 1))])))])
def nP:DS:=au (aK 3 (ah cN [.ev (bJ [4] (iE (aS 0)) (.nm 4) (bS (ah (iA false) [.pk 4,.pk 1])) (bM sizeLine (aS 4)))])) (au (cO (bS (ah yC [.pk 3,.ev (dC (.int 0))])) (bY (ah jF [.ev (zK (bS (ah gB [.pk 3,.ev (dC (.int 1))])) (dC (.int 1)) (dC (.int 0))),.ev (dC (.int 0))])) (dJ)) (bY (ah jF [.ev (ah cN [.ev (bJ [4] (iE (aS 0)) (.nm 4) (bS (ah K3 [.pk 4,.pk 2])) (bM sizeLine (aS 4)))]),.ev (dC (.int 1))])))
def l9(AAd:bF):DS:=au (aK 3 (dC (.int 1))) (au (aK 4 (dC (.int 0))) (au (eB (iE (aS 0)) (.nm 5) (au (qF [6,7] (aG AAd [false,false,false] [.pk 5,.pk 1,.pk 2])) (au (aK 4 (ah dW [.ev (ah ie [.pk 4,.pk 6]),.ev (ah ie [.pk 3,.pk 7])])) (aK 3 (ah ie [.pk 3,.pk 6]))))) (gW 4)))
def nj(AAE:bF):DS:=au (aK 3 (dC (.int 1))) (au (eB (iE (aS 0)) (.nm 4) (aK 3 (ah ie [.pk 3,.ev (aG AAE [false,false,false] [.pk 4,.pk 1,.pk 2])]))) (gW 3))
def jP(AAi AAc:bF):DS:=bY (aG AAi [false,false,false] [.ev (aG AAc [false,false] [.pk 0,.pk 1]),.ev (ah bW []),.ev (dC (.int 0))])
def pM:DS:=bY (ah lX [.ev (bJ [1,2,3] (iE (aS 0)) (.nm 1) (cY) (Dt (iE (aS 1)) (.nm 2) (cY) (Dt (iE (aS 2)) (.nm 3) (cY) (bM sizeLine (aS 3)))))])
def nN(AAc AAi AAe:bF):DS:=au (aK 3 (aG AAc [false,false] [.pk 0,.pk 1])) (au (cO (sI (bS (pC (λi j=>decide (i<=j)) (λi j=>decide (i<j)) (dC (.int 0)) (aS 2) (aG AAi [false,false,false] [.pk 3,.ev (ah bW []),.ev (dC (.int 0))])))) (oM "NoSuch") (dJ)) (au (aK 4 (ah bW [])) (au (aK 5 (aS 2)) (au (eB (iE (aG AAe [false] [.pk 3])) (.nm 6) (au (aK 7 (aG AAi [false,false,false] [.pk 3,.ev (ah dW [.pk 4,.ev (ah bW [.pk 6])]),.ev (ah dW [.pk 6,.ev (dC (.int 1))])])) (cO (bS (ah GW [.pk 5,.pk 7])) (eN (oU cV 4 [aS 6])) (v7 (·-·) 5 (aS 7))))) (gW 4)))))
def nA(AAe AAi:bF):DS:=au (aK 3 (aG AAe [false] [.pk 0])) (au (cO (bS (qc (ah l6 [.pk 1,.ev (ah Bc [.pk 1])]) (mK (ah wU [.ev (bJ [4] (iE (aS 1)) (.nm 4) (cY) (bM sizeLine (ah (iA false) [.pk 4,.pk 3])))])))) (bY (dC (.bool false))) (dJ)) (bY (ah gB [.ev (aG AAi [false,false,false] [.pk 0,.pk 1,.pk 2]),.ev (dC (.int 1))])))
def jh(AAc AAF AAe AAi:bF):DS:=au (aK 3 (aG AAc [false,false] [.pk 0,.pk 1])) (au (cO (sI (bS (aG AAF [false,false,false] [.pk 3,.pk 2,.ev (ah br [.pk 0,.ev (dC (.int 0))])]))) (oM "NotOne") (dJ)) (au (aK 4 (dC (.int 0))) (au (aK 5 (ah bW [])) (au (eB (iE (aG AAe [false] [.pk 3])) (.nm 6) (cO (bS (ah (iA false) [.pk 6,.pk 2])) (eN (oU cV 5 [aS 6])) (v7 (·+·) 4 (aG AAi [false,false,false] [.pk 3,.ev (ah dW [.pk 5,.ev (ah bW [.pk 6])]),.ev (ah dW [.pk 6,.ev (dC (.int 1))])])))) (gW 4)))))
end PB
namespace Dv
open PySem L2
def Dm(xs:Zw)(tg:Tg)(b:DS)(D:gw)(E1:En):Prop:=∃I:Nat->En->Prop,I 0 E1/\(∀i d E,xs[i]?=some d->I i E->∃E2,cT tg d E=some E2/\b { D with nx:=I (i+1) } E2)/\∀E,I xs.length E->D.nx E
def yz(cs:A03)(xs:Zw)(tg:Tg)(c:DT)(r:DC)(E1:En)(Q:A06):Prop:=∃(E0:En)(I:Nat->Zw->En->Prop),bE cs E1=some E0/\I 0 [] E0/\(∀i d ys E,xs[i]?=some d->I i ys E->∃E2,cT tg d E=some E2/\c xF E2 λE3 b=>if b=true then r xF ys E3 (I (i+1))else I (i+1) ys E3)/\∀ys E,I xs.length ys E->∃E2,bE cs E=some E2/\Q E2 (.ow false) (.list ys)
def Rf(most:Nat)(cs:A03)(xs:Zw)(tg:Tg)(c:DT)(e:DE)(E1:En)(Q:A06):Prop:=∃(E0:En)(I:Nat->Zw->En->Prop),bE cs E1=some E0/\I 0 [] E0/\(∀i d ys E,xs[i]?=some d->I i ys E->∃E2,cT tg d E=some E2/\c xF E2 λE3 b=>if b=true then e xF E3 (λE4 k v=>(∃p,k=.ow p)/\ys.length<most/\I (i+1) (ys++[v]) E4)else I (i+1) ys E3)/\∀ys E,I xs.length ys E->∃E2,bE cs E=some E2/\Q E2 (.dp false) (.list ys)
def OW(xs:Zw)(tg:Tg)(c:DT)(r:DC)(x:XC)(ys:Zw)(E1:En)(Q:Zw->En->Prop):Prop:=∃I:Nat->Zw->En->Prop,I 0 ys E1/\(∀i d ys E,xs[i]?=some d->I i ys E->∃E2,cT tg d E=some E2/\c x E2 λE3 b=>if b=true then r x ys E3 (I (i+1))else I (i+1) ys E3)/\∀ys E,I xs.length ys E->Q ys E
theorem dyr0:∀{it:DI}{tg:Tg}{b:DS}{D:gw}{o:A08}{E:En},eB it tg b D (o::E)=it D.xc (o::E) λE1 xs=>Dm xs tg b D E1:=rfl
theorem dyr1:∀{cs:A03}{it:DI}{tg:Tg}{c:DT}{r:DC}{x:XC}{o:A08}{E:En}{Q:A06},bJ cs it tg c r x (o::E) Q=it x (o::E) λE1 xs=>yz cs xs tg c r E1 Q:=rfl
theorem dyr2:∀{most:Nat}{cs:A03}{it:DI}{tg:Tg}{c:DT}{e:DE}{x:XC}{o:A08}{E:En}{Q:A06},oz most cs it tg c e x (o::E) Q=it x (o::E) λE1 xs=>Rf most cs xs tg c e E1 Q:=rfl
theorem dyr3:∀{it:DI}{tg:Tg}{c:DT}{r:DC}{x:XC}{ys:Zw}{o:A08}{E:En}{Q:Zw->En->Prop},Dt it tg c r x ys (o::E) Q=it x (o::E) λE1 xs=>OW xs tg c r x ys E1 Q:=rfl
def dy:
 (∀{it:DI}{tg:Tg}{b:DS}{D:gw}{o:A08}{E:En},eB it tg b D (o::E)=it D.xc (o::E) λE1 xs=>Dm xs tg b D E1) /\
 (∀{cs:A03}{it:DI}{tg:Tg}{c:DT}{r:DC}{x:XC}{o:A08}{E:En}{Q:A06},bJ cs it tg c r x (o::E) Q=it x (o::E) λE1 xs=>yz cs xs tg c r E1 Q) /\
 (∀{most:Nat}{cs:A03}{it:DI}{tg:Tg}{c:DT}{e:DE}{x:XC}{o:A08}{E:En}{Q:A06},oz most cs it tg c e x (o::E) Q=it x (o::E) λE1 xs=>Rf most cs xs tg c e E1 Q) /\
 (∀{it:DI}{tg:Tg}{c:DT}{r:DC}{x:XC}{ys:Zw}{o:A08}{E:En}{Q:Zw->En->Prop},Dt it tg c r x ys (o::E) Q=it x (o::E) λE1 xs=>OW xs tg c r x ys E1 Q):=⟨rfl,rfl,rfl,rfl⟩
def Mg{a b:DS}{D:gw}{E:En}(h:au a b D E):Em a b D E:=⟨b D,h,λ_ z=>z⟩
theorem wC{i:Nat}{z:A08}:∀{cs:A03}{E E0:En},i∉cs->bE cs (E.set i none)=some E0->bE cs (E.set i z)=some (E0.set i z)
 |[],E,E0,_,h=>by have h:E.set i none=E0:=Option.some.inj h;show some _=some _;rw[<-h,List.set_set]
 |c::cs,E,E0,n,h=>by
  have nc:i≠c:=λe=>n (e▸V1);have ns:i∉cs:=λm=>n (V5 _ m);have ho:∀y:A08,bN (E.set i y) c=bN E c:=λy=>by unfold bN;rw[XJ nc]
  unfold bE at h⊢;rw[ho]at h⊢;split at h;{rename_i hc;rw[if_pos hc];rw[List.set_comm _ _ nc]at h⊢;exact wC ns h};cases h
theorem A9:∀{cs:A03}{ds:Zw}{E E' E0:En},cs.Nodup->bE cs E=some E0->bE cs E'=some E0->b9 cs ds E=b9 cs ds E'
 |[],ds,E,E',E0,_,h,h'=>by have h:E=E0:=Option.some.inj h;have h':E'=E0:=Option.some.inj h';rw[h,h']
 |c::cs,[],E,E',E0,_,h,h'=>rfl
 |c::cs,d::ds,E,E',E0,nd,h,h'=>by have n1:=(Vi.mp nd).1;unfold bE at h h';unfold b9;split at h;{rename_i hc;split at h';{rename_i hc';rw[if_pos hc,if_pos hc'];exact A9 (Vi.mp nd).2 (wC n1 h) (wC n1 h')};cases h'};cases h
def C8{cs:A03}{ds:Zw}{E E' E0:En}(nd:kP cs=true)(h:bE cs E=some E0)(h':bE cs E'=some E0):b9 cs ds E=b9 cs ds E':=A9 (gX nd) h h'
def tK{tg:Tg}{cs:A03}{d:PyData}{E E' E0:En}(hs:tg.slots=cs)(nd:kP cs=true)(h:bE cs E=some E0)(h':bE cs E'=some E0):cT tg d E=cT tg d E':=by
 subst hs;cases tg with
 |nm i=>exact C8 nd h h'
 |tp is=>
  cases d with
  |tuple ds=>exact C8 nd h h'
  |_=>rfl
theorem lH:∀{cs:A03}{E E0:En},cs.Nodup->bE cs E=some E0->bE cs E0=some E0/\∀c∈cs,E0[c]?=some none
 |[],E,E0,_,h=>⟨rfl,λ_ z=>by cases z⟩
 |c::cs,E,E0,nd,h=>by
  have n1:=(Vi.mp nd).1;have n2:=(Vi.mp nd).2;unfold bE at h;split at h
  .rename_i hc;obtain⟨h1,h2⟩:=lH n2 h;have hlen:c<E.length:=by unfold bN at hc;rcases Vt c E.length with z|z;{exact z};rw[Vr z]at hc;cases hc
   have hcl:∀{cs:A03}{E E0:En},c∉cs->bE cs E=some E0->E0[c]?=E[c]?:=by
    intro cs;induction cs with
    |nil=>intro E E0 _ h;cases h;rfl
    |cons a cs ih=>intro E E0 n h;unfold bE at h;split at h;{rw[ih (λm=>n (V5 _ m)) h,XJ (λe=>n (by rw[e];exact V1))]};cases h
   have e0:E0[c]?=some none:=by rw[hcl n1 h,Xj hlen]
   refine⟨?_,λx hx=>?_⟩
   .unfold bE;rw[if_pos (by unfold bN;rw[e0])];have:E0.set c none=E0:=by
     refine Wl λj=>?_;by_cases e:c=j
     .subst e;have:c<E0.length:=by rcases Vt c E0.length with z|z;{exact z};rw[Vr z]at e0;cases e0
      rw[Xj this,e0]
     rw[XJ e]
    rw[this];exact h1
   cases hx with
   |head=>exact e0
   |tail _ m=>exact h2 x m
  cases h
def cX{α:Type}{l:List α}{i:Nat}{a:α}(ha:l[i]?=some a):i<l.length:=by rcases Vt i l.length with z|z;{exact z};rw[Vr z]at ha;cases ha
def take_snoc{α:Type}{l:List α}{i:Nat}{a:α}(ha:l[i]?=some a):l.take (i+1)=l.take i++[a]:=by rw[List.take_add_one,ha];rfl
def F9{α:Type}{l:List α}{enc:α->PyData}{cs:A03}{tg:Tg}{e:DE}{most:Nat}{E1 E0:En}{Q:A06}(g:α->PyData)(h0:bE cs E1=some E0)(h2:∀a,a∈l->∀I:En->PyData->Prop,(∀E4,bE cs E4=some E0->I E4 (g a))->∃E2,cT tg (enc a) E0=some E2/\e xF E2 (λE4 k v=>(∃p,k=.ow p)/\I E4 v))(h3:Q E0 (.dp false) (.list (l.map g)))(hl:l.length<=most)(hs:tg.slots=cs:=by rfl)(nd:kP cs=true:=by rfl):Rf most cs (l.map enc) tg cY e E1 Q:=by
 obtain⟨hc0,_⟩:=lH (gX nd) h0;refine⟨E0,λi ys E=>ys=(l.take i).map g/\bE cs E=some E0,h0,⟨rfl,hc0⟩,?_,?_⟩
 .rintro i d ys E hd⟨rfl,hE⟩;rw[VQ]at hd;obtain⟨a,ha,rfl⟩:=Wd.mp hd;have hi:=cX ha;obtain⟨E2,hE2,hb⟩:=h2 a (VZ ha) (λE4 v=>((l.take i).map g).length<most/\((l.take i).map g++[v]=(l.take (i+1)).map g/\bE cs E4=some E0)) (λE4 hE4=>by
   refine⟨?_,?_,hE4⟩
   .rw[V4,WK];lia
   .rw[take_snoc ha,VT];rfl)
  exact⟨E2,(tK hs nd hE hc0).trans hE2,hb⟩
 rintro ys E⟨rfl,hE⟩;rw[V4,W9];exact⟨E0,hE,h3⟩
def u7{α:Type}{l:List α}{enc:α->PyData}{tg:Tg}{b:DS}{D:gw}{E1:En}(I:Nat->En->Prop)(h0:I 0 E1)(hs:∀i a E,l[i]?=some a->I i E->∃E2,cT tg (enc a) E=some E2/\b { D with nx:=I (i+1) } E2)(he:∀E,I l.length E->D.nx E):Dm (l.map enc) tg b D E1:=by refine⟨I,h0,λi d E hd hi=>?_,by rw[V4];exact he⟩;rw[VQ]at hd;obtain⟨a,ha,rfl⟩:=Wd.mp hd;exact hs i a E ha hi
def LX{α:Type}{l:List α}{enc:α->PyData}{cs:A03}{tg:Tg}{c:DT}{r:DC}{E1:En}{Q:A06}(E0:En)(I:Nat->Zw->En->Prop)(h0:bE cs E1=some E0)(h1:I 0 [] E0)(hs:∀i a ys E,l[i]?=some a->I i ys E->∃E2,cT tg (enc a) E=some E2/\c xF E2 λE3 b=>if b=true then r xF ys E3 (I (i+1))else I (i+1) ys E3)(he:∀ys E,I l.length ys E->∃E2,bE cs E=some E2/\Q E2 (.ow false) (.list ys)):yz cs (l.map enc) tg c r E1 Q:=by refine⟨E0,I,h0,h1,λi d ys E hd hi=>?_,by rw[V4];exact he⟩;rw[VQ]at hd;obtain⟨a,ha,rfl⟩:=Wd.mp hd;exact hs i a ys E ha hi
def ID{n i k:Nat}(h:(List.range n)[i]?=some k):i<n/\k=i:=by have hi:=cX h;rw[VI]at hi;rw[W7 hi]at h;cases h;exact⟨hi,rfl⟩
def Qd{n:Nat}{enc:Nat->PyData}{tg:Tg}{b:DS}{D:gw}{E1:En}(I:Nat->En->Prop)(h0:I 0 E1)(hs:∀i E,i<n->I i E->∃E2,cT tg (enc i) E=some E2/\b { D with nx:=I (i+1) } E2)(he:∀E,I n E->D.nx E):Dm ((List.range n).map enc) tg b D E1:=
 u7 I h0 (λi a E ha hi=>by obtain⟨l,rfl⟩:=ID ha;exact hs a E l hi) (by rw[VI];exact he)
def wm{α:Type}{l:List α}{enc:α->PyData}{cs:A03}{tg:Tg}{e:DE}{most:Nat}{E1 E0:En}{Q:A06}(S:A0B)(g:α->PyData)(h0:bE cs E1=some E0)(hS:S E0)(h2:∀a,a∈l->∀E0',S E0'->∀I:En->PyData->Prop,(∀E4 E5,bE cs E4=some E5->S E5->I E4 (g a))->∃E2,cT tg (enc a) E0'=some E2/\e xF E2 (λE4 k v=>k.fz=true/\I E4 v))(h3:∀E0',S E0'->Q E0' (.ow false) (.list (l.map g)))(hl:l.length<=most)(hs:tg.slots=cs:=by rfl)(nd:kP cs=true:=by rfl):yz cs (l.map enc) tg cY (bM most e) E1 Q:=by
 obtain⟨hc0,_⟩:=lH (gX nd) h0;refine⟨E0,λi ys E=>ys=(l.take i).map g/\∃E5,bE cs E=some E5/\S E5,h0,⟨rfl,E0,hc0,hS⟩,?_,?_⟩
 .rintro i d ys E hd⟨rfl,E5,hE,hS5⟩;rw[VQ]at hd;obtain⟨a,ha,rfl⟩:=Wd.mp hd;have hi:=cX ha;obtain⟨hc5,_⟩:=lH (gX nd) hE;obtain⟨E2,hE2,hb⟩:=h2 a (VZ ha) E5 hS5 (λE4 v=>((l.take i).map g).length<most/\((l.take i).map g++[v]=(l.take (i+1)).map g/\∃E5,bE cs E4=some E5/\S E5)) (λE4 E6 hE4 hS6=>by
   refine⟨?_,?_,E6,hE4,hS6⟩
   .rw[V4,WK];lia
   .rw[take_snoc ha,VT];rfl)
  exact⟨E2,(tK hs nd hE hc5).trans hE2,hb⟩
 rintro ys E⟨rfl,E5,hE,hS5⟩;rw[V4,W9];exact⟨E5,hE,h3 E5 hS5⟩
def ML{α:Type}{l:List α}{enc:α->PyData}{cs:A03}{tg:Tg}{c:DT}{e:DE}{most:Nat}{E1 E0:En}{Q:A06}(S:A0B)(g:α->Option PyData)(h0:bE cs E1=some E0)(hS:S E0)(h2:∀a,a∈l->∀E0',S E0'->∀I:En->Option PyData->Prop,(∀E4 E5,bE cs E4=some E5->S E5->I E4 (g a))->∃E2,cT tg (enc a) E0'=some E2/\c xF E2 λE3 b=>if b=true then e xF E3 (λE4 k v=>k.fz=true/\I E4 (some v))else I E3 none)(h3:∀E0',S E0'->Q E0' (.ow false) (.list (l.filterMap g)))(hl:l.length<=most)(hs:tg.slots=cs:=by rfl)(nd:kP cs=true:=by rfl):yz cs (l.map enc) tg c (bM most e) E1 Q:=by
 obtain⟨hc0,_⟩:=lH (gX nd) h0;refine⟨E0,λi ys E=>ys=(l.take i).filterMap g/\∃E5,bE cs E=some E5/\S E5,h0,⟨rfl,E0,hc0,hS⟩,?_,?_⟩
 .rintro i d ys E hd⟨rfl,E5,hE,hS5⟩;rw[VQ]at hd;obtain⟨a,ha,rfl⟩:=Wd.mp hd;have hi:=cX ha;obtain⟨hc5,_⟩:=lH (gX nd) hE;have hlen:((l.take i).filterMap g).length<most:=by have:=List.length_filterMap_le g (l.take i);rw[WK]at this;lia
  obtain⟨E2,hE2,hb⟩:=h2 a (VZ ha) E5 hS5 (λE4 o=>match o with
   |some v=>((l.take i).filterMap g).length<most/\((l.take i).filterMap g++[v]=(l.take (i+1)).filterMap g/\∃E5,bE cs E4=some E5/\S E5)
   |none=>(l.take i).filterMap g=(l.take (i+1)).filterMap g/\∃E5,bE cs E4=some E5/\S E5) (λE4 E6 hE4 hS6=>by
   cases hg:g a with
   |none=>
    refine⟨?_,E6,hE4,hS6⟩;rw[take_snoc ha,YA,Vy,hg];exact(Vm _).symm
   |some v=>
    refine⟨hlen,?_,E6,hE4,hS6⟩;rw[take_snoc ha,YA,Vy,hg];rfl)
  exact⟨E2,(tK hs nd hE hc5).trans hE2,hb⟩
 rintro ys E⟨rfl,E5,hE,hS5⟩;rw[V4,W9];exact⟨E5,hE,h3 E5 hS5⟩
def eY{α:Type}{l:List α}{enc:α->PyData}{cs:A03}{tg:Tg}{e:DE}{most:Nat}{E1 E0:En}{Q:A06}(g:α->PyData)(h0:bE cs E1=some E0)(h2:∀a,a∈l->∀I:En->PyData->Prop,(∀E4,bE cs E4=some E0->I E4 (g a))->∃E2,cT tg (enc a) E0=some E2/\e xF E2 (λE4 k v=>k.fz=true/\I E4 v))(h3:Q E0 (.ow false) (.list (l.map g)))(hl:l.length<=most)(hs:tg.slots=cs:=by rfl)(nd:kP cs=true:=by rfl):yz cs (l.map enc) tg cY (bM most e) E1 Q:=
 wm (·=E0) g h0 rfl (λa ha E0' e I hI=>by subst e;exact h2 a ha I λE4 h=>hI E4 _ h rfl) (λE0' e=>by subst e;exact h3) hl hs nd
def kr{α:Type}{l:List α}{enc:α->PyData}{cs:A03}{tg:Tg}{c:DT}{e:DE}{most:Nat}{E1 E0:En}{Q:A06}(g:α->Option PyData)(h0:bE cs E1=some E0)(h2:∀a,a∈l->∀I:En->Option PyData->Prop,(∀E4,bE cs E4=some E0->I E4 (g a))->∃E2,cT tg (enc a) E0=some E2/\c xF E2 λE3 b=>if b=true then e xF E3 (λE4 k v=>k.fz=true/\I E4 (some v))else I E3 none)(h3:Q E0 (.ow false) (.list (l.filterMap g)))(hl:l.length<=most)(hs:tg.slots=cs:=by rfl)(nd:kP cs=true:=by rfl):yz cs (l.map enc) tg c (bM most e) E1 Q:=
 ML (·=E0) g h0 rfl (λa ha E0' e I hI=>by subst e;exact h2 a ha I λE4 h=>hI E4 _ h rfl) (λE0' e=>by subst e;exact h3) hl hs nd
abbrev iD(n:Nat):PyData:=.int (n:Int)
abbrev nD(l:A03):PyData:=.list (l.map iD)
abbrev gz(e:Nat×Nat):PyData:=.tuple [iD e.1,iD e.2]
abbrev wD(m:Nat)(es:Zr):PyData:=.tuple [iD m,.tuple (es.map gz)]
def P7{n:Nat}:k8 0 n=(List.range n).map iD:=by unfold k8;refine W3 λi _=>?_;rw[Int.zero_add]
def Qt{n:Nat}:k8 1 n=(List.range n).map λi=>iD (i+1):=by unfold k8;refine W3 λi _=>?_;show PyData.int _=PyData.int _;congr 1;lia
def Ii{xs:Zw}{i:Nat}:eZ xs (i:Int)=xs[i]?:=by unfold eZ oA;rw[if_pos (by lia)];split;{exact rfl};rw[Vr (by lia)];rfl
def GB{n i:Nat}(h:i<n):lO n (i:Int)=some i:=by unfold lO;rw[if_pos (by lia),if_pos (by lia)];rfl
def M3{n i:Nat}{Q:Nat->Prop}(h:i<n)(q:Q i):aH (lO n (i:Int)) Q:=by rw[GB h];exact q
def zg{α β:Type}{o:Option α}{f:α->β}{Q:β->Prop}:aH (o.map f) Q=aH o λa=>Q (f a):=by cases o<;>rfl
def rj{α:Type}{l:List α}{f:α->PyData}{i:Nat}{Q:PyData->Prop}:aH (eZ (l.map f) (i:Int)) Q=aH l[i]? λa=>Q (f a):=by rw[Ii,VQ,zg]
def Gd{α:Type}{l:List α}{f:α->PyData}{a:Nat}:cutD (l.map f) (some (a:Int)) none=(l.drop a).map f:=by unfold cutD;have e1:HT.aU (l.map f).length 0 (some (a:Int))=min a (l.map f).length:=HT.sd _ _ a;have e2:HT.aU (l.map f).length (l.map f).length none=(l.map f).length:=rfl;rw[e1,e2,V4,<-List.map_drop,<-List.map_take];congr 1;rw[YJ (by rw[Xo];lia)];rcases Y3 a l.length with h|h;{rw[Xd h]};rw[Xe h,Yv,List.drop_of_length_le h]
def Bt{α:Type}{l:List α}{f:α->PyData}{b:Nat}:cutD (l.map f) none (some (b:Int))=(l.take b).map f:=by unfold cutD;have e1:HT.aU (l.map f).length (l.map f).length (some (b:Int))=min b (l.map f).length:=HT.sd _ _ b;have e2:HT.aU (l.map f).length 0 none=0:=rfl;rw[e1,e2,V4,List.drop_zero,Yr,<-List.map_take];congr 1;rcases Y3 b l.length with h|h;{rw[Xd h]};rw[Xe h,W9,YJ h]
def AV{α:Type}{l:List α}{f:α->PyData}{a b:Nat}:cutD (l.map f) (some (a:Int)) (some (b:Int))=((l.take b).drop a).map f:=by unfold cutD;have e1:HT.aU (l.map f).length 0 (some (a:Int))=min a (l.map f).length:=HT.sd _ _ a;have e2:HT.aU (l.map f).length (l.map f).length (some (b:Int))=min b (l.map f).length:=HT.sd _ _ b;rw[e1,e2,V4,<-List.map_drop,<-List.map_take];congr 1;rw[List.drop_take];rcases Y3 a l.length with h|h;{rw[Xd h];rcases Y3 b l.length with g|g;{rw[Xd g]};rw[Xe g,YJ (by rw[Xo];lia),YJ (by rw[Xo];lia)]};rw[Xe h,Yv,List.drop_of_length_le h,List.take_nil,List.take_nil]
def tN{α:Type}{l:List α}{f:α->PyData}:j8 (l.map f)=l.zipIdx.map λp=>.tuple [iD p.2,f p.1]:=by unfold j8;rw[List.zipIdx_map,VR];rfl
theorem zip_map{α β:Type}{l:List α}{m:List β}{f:α->PyData}{g:β->PyData}:((l.map f).zip (m.map g)).map (λp=>PyData.tuple [p.1,p.2])=(l.zip m).map λp=>.tuple [f p.1,g p.2]:=by rw[List.zip_map,VR];rfl
def Ca{α:Type}{l:List α}{f:α->PyData}{Q:PyData->Prop}:aH (eZ (l.map f) 0) Q=aH l[0]? λa=>Q (f a):=rj (i:=0)
def C4{α:Type}{l:List α}{f:α->PyData}{Q:PyData->Prop}:aH (eZ (l.map f) 1) Q=aH l[1]? λa=>Q (f a):=rj (i:=1)
def cR{α:Type}{o:Option α}{a:α}{Q:α->Prop}(h:o=some a)(q:Q a):aH o Q:=by rw[h];exact q
def AY{a b:Nat}:(a:Int)%(b:Int)=((a%b:Nat):Int):=(Int.natCast_emod a b).symm
def Av{a b:Nat}:(a:Int)/(b:Int)=((a/b:Nat):Int):=(Int.natCast_ediv a b).symm
def CP{a b:Nat}:((a:Int)<(b:Int))=(a<b):=propext Xi
def Ce{a b:Nat}:((a:Int)<=(b:Int))=(a<=b):=propext Int.ofNat_le
def cast_eq{a b:Nat}:((a:Int)=(b:Int))=(a=b):=propext Int.ofNat_inj
def cast_pos{a:Nat}:((0:Int)<(a:Int))=(0<a):=propext Int.natCast_pos
def LY{a b:Nat}:(if b<a then(b:Int)else(a:Int))=((min a b:Nat):Int):=by split<;>lia
def Ln{a b:Nat}:(if a<b then(b:Int)else(a:Int))=((max a b:Nat):Int):=by split<;>lia
def Lk{a b:Nat}:(if b>a then(b:Int)else(a:Int))=((max a b:Nat):Int):=by split<;>lia
def vA{ds:Zw}:lf (.tuple ds)=ds.all lf:=w9 ds
def Ds{p:Bool}{ds:Zw}:flat (.ow p) (.list ds)=ds.all lf:=rfl
def tL{α β:Type}{l:List α}{f:α->β}{p:β->Bool}:(l.map f).all p=l.all λa=>p (f a):=by rw[XD];rfl
def Fq{α:Type}{l:List α}:(l.all λ_=>true)=true:=by rw[VN];exact λ_ _=>rfl
def Ec{n:Nat}:lf (iD n)=true:=rfl
def Bg{e:Nat×Nat}:lf (gz e)=true:=rfl
def LR{m:Nat}{es:Zr}:lf (wD m es)=true:=by rw[vA];show(lf (iD m)&&(lf (.tuple (es.map gz))&&true))=true;rw[vA,tL];simp[Ec,Bg]
def Tf:type_of%@vA/\type_of%@Ds/\type_of%@tL/\type_of%@Fq/\type_of%@Ec/\type_of%@Bg/\type_of%@LR/\(decide True=true)/\(∀{ds:Zw},lf (.list ds)=false)/\(∀{α:Type}{l m:List α}{p:α->Bool},(l++m).all p=(l.all p&&m.all p)):=⟨@vA,@Ds,@tL,@Fq,@Ec,@Bg,@LR,rfl,rfl,(by intros;exact List.all_append)⟩
def dz:(type_of%Tf)/\type_of%@P7/\type_of%@Qt/\type_of%@rj/\type_of%@Ca/\type_of%@C4/\type_of%@zg/\type_of%@Gd/\type_of%@Bt/\type_of%@AV/\type_of%@tN/\type_of%@zip_map/\type_of%@AY/\type_of%@Av/\type_of%@CP/\type_of%@Ce/\type_of%@cast_eq/\type_of%@cast_pos/\type_of%@bw/\type_of%@LY/\type_of%@Ln/\type_of%@Lk /\
 (∀{α β:Type}{f:α->β}{l:List α},(l.map f).length=l.length)/\(∀{n:Nat},(List.range n).length=n)/\(∀{n:Nat},(n:Int).toNat=n):=
 ⟨Tf,@P7,@Qt,@rj,@Ca,@C4,@zg,@Gd,@Bt,@AV,@tN,@zip_map,@AY,@Av,@CP,@Ce,@cast_eq,@cast_pos,@bw,@LY,@Ln,@Lk,(by intros;exact V4 ..),(by intros;exact VI),(by intros;exact YW _)⟩
def sU{α β:Type}(f:α->β){l:List α}:∀{m:List β},m.Perm (l.map f)->∃l':List α,l'.Perm l/\m=l'.map f:=by
 have:∀{a b:List β},a.Perm b->∀l:List α,b=l.map f->∃l':List α,l'.Perm l/\a=l'.map f:=by
  intro a b h;induction h with
  |nil=>intro l e;exact⟨l,.refl _,e⟩
  |cons x _ ih=>
   intro l e;cases l with
   |nil=>cases e
   |cons y l=>rw[VH,YK]at e;obtain⟨l',p,e'⟩:=ih l e.2;exact⟨y::l',p.cons _,by rw[e.1,e',VH]⟩
  |swap x y z=>
   intro l e
   match l,e with
   |[],e=>cases e
   |[_],e=>rw[VH,YK]at e;cases e.2
   |u::v::l,e=>rw[VH,VH,YK,YK]at e;exact⟨v::u::l,List.Perm.swap _ _ _,by rw[VH,VH,e.1,e.2.1,e.2.2]⟩
  |trans _ _ ih1 ih2=>intro l e;obtain⟨l1,p1,e1⟩:=ih2 l e;obtain⟨l2,p2,e2⟩:=ih1 l1 e1;exact⟨l2,p2.trans p1,e2⟩
 intro m h;exact this h l rfl
def wJ{ns:A03}{P:A09}(h:ns.length<64)(q:∀ms:A03,ms.Perm ns->ms.Pairwise (·<=·)->P (.ow false) (nD ms)):lX [nD ns] P:=by refine⟨ns.map (λn:Nat=>(n:Int)),by rw[VR];rfl,by rw[V4];exact h,λms p s=>?_⟩;obtain⟨l,hl,rfl⟩:=sU _ p;rw[Wh]at s;have:=q l hl (List.Pairwise.imp (S:=(·<=·)) (λ{a b} h=>by lia) s);rw[VR];exact this
def M8{ps:Zr}{P:A09}(h:ps.length<=63)(q:∀qs:Zr,qs.Perm ps->P (.ow false) (.list (qs.map gz))):vI [.list (ps.map gz)] P:=by refine⟨ps.map (λe:Nat×Nat=>((e.1:Int),(e.2:Int))),by rw[VR];rfl,by rw[V4];exact h,λms p=>?_⟩;obtain⟨l,hl,rfl⟩:=sU _ p;have:=q l hl;rw[VR];exact this
theorem Lr:∀{ns:A03},(ns.map (λn:Nat=>(n:Int))).sum=((ns.sum:Nat):Int)
 |[]=>rfl
 |n::ns=>by rw[VH,Vu,Vu,Lr,Int.natCast_add]
def QH{ns:A03}{P:A09}(q:P .sh (iD ns.sum)):DH [nD ns] P:=⟨ns.map (λn:Nat=>(n:Int)),by rw[VR];rfl,by rw[Lr];exact q⟩
def Ot{bs:A00}{P:A09}(q:P .sh (.bool (bs.any id))):ER [.list (bs.map .bool)] P:=⟨bs,rfl,q⟩
def Ad{bs:A00}{P:A09}(q:P .sh (.bool (bs.all id))):wU [.list (bs.map .bool)] P:=⟨bs,rfl,q⟩
def vR{a b:Nat}:iD a=iD b↔a=b:=⟨λh=>by cases h;rfl,λh=>by rw[h]⟩
theorem map_inj{α β:Type}{f:α->β}(h:∀a b,f a=f b->a=b):∀{l m:List α},l.map f=m.map f->l=m
 |[],[],_=>rfl
 |[],_::_,e=>by cases e
 |_::_,[],e=>by cases e
 |a::l,b::m,e=>by rw[VH,VH,YK]at e;rw[h _ _ e.1,map_inj h e.2]
def QC{a b:A03}:nD a=nD b↔a=b:=⟨λh=>map_inj (λ_ _=>vR.mp) (PyData.list.inj h),λh=>by rw[h]⟩
end Dv
namespace Gr
inductive R(E:Nat->Nat->Prop) (p:Nat):Nat->Nat->Prop
 |zero:R E p 0 p
 |step {d x y:Nat}:R E p d x->E x y->R E p (d+1) y
def oZ(E:Nat->Nat->Prop) (p x d:Nat):Prop:=R E p d x/\∀e,e<d->¬R E p e x
section
variable{E:Nat->Nat->Prop}{p:Nat}
def oZ.eq{x d e:Nat}(h:oZ E p x d)(g:oZ E p x e):d=e:=by rcases XT d e with l|l|l;{exact absurd h.1 (g.2 d l)};{exact l};exact absurd g.1 (h.2 e l)
theorem IP:∀(n:Nat){x d:Nat},d<=n->R E p d x->∃e,e<=d/\oZ E p x e
 |0,x,d,l,h=>by
  obtain rfl:d=0:=by lia
  exact⟨0,V3 _,h,λe he=>absurd he (WH e)⟩
 |n+1,x,d,l,h=>by by_cases c:∃e,e<d/\R E p e x;{obtain⟨e,he,hr⟩:=c;obtain⟨e',h1,h2⟩:=IP n (show e<=n by lia) hr;exact⟨e',by lia,h2⟩};exact⟨d,V3 _,h,λe he hr=>c ⟨e,he,hr⟩⟩
open Classical in
def dst(E:Nat->Nat->Prop) (p x:Nat):Nat:=if h:∃d,oZ E p x d then Classical.choose h else 0
def vE{x d:Nat}(h:oZ E p x d):dst E p x=d:=by have h':∃d,oZ E p x d:=⟨d,h⟩;unfold dst;rw[dif_pos h'];exact(Classical.choose_spec h').eq h
def Q7{x d:Nat}(h:R E p d x):oZ E p x (dst E p x):=by obtain⟨e,_,g⟩:=IP d (V3 _) h;rw[vE g];exact g
def R.trans{q:Nat}{d e x:Nat}(h:R E p d q)(g:R E q e x):R E p (d+e) x:=by
 induction g with
 |zero=>exact h
 |step _ s ih=>exact ih.step s
def R.head{q d x:Nat}(h:E p q)(g:R E q d x):R E p (1+d) x:=R.trans (R.step .zero h) g
def R.symm(sy:∀x y,E x y->E y x){d x:Nat}(h:R E p d x):R E x d p:=by
 induction h with
 |zero=>exact .zero
 |step _ s ih=>have:=R.head (sy _ _ s) ih;rwa[Nat.add_comm]at this
structure qd(E:Nat->Nat->Prop) (p r:Nat)(f:Nat->Option Nat)(eu:A03):Prop where
 sound:∀x d,f x=some d->oZ E p x d
 upto:∀x d,d<=r->R E p d x->∃e,f x=some e
 low:∀x d,f x=some d->d<=r
 eu:∀x,x∈eu↔f x=some r
structure iM(E:Nat->Nat->Prop) (r:Nat)(f:Nat->Option Nat)(eu:A03)(g:Nat->Option Nat)(reached:A03):Prop where
 ext:∀x d,f x=some d->g x=some d
 new:∀x d,g x=some d->f x=some d\/(f x=none/\d=r+1/\∃h,h∈eu/\E h x)
 got:∀x,x∈reached↔(f x=none/\g x=some (r+1))
def qd.start:qd E p 0 (λx=>if x=p then some 0 else none) [p]:=by
 refine⟨λx d h=>?_,λx d l h=>?_,λx d h=>?_,λx=>?_⟩;{by_cases c:x=p;{rw[if_pos c]at h;cases h;rw[c];exact⟨.zero,λe he=>absurd he (WH e)⟩};rw[if_neg c]at h;cases h}
 .obtain rfl:d=0:=by lia
  cases h;exact⟨0,if_pos rfl⟩
 .by_cases c:x=p;{rw[if_pos c]at h;cases h;exact V3 _};rw[if_neg c]at h;cases h
 rw[VB];constructor;{intro e;exact if_pos e};intro h;by_cases c:x=p;{exact c};rw[if_neg c]at h;cases h
def iM.start{r:Nat}{f:Nat->Option Nat}:iM E r f eu f []:=by refine⟨λx d h=>h,λx d h=>.inl h,λx=>?_⟩;constructor;{intro h;cases h};rintro⟨h1,h2⟩;rw[h1]at h2;cases h2
def iM.put{r:Nat}{f g:Nat->Option Nat}{h y:Nat}(B:iM E r f eu g reached)(he:h∈eu)(hy:E h y)(n:g y=none):iM E r f eu (λx=>if x=y then some (r+1)else g x) (reached++[y]):=by
 have fy:f y=none:=by
  cases e:f y with
  |none=>rfl
  |some d=>rw[B.ext y d e]at n;cases n
 refine⟨λx d e=>?_,λx d e=>?_,λx=>?_⟩;{by_cases c:x=y;{rw[c,fy]at e;cases e};show(if x=y then _ else _)=_;rw[if_neg c];exact B.ext x d e};{by_cases c:x=y;{rw[if_pos c]at e;cases e;rw[c];exact .inr ⟨fy,rfl,h,he,hy⟩};rw[if_neg c]at e;exact B.new x d e};rw[V8,VB,B.got x];constructor;{rintro (⟨h1,h2⟩|rfl);{refine⟨h1,?_⟩;by_cases c:x=y;{exact if_pos c};show(if x=y then _ else _)=_;rw[if_neg c];exact h2};exact⟨fy,if_pos rfl⟩};rintro⟨h1,h2⟩;by_cases c:x=y;{exact .inr c};rw[if_neg c]at h2;exact .inl ⟨h1,h2⟩
theorem iM.none{r:Nat}{f g:Nat->Option Nat}(B:iM E r f eu g reached){x:Nat}(h:g x=.none):f x=.none:=by
 cases e:f x with
 |none=>rfl
 |some d=>rw[B.ext x d e]at h;cases h
def iM.at{r:Nat}{f g:Nat->Option Nat}(B:iM E r f eu g reached)(A:qd E p r f eu){h:Nat}(he:h∈eu):g h=some r:=B.ext h r ((A.eu h).mp he)
def qd.next{r:Nat}{f g:Nat->Option Nat}{eu reached:A03}(A:qd E p r f eu)(B:iM E r f eu g reached)(all:∀h,h∈eu->∀x,E h x->g x≠none):qd E p (r+1) g reached:=by
 refine⟨λx d e=>?_,λx d l h=>?_,λx d e=>?_,λx=>?_⟩;{rcases B.new x d e with h|⟨h1,rfl,h,he,hx⟩;{exact A.sound x d h};have rh:=(A.sound h r ((A.eu h).mp he)).1;refine⟨rh.step hx,λe he hr=>?_⟩;obtain⟨d,hd⟩:=A.upto x e (by lia) hr;rw[h1]at hd;cases hd}
 .by_cases c:d<=r;{obtain⟨e,he⟩:=A.upto x d c h;exact⟨e,B.ext x e he⟩};obtain rfl:d=r+1:=by lia
  cases h with
  |@step _ y _ hy hyx=>
   obtain⟨e,he⟩:=A.upto y r (V3 _) hy;have el:=A.low y e he;by_cases ce:e=r
   .have:=all y ((A.eu y).mpr (ce▸he)) x hyx;cases e':g x with
    |none=>exact absurd e' this
    |some d=>exact⟨d,rfl⟩
   obtain⟨e',he'⟩:=A.upto x (e+1) (by lia) ((A.sound y e he).1.step hyx);exact⟨e',B.ext x e' he'⟩
 .rcases B.new x d e with h|⟨_,rfl,_⟩;{have:=A.low x d h;lia};exact V3 _
 rw[B.got x];constructor;{exact λh=>h.2};intro h;refine⟨?_,h⟩;rcases B.new x (r+1) h with h'|⟨h',_⟩;{have:=A.low x _ h';lia};exact h'
def qd.done{r:Nat}{f:Nat->Option Nat}(A:qd E p r f []):∀{d x:Nat},R E p d x->∃e,f x=some e:=by
 intro d x h;induction h with
 |zero=>exact A.upto p 0 (VW _) .zero
 |@step d x y _ hxy ih=>
  obtain⟨e,he⟩:=ih;have el:=A.low x e he;have ne:e≠r:=λc=>by have:=(A.eu x).mpr (c▸he);cases this
  exact A.upto y (e+1) (by lia) ((A.sound x e he).1.step hxy)
def qd.val{r:Nat}{f:Nat->Option Nat}(A:qd E p r f []){x d:Nat}(h:R E p d x):f x=some (dst E p x):=by obtain⟨e,he⟩:=A.done h;rw[he,vE (A.sound x e he)]
end
def cnt(f:Nat->Option Nat):Nat->Nat
 |0=>0
 |m+1=>cnt f m+(if f m=none then 1 else 0)
theorem Bf{f g:Nat->Option Nat}(h:∀x,g x=none->f x=none):∀m,cnt g m<=cnt f m
 |0=>V3 _
 |m+1=>by have:=Bf h m;unfold cnt;by_cases c:g m=none;{rw[if_pos c,if_pos (h m c)];lia};rw[if_neg c];lia
theorem FW{f g:Nat->Option Nat}(h:∀x,g x=none->f x=none){y:Nat}(fy:f y=none)(gy:g y≠none):∀m,y<m->cnt g m<cnt f m
 |0,l=>absurd l (WH _)
 |m+1,l=>by unfold cnt;by_cases c:y=m;{have:=Bf h m;rw[<-c,if_neg gy,if_pos fy,c];lia};have:=FW h fy gy m (by lia);by_cases c:g m=none;{rw[if_pos c,if_pos (h m c)];lia};rw[if_neg c];lia
def aB(es:Zr) (x y:Nat):Prop:=(x,y)∈es\/(y,x)∈es
def cI(x y:Nat)(h:aB es x y):aB es y x:=h.elim .inr .inl
def dI(m:Nat)(es:Zr):Prop:=∀p,p<m->∀x,x<m->∃d,R (aB es) p d x
def Nn{m:Nat}(h:∀k,0<k->k<m->∃p,p<k/\(p,k)∈es):dI m es:=by
 have z:∀n x,x<n->x<m->∃d,R (aB es) x d 0:=by
  intro n;induction n with
  |zero=>exact λx h _=>absurd h (WH _)
  |succ n ih=>intro x hx hm;by_cases c:x=0;{rw[c];exact⟨0,.zero⟩};obtain⟨q,hq,he⟩:=h x (by lia) hm;obtain⟨d,hd⟩:=ih q (by lia) (by lia);exact⟨1+d,R.head (.inr he) hd⟩
 intro p hp x hx;obtain⟨d,hd⟩:=z (p+1) p (by lia) hp;obtain⟨e,he⟩:=z (x+1) x (by lia) hx;exact⟨d+e,hd.trans (he.symm cI)⟩
def Aw{m:Nat}{nm:Nat->Nat}(h:dI m es)(onto:∀x,x<m->∃a,a<m/\nm a=x)(e:∀a b,(a,b)∈es->aB fs (nm a) (nm b)):dI m fs:=by
 intro p hp x hx;obtain⟨a,ha,rfl⟩:=onto p hp;obtain⟨b,hb,rfl⟩:=onto x hx;obtain⟨d,hd⟩:=h a ha b hb;have go:∀{d b:Nat},R (aB es) a d b->R (aB fs) (nm a) d (nm b):=by
  intro d b hd;induction hd with
  |zero=>exact .zero
  |step _ s ih=>refine R.step ih ?_;rcases s with s|s;{exact e _ _ s};exact cI _ _ (e _ _ s)
 exact⟨d,go hd⟩
theorem dm:∀(m:Nat)(l:A03),l.Nodup->(∀x∈l,x<m)->l.length<=m
 |0,[],_,_=>V3 _
 |0,x::_,_,h=>absurd (h x (V1 ..)) (WH _)
 |m+1,l,nd,h=>by
  have h1:(l.erase m).length<=m:=dm m (l.erase m) (nd.sublist (List.erase_sublist ..)) λx hx=>by have:=(nd.mem_erase_iff.mp hx);have:=h x this.2;lia
  have h2:l.length<=(l.erase m).length+1:=by rw[List.length_erase];split<;>lia
  lia
def nb(x:Nat)(e:Nat×Nat):Option Nat:=if e.1=x then some e.2 else if e.2=x then some e.1 else none
def bQ(es:Zr) (x:Nat):A03:=es.filterMap (nb x)
def xu{x y:Nat}(h:nb x e=some y):e=(x,y)\/e=(y,x):=by obtain⟨a,b⟩:=e;unfold nb at h;by_cases c:a=x;{rw[if_pos c]at h;cases h;rw[c];exact .inl rfl};rw[if_neg c]at h;by_cases c2:b=x;{rw[if_pos c2]at h;cases h;rw[c2];exact .inr rfl};rw[if_neg c2]at h;cases h
def bD{x y:Nat}:y∈bQ es x↔aB es x y:=by unfold bQ;rw[YS];constructor;{rintro⟨e,he,h⟩;rcases xu h with rfl|rfl;{exact .inl he};exact .inr he};rintro (h|h);{exact⟨_,h,if_pos rfl⟩};refine⟨_,h,?_⟩;show(if y=x then some x else if x=x then some y else none)=some y;by_cases c:y=x;{rw[if_pos c,c]};rw[if_neg c,if_pos rfl]
def Cg{x:Nat}:bQ (es++fs) x=bQ es x++bQ fs x:=YA ..
structure Good(m:Nat)(es:Zr):Prop where
 lt:∀e∈es,e.1<e.2/\e.2<m
 nd:es.Nodup
def Good.bT{m:Nat}(g:Good m es){x y:Nat}(h:aB es x y):x<m/\y<m:=by rcases h with h|h;{have:x<y/\y<m:=g.lt _ h;lia};have:y<x/\x<m:=g.lt _ h;lia
def Good.fN{m:Nat}(g:Good m es) (x:Nat):(bQ es x).Nodup:=by unfold bQ List.Nodup;rw[List.pairwise_filterMap];refine Xf ?_ g.nd;intro a b ha hb ne y hy z hz e;subst e;rcases xu hy with rfl|rfl<;>rcases xu hz with rfl|rfl;{exact ne rfl};{have h1:x<y/\y<m:=g.lt _ ha;have h2:y<x/\x<m:=g.lt _ hb;lia};{have h1:y<x/\x<m:=g.lt _ ha;have h2:x<y/\y<m:=g.lt _ hb;lia};exact ne rfl
def Good.jD{m:Nat}(g:Good m es) (x:Nat):(bQ es x).length<=m:=dm m _ (g.fN x) λy hy=>(g.bT (bD.mp hy)).2
def Good.perm{m:Nat}(p:fs.Perm es)(g:Good m es):Good m fs:=⟨λe h=>g.lt e (p.mem_iff.mp h),p.nodup_iff.mpr g.nd⟩
def GX{m:Nat}(p:fs.Perm es)(h:dI m es):dI m fs:=Aw (nm:=id) h (λx hx=>⟨x,hx,rfl⟩) λa b h=>.inl (p.mem_iff.mpr h)
def yo(ms:A03)(e:Nat×Nat):Nat×Nat:=(min (ms.getD e.1 0) (ms.getD e.2 0),max (ms.getD e.1 0) (ms.getD e.2 0))
def getD_inj{ms:A03}(nd:ms.Nodup){a b:Nat}(ha:a<ms.length)(hb:b<ms.length)(e:ms.getD a 0=ms.getD b 0):a=b:=by rw[Vk,Vk,VX ha,VX hb]at e;have e':ms[a]=ms[b]:=e;rcases XT a b with l|l|l;{exact absurd e' (XX.mp nd a b ha hb l)};{exact l};exact absurd e'.symm (XX.mp nd b a hb ha l)
def EM{m:Nat}{ps:Zr}{ms:A03}(pm:ms.Perm (List.range m))(g:Good m ps):Good m (ps.map (yo ms)):=by
 have nd:ms.Nodup:=pm.nodup_iff.mpr WC;have ln:ms.length=m:=by rw[pm.length_eq,VI]
 have lt:∀a,a<m->ms.getD a 0<m:=λa ha=>by
  have h:a<ms.length:=by lia
  rw[Vk,VX h];exact VL.mp (pm.mem_iff.mp (Wj h))
 refine⟨λe he=>?_,?_⟩
 .obtain⟨⟨a,b⟩,hp,rfl⟩:=V6.mp he;have h:a<b/\b<m:=g.lt _ hp;have h1:=lt a (by lia);have h2:=lt b (by lia);have ne:ms.getD a 0≠ms.getD b 0:=λe=>by have:=getD_inj nd (by lia) (by lia) e;lia
  show min (ms.getD a 0) (ms.getD b 0)<max (ms.getD a 0) (ms.getD b 0)/\max (ms.getD a 0) (ms.getD b 0)<m;lia
 refine Yw _ ?_ (Xf (S:=λx y=>x≠y/\(x.1<x.2/\x.2<m)/\(y.1<y.2/\y.2<m)) (λ{a b} ha hb h=>⟨h,g.lt _ ha,g.lt _ hb⟩) g.nd);rintro⟨a,b⟩⟨c,d⟩⟨ne,h1,h2⟩e;have h1:a<b/\b<m:=h1;have h2:c<d/\d<m:=h2;have e1:min (ms.getD a 0) (ms.getD b 0)=min (ms.getD c 0) (ms.getD d 0):=congrArg Prod.fst e;have e2:max (ms.getD a 0) (ms.getD b 0)=max (ms.getD c 0) (ms.getD d 0):=congrArg Prod.snd e;have e3:(ms.getD a 0=ms.getD c 0/\ms.getD b 0=ms.getD d 0)\/(ms.getD a 0=ms.getD d 0/\ms.getD b 0=ms.getD c 0):=by lia
 rcases e3 with⟨p,q⟩|⟨p,q⟩;{have r1:=getD_inj nd (by lia) (by lia) p;have r2:=getD_inj nd (by lia) (by lia) q;subst r1;subst r2;exact ne rfl};have r1:=getD_inj nd (by lia) (by lia) p;have r2:=getD_inj nd (by lia) (by lia) q;lia
def D5{m:Nat}(pm:ms.Perm (List.range m))(h:dI m ps):dI m (ps.map (yo ms)):=by refine Aw (nm:=λa=>ms.getD a 0) h (λx hx=>?_) λa b he=>?_;{obtain⟨i,hi⟩:=We (pm.mem_iff.mpr (VL.mpr hx));have li:=(Vz.mp hi).1;rw[pm.length_eq,VI]at li;refine⟨i,li,?_⟩;show ms.getD i 0=x;rw[Vk,hi];rfl};have hm:yo ms (a,b)∈ps.map (yo ms):=V6.mpr ⟨_,he,rfl⟩;show aB _ (ms.getD a 0) (ms.getD b 0);have e:yo ms (a,b)=(min (ms.getD a 0) (ms.getD b 0),max (ms.getD a 0) (ms.getD b 0)):=rfl;rw[e]at hm;rcases Y3 (ms.getD a 0) (ms.getD b 0)with l|l;{rw[Xd l,ZU l]at hm;exact .inl hm};rw[Xe l,Nat.max_eq_left l]at hm;exact .inr hm
section
variable{E:Nat->Nat->Prop}{p:Nat}
def oZ.pred{x d:Nat}(h:oZ E p x (d+1)):∃y,oZ E p y d/\E y x:=by
 obtain⟨h1,h2⟩:=h;cases h1 with
 |@step _ y _ hy hyx=>refine⟨y,⟨hy,λe he hr=>?_⟩,hyx⟩;exact h2 (e+1) (by lia) (hr.step hyx)
end
def fB:Nat->Nat
 |0=>0
 |b+1=>fB b+b
def z6{a b:Nat}(h:a<=b):fB a<=fB b:=by
 induction b with
 |zero=>
  obtain rfl:a=0:=by lia
  exact V3 _
 |succ b ih=>by_cases c:a=b+1;{rw[c];exact V3 _};exact VS (ih (by lia)) (YD _ _)
theorem CO:∀m,2*fB m<=m*m
 |0=>V3 _
 |m+1=>by have:=CO m;show 2*(fB m+m)<=(m+1)*(m+1);rw[Nat.mul_add,Nat.add_mul,Nat.mul_add];lia
def ix(e:Nat×Nat):Nat:=fB e.2+e.1
def Ph(he:e.1<e.2)(hf:f.1<f.2)(h:ix e=ix f):e=f:=by
 obtain⟨a,b⟩:=e;obtain⟨c,d⟩:=f;unfold ix at h;dsimp only at he hf h;have key:∀{a b c d:Nat},a<b->b<d->fB b+a<fB d+c:=λ{a b c d} h1 h2=>by have:=z6 (a:=b+1) (b:=d) (by lia);have e:fB (b+1)=fB b+b:=rfl;lia
 rcases XT b d with l|l|l;{have:=key (c:=c) he l;lia};{subst l;rw[show a=c by lia]};have:=key (c:=a) hf l;lia
def Kg{m:Nat}(g:Good m ps):2*ps.length<=m*m:=by have h:=dm (fB m) (ps.map ix) ?_ ?_;{rw[V4]at h;have:=CO m;lia};{unfold List.Nodup;rw[Wh];exact Xf (λ{e f} he hf ne h=>ne (Ph (g.lt e he).1 (g.lt f hf).1 h)) g.nd};intro x hx;obtain⟨e,he,rfl⟩:=V6.mp hx;have l:=g.lt e he;have:=z6 (a:=e.2+1) (b:=m) (by lia);have e2:fB (e.2+1)=fB e.2+e.2:=rfl;unfold ix;lia
end Gr
local macro_rules | `(tactic| bv_omega) => do let ls ← (List.range 228).toArray.mapM fun k => `(Lean.Parser.Tactic.simpLemma| $(Lean.mkIdent (.str `Dv s!"rr{k}")):ident); `(tactic| dsimp only[$ls,*, Dv.dyr0, Dv.dyr1, Dv.dyr2, Dv.dyr3, Nat.reduceBEq])
local macro_rules | `(tactic| rfl') => `(tactic| ((try bv_omega); try simp only[Dv.dv, Dv.dw, Dv.dx, Dv.dy, Dv.dz, Nat.reduceBEq]))
local macro_rules | `(tactic| simp![$xs,*]) => `(tactic| ((try bv_omega); try simp only[Dv.dv, Dv.dw, Dv.dx, Dv.dy, Dv.dz, Nat.reduceBEq, $xs,*]))
namespace PB
open PySem L2 Dv
def M5{α:Type}{m k:Nat}{f:Nat->α}{v:α}:((List.range m).map f).set k v=(List.range m).map λi=>if i=k then v else f i:=by refine Wl λj=>?_;rw[Xh,V4,VI,VQ,VQ];by_cases h:j<m;{rw[W7 h];by_cases c:k=j;{subst c;rw[if_pos rfl,if_pos h];simp};rw[if_neg c];simp[Ne.symm c]};rw[Vr (by rw[VI];lia)];by_cases c:k=j;{subst c;rw[if_pos rfl,if_neg h];rfl};rw[if_neg c];rfl
def MF{α:Type}{m k:Nat}{f:Nat->α}(h:k<m):((List.range m).map f)[k]?=some (f k):=by rw[VQ,W7 h];rfl
def Ti(f:DM) (i n:Nat)(E1:En)(w:PyData)(Q:A06):Prop:=∃a p ds m es k d E2,w=.int a/\E1[i]?=some (some (.dp p,.list ds))/\lO ds.length a=some m/\ds[m]?=some (.list es)/\E1[n]?=some (some (k,d))/\i≠n/\dX E1 n=some E2/\f es [d] λnew v=>Q (E2.set i (some (.dp p,.list (ds.set m (.list new))))) .sh v
def ve{i n:Nat}:tM f i j n x (o::E) Q=(here (o::E) i=true/\j x (o::E) λE1 _ w=>Ti f i n E1 w Q):=rfl
def vC{i n a m:Nat}{p:Bool}{E:En}{g:Nat->Zw}{Q:A06}(h1:E[i]?=some (some (.dp p,.list ((List.range m).map λi=>.list (g i)))))(h2:E[n]?=some (some (.sh,d)))(ne:i≠n)(ha:a<m)(hs:(g a).length<16777216)(q:Q (E.set i (some (.dp p,.list ((List.range m).map λk=>.list (if k=a then g k++[d]else g k))))) .sh .none):Ti cV i n E (iD a) Q:=by
 refine⟨a,p,_,a,g a,.sh,d,E,rfl,h1,?_,MF ha,h2,ne,?_,?_⟩;{rw[V4,VI];exact GB ha}
 .have:=A4 (E:=E) (is:=[n]) (by simp[iS,h2]);unfold eE at this;cases e:dX E n with
  |none=>rw[e]at this;cases this
  |some E2=>rw[e]at this;exact this
 refine⟨hs,?_⟩;show Q (E.set i (some (.dp p,.list (((List.range m).map λi=>PyData.list (g i)).set a (.list (g a++[d])))))) .sh .none;rw[M5];have e:((List.range m).map λk=>if k=a then PyData.list (g a++[d])else .list (g k))=(List.range m).map λk=>PyData.list (if k=a then g k++[d]else g k):=by refine W3 λk _=>?_;by_cases c:k=a;{rw[if_pos c,if_pos c,c]};rw[if_neg c,if_neg c]
 rw[e];exact q
abbrev HR(m:Nat)(es:Zr):PyData:=.list ((List.range m).map λi=>nD (Gr.bQ es i))
def xq:bF:=λds Q x=>∃m es,ds=[wD m es]/\m<=60/\Gr.Good m es/\Q [] (.dp false) (HR m es)
def Px:∀ds Q x,xq ds Q x->ic (bg [false] Q x) (ini [false] ds++List.replicate 6 none):=by
 rintro _ Q x⟨m,es,rfl,hm,gd,q⟩;unfold ic;rfl';rw[if_pos (by lia)];refine cR rfl (F9 (λ_=>PyData.list []) rfl (λa ha I hI=>?_) ?_ (by rw[VI];lia));{rfl';exact⟨by lia,⟨false,rfl⟩,hI _ rfl⟩};rfl';refine u7 (λi E=>∃o4 o5:A08,E=[some (.sh,wD m es),some (.sh,iD m),some (.sh,.tuple (es.map gz)),some (.dp false,HR m (es.take i)),o4,o5,none]/\bH o4=true/\bH o5=true) ⟨none,none,rfl,rfl,rfl⟩ ?_ ?_
 .rintro i⟨a,b⟩_ hi⟨o4,o5,rfl,ho4,ho5⟩;have hab:=gd.lt _ (VZ hi);have hab:a<b/\b<m:=hab;simp![ho4,ho5,ve];have hn:∀k,(Gr.bQ (es.take i) k).length<1000:=λk=>by have g2:Gr.Good m (es.take i):=⟨λe he=>gd.lt e (ZV he),WI (YV _ _) gd.nd⟩;have:=g2.jD k;lia
  refine vC (g:=λk=>(Gr.bQ (es.take i) k).map iD) rfl rfl (by lia) (by lia) (by rw[V4];have:=hn a;lia) ?_;simp![ho4,ho5,ve];refine vC (g:=λk=>if k=a then(Gr.bQ (es.take i) k).map iD++[iD b]else(Gr.bQ (es.take i) k).map iD) rfl rfl (by lia) (by lia) (by rw[if_neg (by lia),V4];have:=hn b;lia) ?_;refine⟨some (.sh,iD a),some (.sh,iD b),?_,rfl,rfl⟩;simp only[List.set_cons_succ,List.set_cons_zero];have e:∀k,(if k=b then(if k=a then(Gr.bQ (es.take i) k).map iD++[iD b]else(Gr.bQ (es.take i) k).map iD)++[iD a]else if k=a then(Gr.bQ (es.take i) k).map iD++[iD b]else(Gr.bQ (es.take i) k).map iD)=(Gr.bQ (es.take (i+1)) k).map iD:=λk=>by rw[take_snoc hi,Gr.Cg,VT];unfold Gr.bQ;rw[Vy,List.filterMap_nil];unfold Gr.nb;simp only;by_cases c:k=a;{subst c;rw[if_neg (by lia),if_pos rfl,if_pos rfl];rfl};by_cases c2:k=b;{subst c2;rw[if_pos rfl,if_neg c,if_neg (Ne.symm c),if_pos rfl];rfl};rw[if_neg c2,if_neg c,if_neg (Ne.symm c),if_neg (Ne.symm c2)];exact(Vm _).symm
  rw[W3 λk _=>congrArg PyData.list (e k)]
 rintro _⟨o4,o5,rfl,ho4,ho5⟩;rw[W9];rfl';exact q
def wR{y:Nat}:nD (l++[y])=.list (l.map iD++[iD y]):=by show PyData.list ((l++[y]).map iD)=_;rw[VT];rfl
structure aY(m:Nat)(es:Zr):Prop where
 pos:1<=m
 le:m<=60
 gd:Gr.Good m es
 cn:Gr.dI m es
def aY.few{m:Nat}(W:aY m es):es.length<=1800:=by have h:=Gr.Kg W.gd;have:=XF W.le W.le;lia
abbrev aW(es:Zr) (p x:Nat):Nat:=Gr.dst (Gr.aB es) p x
def ES:bF:=λds Q x=>∃m es,∃p:Int,ds=[wD m es,.int p]/\(0<=p/\p<m->Q [] .sh .none)/\(¬(0<=p/\p<m)->x "NoPlace" .none)
def PU:∀ds Q x,ES ds Q x->iu (bg [false,false] Q x) (ini [false,false] ds++List.replicate 0 none):=by rintro _ Q x⟨m,es,p,rfl,q,r⟩;unfold iu;rfl';split;{rename_i h;split;{rename_i h2;exact r λz=>h2 z.2};rename_i h2;exact q ⟨h,Decidable.of_not_not h2⟩};rename_i h;exact r λz=>h z.1
abbrev Th:=Nat ⊕ (Nat×Nat)
def rD:Th->PyData
 |.inl x=>iD x
 |.inr e=>gz e
def TV(m:Nat):Th->Prop
 |.inl x=>x<m
 |.inr e=>e.1<m/\e.2<m
def td(es:Zr) (p:Nat):Th->Nat
 |.inl x=>aW es p x
 |.inr e=>min (aW es p e.1) (aW es p e.2)
def UK:lf (rD t)=true:=by cases t<;>rfl
def aD(k:Str) (m:Nat)(es:Zr):List Th:=(if k="ties" then []else(List.range m).map Sum.inl)++(if k="places" then []else es.map Sum.inr)
def Kc{m:Nat}(g:Gr.Good m es):∀t∈aD k m es,TV m t:=by intro t ht;rcases V8.mp ht with h|h;{split at h;{cases h};obtain⟨x,hx,rfl⟩:=V6.mp h;exact VL.mp hx};split at h;{cases h};obtain⟨e,he,rfl⟩:=V6.mp h;have:=g.lt e he;exact⟨by show e.1<m;lia,this.2⟩
def Hl{m:Nat}(W:aY m es):(aD k m es).length<=1860:=by unfold aD;have:=W.few;have:=W.le;rw[VD];split<;>split<;>simp<;>lia
def D9:bF:=λds Q x=>∃m es k,ds=[wD m es,.str k]/\aY m es/\Q [] (.ow false) (.list ((aD k m es).map rD))
def Oc:∀ds Q x,D9 ds Q x->nW (bg [false,false] Q x) (ini [false,false] ds++List.replicate 4 none):=by
 rintro _ Q x⟨m,es,k,rfl,W,q⟩;have e:(aD k m es).map rD=(if k="ties" then []else(List.range m).map iD)++(if k="places" then []else es.map gz):=by unfold aD;rw[VT];congr 1;{split;{rfl};rw[VR];rfl};split;{rfl};rw[VR];rfl
 have hm:=W.le;have hf:=W.few;unfold nW;rfl';rw[e]at q;by_cases c1:k="ties";{by_cases c2:k="places";{subst c1;exact absurd c2 (by decide)};simp only[if_pos c1,if_neg c2,dv,dw,dx,dy,dz,Nat.reduceBEq]at q⊢;exact⟨by lia,by lia,q⟩};by_cases c2:k="places";{simp only[if_neg c1,if_pos c2,dv,dw,dx,dy,dz,Nat.reduceBEq,Vm]at q⊢;exact⟨⟨by lia,by lia⟩,by lia,by lia,q⟩};simp only[if_neg c1,if_neg c2,dv,dw,dx,dy,dz,Nat.reduceBEq]at q⊢;exact⟨⟨by lia,by lia⟩,by lia,q⟩
def rising(l:A03):Prop:=l.Pairwise (·<·)
def uD{m:Nat}(h:rising l)(lt:∀x∈l,x<m):l.length<=m:=Gr.dm m l (h.imp λh=>VC h) lt
def eO(es:Zr)(ls:A03)(t:Th):A03:=ls.map λp=>td es p t
theorem fc{α:Type}{f:α->PyData}{p:α->Bool}:∀{l:List α},(l.filterMap λt=>if p t=true then some (f t)else none)=(l.filter p).map f
 |[]=>rfl
 |a::l=>by
  rw[Vy,Wr];cases h:p a with
  |true=>simp only[if_true];rw[fc];rfl
  |false=>simp only[if_neg (VY)];exact fc
end PB
namespace Gr
abbrev ds(es:Zr) (p x:Nat):Nat:=dst (aB es) p x
section
variable{m:Nat}{es:Zr}
def dI.is(cn:dI m es){p x:Nat}(hp:p<m)(hx:x<m):oZ (aB es) p x (ds es p x):=let⟨_,h⟩:=cn p hp x hx;Q7 h
def b7{p:Nat}:ds es p p=0:=vE ⟨.zero,λe he=>absurd he (WH e)⟩
def dI.le(cn:dI m es){p x d:Nat}(hp:p<m)(hx:x<m)(h:R (aB es) p d x):ds es p x<=d:=by rcases Vt d (ds es p x)with l|l;{exact absurd h ((cn.is hp hx).2 d l)};exact l
def dI.fB(cn:dI m es){p x y:Nat}(hp:p<m)(hx:x<m)(hy:y<m):ds es p y<=ds es p x+ds es x y:=cn.le hp hy ((cn.is hp hx).1.trans (cn.is hx hy).1)
def dI.sy(cn:dI m es){p x:Nat}(hp:p<m)(hx:x<m):ds es p x=ds es x p:=by have h1:=cn.le hx hp ((cn.is hp hx).1.symm cI);have h2:=cn.le hp hx ((cn.is hx hp).1.symm cI);lia
def dI.zero(cn:dI m es){p x:Nat}(hp:p<m)(hx:x<m)(h:ds es p x=0):x=p:=by have:=(cn.is hp hx).1;rw[h]at this;cases this;rfl
def dI.TY(cn:dI m es){p x y:Nat}(hp:p<m)(hx:x<m)(hy:y<m)(h:aB es x y):ds es p y<=ds es p x+1:=cn.le hp hy ((cn.is hp hx).1.step h)
theorem dI.pred(cn:dI m es)(gd:Good m es){p x:Nat}(hp:p<m)(hx:x<m)(h:x≠p):∃y,y<m/\aB es x y/\ds es p y+1=ds es p x:=by
 have hI:=cn.is hp hx;cases e:ds es p x with
 |zero=>exact absurd (cn.zero hp hx e) h
 |succ d=>rw[e]at hI;obtain⟨y,hy,a⟩:=hI.pred;exact⟨y,(gd.bT a).1,cI _ _ a,by rw[show ds es p y=d from vE hy]⟩
structure Tree(m:Nat)(es:Zr):Prop where
 gd:Good m es
 cn:dI m es
 len:es.length+1=m
def jz(x y:Nat):Nat×Nat:=(min x y,max x y)
def pF(gd:Good m es){x y:Nat}(h:aB es x y):jz x y∈es:=by
 rcases h with h|h
 .have:=gd.lt _ h;have:x<y/\y<m:=this;have e:jz x y=(x,y):=by unfold jz;rw[Xd (by lia),ZU (by lia)]
  rw[e];exact h
 have:=gd.lt _ h;have:y<x/\x<m:=this;have e:jz x y=(y,x):=by unfold jz;rw[Xe (by lia),Nat.max_eq_left (by lia)]
 rw[e];exact h
def sub_len'{α:Type} [DecidableEq α]{l:List α}(nd:l.Nodup):∀{k:List α},(∀x∈l,x∈k)->l.length<=k.length:=by
 induction l with
 |nil=>intro k _;exact VW _
 |cons a l ih=>intro k h;have ha:=h a V1;have nd':=Vi.mp nd;have:=ih nd'.2 (k:=k.erase a) λx hx=>(ZR λe=>nd'.1 (by rw[<-e];exact hx)).mpr (h x (V5 _ hx));rw[ZS ha]at this;have:=Xc ha;rw[VF];lia
def Bq{α:Type} [DecidableEq α]{l k:List α}(nd:l.Nodup)(h:∀x∈l,x∈k)(hl:k.length<=l.length):∀x∈k,x∈l:=by intro x hx;by_cases c:x∈l;{exact c};exfalso;have:=sub_len' nd (k:=k.erase x) λy hy=>(ZR λe=>c (by rw[<-e];exact hy)).mpr (h y hy);rw[ZS hx]at this;have:=Xc hx;lia
open Classical in
def Tree.eu(T:Tree m es){p:Nat}(hp:p<m):∃par:Nat->Nat,(∀x,x<m->x≠p->par x<m/\aB es x (par x)/\ds es p (par x)+1=ds es p x)/\∀x y,aB es x y->(x≠p/\y=par x)\/(y≠p/\x=par y):=by
 have ch:∀x,∃y,x<m->x≠p->y<m/\aB es x y/\ds es p y+1=ds es p x:=λx=>by by_cases c:x<m/\x≠p;{obtain⟨y,h1,h2,h3⟩:=T.cn.pred T.gd hp c.1 c.2;exact⟨y,λ_ _=>⟨h1,h2,h3⟩⟩};exact⟨0,λh1 h2=>absurd ⟨h1,h2⟩ c⟩
 have⟨par,hpar⟩:∃par:Nat->Nat,∀x,x<m->x≠p->par x<m/\aB es x (par x)/\ds es p (par x)+1=ds es p x:=⟨λx=>Classical.choose (ch x),λx h1 h2=>Classical.choose_spec (ch x) h1 h2⟩;refine⟨par,hpar,λx y h=>?_⟩;have two:∀{a b c d:Nat},jz a b=jz c d->(a=c/\b=d)\/(a=d/\b=c):=λ{a b c d} e=>by have e1:min a b=min c d:=congrArg Prod.fst e;have e2:max a b=max c d:=congrArg Prod.snd e;lia
 have mem:∀z,z∈(List.range m).filter (λx=>decide (x≠p))↔z<m/\z≠p:=λz=>by rw[VJ,VL,W2]
 have nd0:((List.range m).filter λx=>decide (x≠p)).Nodup:=WI Wk WC;have len:es.length<=(((List.range m).filter λx=>decide (x≠p)).map λx=>jz x (par x)).length:=by
  rw[V4];have:=sub_len' (l:=List.range m) WC (k:=p::(List.range m).filter λx=>decide (x≠p)) λx hx=>by by_cases c:x=p;{rw[c];exact V1};exact V5 _ ((mem x).mpr ⟨VL.mp hx,c⟩)
  rw[VI,VF]at this;have:=T.len;lia
 have nd:(((List.range m).filter λx=>decide (x≠p)).map λx=>jz x (par x)).Nodup:=by refine Yw _ (R:=λa b=>a≠b/\(a<m/\a≠p)/\(b<m/\b≠p)) (λa b hab e=>?_) (Xf (R:=λa b=>a≠b) (λ{a b} ha hb h=>⟨h,(mem a).mp ha,(mem b).mp hb⟩) nd0);obtain⟨ne,ha,hb⟩:=hab;obtain⟨_,_,h1⟩:=hpar a ha.1 ha.2;obtain⟨_,_,h2⟩:=hpar b hb.1 hb.2;rcases two e with⟨z,_⟩|⟨z1,z2⟩;{exact ne z};rw[z2]at h1;rw[<-z1]at h2;lia
 have inn:=Bq nd (λe he=>by
  obtain⟨z,hz,rfl⟩:=V6.mp he;obtain⟨h1,h2⟩:=(mem z).mp hz;exact pF T.gd (hpar z h1 h2).2.1) len
 obtain⟨z,hz,e⟩:=V6.mp (inn _ (pF T.gd h));have hz:=(mem z).mp hz;rcases two e with⟨e1,e2⟩|⟨e1,e2⟩;{subst e1;exact .inl ⟨hz.2,e2.symm⟩};subst e1;exact .inr ⟨hz.2,e2.symm⟩
def Tree.near(T:Tree m es){p x y:Nat}(hp:p<m)(h:aB es x y):ds es p x=ds es p y+1\/ds es p y=ds es p x+1:=by obtain⟨par,h1,h2⟩:=T.eu hp;obtain⟨hx,hy⟩:=T.gd.bT h;rcases h2 x y h with⟨n,rfl⟩|⟨n,rfl⟩;{exact .inl (h1 x hx n).2.2.symm};exact .inr (h1 y hy n).2.2.symm
def Tree.one(T:Tree m es){p x y z:Nat}(hp:p<m)(h:aB es x y)(g:aB es x z)(hy:ds es p x=ds es p y+1)(hz:ds es p x=ds es p z+1):y=z:=by
 obtain⟨par,h1,h2⟩:=T.eu hp;obtain⟨hx,hy'⟩:=T.gd.bT h;have hz':=(T.gd.bT g).2;have key:∀w,aB es x w->w<m->ds es p x=ds es p w+1->w=par x:=λw a hw e=>by rcases h2 x w a with⟨_,r⟩|⟨n,r⟩;{exact r};have:=(h1 w hw n).2.2;rw[<-r]at this;lia
 rw[key y h hy' hy,key z g hz' hz]
def aN(es:Zr) (p n x:Nat):Prop:=ds es n x+1=ds es p x
def Tree.ya(T:Tree m es){p n x:Nat}(hx:x<m)(h:aB es p n):aN es p n x\/ds es n x=ds es p x+1:=by obtain⟨hp,hn⟩:=T.gd.bT h;have:=T.near hx h;unfold aN;rw[T.cn.sy hn hx,T.cn.sy hp hx];lia
def Tree.kR(T:Tree m es){p n k x:Nat}(hx:x<m)(h:aB es p n)(g:aB es p k)(hn:aN es p n x)(hk:aN es p k x):n=k:=by obtain⟨hp,hn'⟩:=T.gd.bT h;have hk':=(T.gd.bT g).2;unfold aN at hn hk;rw[T.cn.sy hn' hx,T.cn.sy hp hx]at hn;rw[T.cn.sy hk' hx,T.cn.sy hp hx]at hk;exact T.one hx h g (by lia) (by lia)
def Tree.some(T:Tree m es){p x:Nat}(hp:p<m)(hx:x<m)(ne:x≠p):∃n,aB es p n/\aN es p n x:=by obtain⟨n,hn,a,e⟩:=T.cn.pred T.gd hx hp (Ne.symm ne);refine⟨n,a,?_⟩;unfold aN;rw[T.cn.sy hn hx,T.cn.sy hp hx];exact e
def Tree.mC(T:Tree m es){p n x y:Nat}(hp:p<m)(hn:n<m)(h:aB es p n)(hb:aN es p n x)(a:aB es x y)(ne:y≠p):aN es p n y:=by
 obtain⟨hx,hy⟩:=T.gd.bT a;unfold aN at hb⊢;rcases T.ya hy h with z|z;{exact z};exfalso;have h1:=T.near hp a;have h2:=T.near hn a;have e1:ds es p y+1=ds es p x:=by lia
 have e2:ds es n y=ds es n x+1:=by lia
 by_cases c:x=n;{subst c;rw[b7]at hb;exact ne (T.cn.zero hp hy (by lia))};obtain⟨z,hz,b,e3⟩:=T.cn.pred T.gd hn hx c;have h5:=T.cn.fB hp hn hz;have h6:ds es p n=1:=by have:=T.near hp h;rw[b7]at this;lia
 have h7:=T.near hp b;have:=T.one hp a b (by lia) (by lia);subst this;lia
def Tree.dn(T:Tree m es){p n:Nat}(hp:p<m)(h:aB es p n):ds es p n=1:=by have:=T.near hp h;rw[b7]at this;lia
def Tree.JU(T:Tree m es){p n x:Nat}(hp:p<m)(hx:x<m)(h:aB es p n)(hb:aN es p n x)(ne:x≠n):∃y,y<m/\aB es y x/\aN es p n y/\ds es p x=ds es p y+1/\ds es n y+1=ds es n x:=by obtain⟨_,hn⟩:=T.gd.bT h;obtain⟨y,hy,a,e⟩:=T.cn.pred T.gd hn hx ne;have h1:=T.cn.fB hp hn hy;have h2:=T.dn hp h;have h3:=T.near hp a;unfold aN at hb⊢;exact⟨y,hy,cI _ _ a,by lia,by lia,e⟩
def fX(T:Tree m es){p n:Nat}(hp:p<m)(h:aB es p n):aN es p n n:=by unfold aN;rw[b7,T.dn hp h]
def Tree.par(T:Tree m es){x u d v:Nat}(hx:x<m)(h:R (aB es) u d v):(ds es x v)%2=(ds es x u+d)%2:=by
 induction h with
 |zero=>rfl
 |step _ a ih=>have:=T.near hx a;lia
def Tree.walk(T:Tree m es){l w b:Nat}(hl:l<m)(a:aB es w b)(nl:¬aN es w b l){d v:Nat}(h:R (aB es) l d v)(hv:aN es w b v):ds es l w+1+ds es b v<=d:=by
 obtain⟨hw,hb⟩:=T.gd.bT a;induction h with
 |zero=>exact absurd hv nl
 |@step d y v r c ih=>
  obtain⟨hy,hv'⟩:=T.gd.bT c;by_cases q:aN es w b y;{have:=ih q;have:=T.cn.TY hb hy hv' c;lia};have e:y=w:=by by_cases z:y=w;{exact z};exact absurd (T.mC hw hb a hv (cI _ _ c) z) q
  subst e;have e2:=T.kR hv' a c hv (fX T hw c);subst e2;have:=T.cn.le hl hw r;rw[b7];lia
def Tree.j6(T:Tree m es){l w b v:Nat}(hl:l<m)(hv':v<m)(a:aB es w b)(nl:¬aN es w b l)(hv:aN es w b v):ds es l v=ds es l w+1+ds es b v:=by obtain⟨hw,hb⟩:=T.gd.bT a;have h1:=T.walk hl a nl (T.cn.is hl hv').1 hv;have h2:=T.cn.fB hl hw hv';have h3:=T.cn.fB hw hb hv';have h4:=T.dn hw a;lia
def cb(es:Zr)(ls:A03) (p n:Nat):Nat:=(ls.filter λl=>decide (ds es n l+1=ds es p l)).length
def Iz{ls:A03}{p q r:Nat->Bool}(h1:∀l∈ls,p l=true->r l=true)(h2:∀l∈ls,q l=true->r l=true)(dj:∀l∈ls,p l=true->q l=true->False):(ls.filter p).length+(ls.filter q).length<=(ls.filter r).length:=by
 induction ls with
 |nil=>exact V3 _
 |cons a ls ih=>have ih:=ih (λl hl=>h1 l (V5 _ hl)) (λl hl=>h2 l (V5 _ hl)) λl hl=>dj l (V5 _ hl);have k1:=h1 a V1;have k2:=h2 a V1;have k3:=dj a V1;rw[Wr,Wr,Wr];cases e1:p a<;>cases e2:q a<;>cases e3:r a<;>simp_all<;>lia
def one_le{ls:A03}{p r:Nat->Bool}(h1:∀l∈ls,p l=true->r l=true):(ls.filter p).length<=(ls.filter r).length:=by
 have:=Iz (q:=λ_=>false) h1 (λl _ z=>by cases z) λl _ _ z=>by cases z
 lia
end
end Gr
namespace PB
open Dv Gr
section
variable{m:Nat}{es:Zr}
def pt(es:Zr)(ls:A03)(t u:Th):Nat:=(ls.filter λl=>decide (td es l t≠td es l u)).length
def RM:pt es ls t u<=ls.length:=WO ..
def Me:pt es ls t u=pt es ls u t:=by unfold pt;congr 1;refine YL λl _=>?_;by_cases c:td es l t=td es l u;{rw[W4 (by simpa using c),W4 (by simpa using c.symm)]};rw[Ve c,Ve (Ne.symm c)]
def Iq(h:∀l∈ls,td es l t≠td es l u):pt es ls t u=ls.length:=by unfold pt;rw[List.filter_eq_self.mpr λl hl=>Ve (h l hl)]
theorem mid(T:Tree m es){u v:Nat}(hu:u<m)(hv:v<m):∀{i j:Nat},ds es u v=i+j->∃w,w<m/\ds es u w=i/\ds es w v=j
 |i,0,h=>⟨v,hv,by lia,b7⟩
 |i,j+1,h=>by
  obtain⟨w,hw,h1,h2⟩:=mid T hu hv (i:=i+1) (j:=j) (by lia);obtain⟨y,hy,a,e⟩:=T.cn.pred T.gd hu hw λz=>by rw[z,b7]at h1;lia
  have h3:=T.cn.fB hy hw hv;have h4:=T.dn hy (cI _ _ a);have h5:=T.cn.fB hu hy hv;exact⟨y,hy,by lia,by lia⟩
def yJ(T:Tree m es){w a l u v:Nat}(hu:u<m)(hv:v<m)(hl:l<m)(h:aB es w a)(hb:aN es w a l)(nv:¬aN es w a v)(hle:ds es a u<=ds es w v):ds es l u<ds es l v:=by obtain⟨hw,ha⟩:=T.gd.bT h;have h1:=T.j6 hv hl h nv hb;have h2:=T.cn.fB hl ha hu;rw[T.cn.sy hl ha]at h2;rw[T.cn.sy hl hv];rw[T.cn.sy hv hw]at h1;lia
def bd{w a l:Nat}(h:decide (ds es a l+1=ds es w l)=true):aN es w a l:=Vf (p:=ds es a l+1=ds es w l) h
def Fg(T:Tree m es)(hl:∀l∈ls,l<m){w a b:Nat}(h:aB es w a)(g:aB es w b)(ne:a≠b)(ha:∀l∈ls,aN es w a l->td es l t≠td es l u)(hb:∀l∈ls,aN es w b l->td es l t≠td es l u):cb es ls w a+cb es ls w b<=pt es ls t u:=
 Iz (λl h1 h2=>Ve (ha l h1 (bd h2))) (λl h1 h2=>Ve (hb l h1 (bd h2))) λl h1 h2 h3=>ne (T.kR (hl l h1) h g (bd h2) (bd h3))
def PZ{w a:Nat}(ha:∀l∈ls,aN es w a l->td es l t≠td es l u):cb es ls w a<=pt es ls t u:=one_le λl h1 h2=>Ve (ha l h1 (bd h2))
def uK(T:Tree m es)(hl:∀l∈ls,l<m){u v:Nat}(hu:u<m)(hv:v<m)(ne:u≠v):pt es ls (.inl u) (.inl v)=ls.length\/∃w a b,aB es w a/\aB es w b/\a≠b/\cb es ls w a+cb es ls w b<=pt es ls (.inl u) (.inl v):=by
 rcases Nat.mod_two_eq_zero_or_one (ds es u v)with e|e
 .right;obtain⟨k,hk⟩:∃k,ds es u v=k+k:=⟨ds es u v/2,by lia⟩;have k0:k≠0:=λz=>ne (T.cn.zero hu hv (by lia)).symm;obtain⟨w,hw,h1,h2⟩:=mid T hu hv hk;have nwu:w≠u:=λz=>by rw[z,b7]at h1;lia
  have nwv:w≠v:=λz=>by rw[z,b7]at h2;lia
  obtain⟨a,ha,aa,ea⟩:=T.cn.pred T.gd hu hw nwu;obtain⟨b,hb,ab,eb⟩:=T.cn.pred T.gd hv hw nwv;rw[T.cn.sy hv hw]at eb;rw[T.cn.sy hv hb]at eb;rw[T.cn.sy hu ha]at ea;rw[T.cn.sy hu hw]at ea;have nab:a≠b:=λz=>by subst z;have:=T.cn.fB hu ha hv;rw[T.cn.sy hu ha]at this;rw[T.cn.sy hu hw]at h1;lia
  have bu:aN es w a u:=ea;have bv:aN es w b v:=eb;rw[T.cn.sy hu hw]at h1;refine⟨w,a,b,aa,ab,nab,Fg T hl aa ab nab (λl hl' hb'=>?_) λl hl' hb'=>?_⟩;{have:=yJ T hu hv (hl l hl') aa hb' (λz=>nab (T.kR hv aa ab z bv)) (by lia);show ds es l u≠ds es l v;lia};have:=yJ T hv hu (hl l hl') ab hb' (λz=>nab (T.kR hu aa ab bu z)) (by lia);show ds es l u≠ds es l v;lia
 left;refine Iq λl hl'=>?_;have:=T.par (hl l hl') (T.cn.is hu hv).1;show ds es l u≠ds es l v;intro z;rw[z]at this;lia
structure xX(es:Zr) (x y z t:Nat):Prop where
 xy:aB es x y
 zt:aB es z t
 fy:ds es z y=ds es z x+1
 ft:ds es x t=ds es x z+1
 ne:x=z->y≠t
def xX.swap(T:Tree m es){x y z t:Nat}(F:xX es x y z t):xX es z t x y:=⟨F.zt,F.xy,F.ft,F.fy,λe z=>F.ne e.symm z.symm⟩
def tl(es:Zr) (l x y:Nat):Nat:=min (ds es l x) (ds es l y)
def wj{l x y:Nat}:tl es l x y=tl es l y x:=Nat.min_comm ..
def pP(T:Tree m es){x y z t w a l j:Nat}(F:xX es x y z t)(hl:l<m)(hw:w<m)(h:aB es w a)(e0:ds es x z=j+j)(e1:ds es w z=j)(e2:ds es x w=j)(hb:aN es w a l)(hz:¬aN es w a z)(ht:¬aN es w a t)(ha:(j=0/\a=y)\/ds es a x+1=j):tl es l x y<tl es l z t:=by
 obtain⟨hx,hy⟩:=T.gd.bT F.xy;obtain⟨hz',ht'⟩:=T.gd.bT F.zt;have ham:=(T.gd.bT h).2;have c1:=T.j6 hz' hl h hz hb;have c2:=T.j6 ht' hl h ht hb;have t1:=T.cn.fB hx hw ht';have ft:=F.ft;rw[T.cn.sy hz' hw,T.cn.sy hz' hl]at c1;rw[T.cn.sy ht' hw,T.cn.sy ht' hl]at c2;unfold tl;have hle:min (ds es l x) (ds es l y)<=ds es a l+(j-1):=by rcases ha with⟨j0,rfl⟩|e;{rw[T.cn.sy hl ham];lia};have:=T.cn.fB hl ham hx;rw[T.cn.sy hl ham]at this;lia
 lia
def Mw(T:Tree m es){x y z t:Nat}(F:xX es x y z t){j:Nat}(e:ds es x z=j+j):∃w a b,w<m/\aB es w a/\aB es w b/\a≠b/\∀l,l<m->(aN es w a l->tl es l x y<tl es l z t)/\(aN es w b l->tl es l z t<tl es l x y):=by
 obtain⟨hx,hy⟩:=T.gd.bT F.xy;obtain⟨hz,ht⟩:=T.gd.bT F.zt;by_cases j0:j=0
 .subst j0;have exz:=T.cn.zero hx hz e;subst exz;have nyt:=F.ne rfl;have ns:∀c,c<m->¬aN es z c z:=λc _ q=>by unfold aN at q;rw[b7]at q;lia
  refine⟨z,y,t,hz,F.xy,F.zt,nyt,λl hl=>⟨λhb=>?_,λhb=>?_⟩⟩;{exact pP (j:=0) T F hl hz F.xy e b7 b7 hb (ns y hy) (λq=>nyt (T.kR ht F.xy F.zt q (fX T hz F.zt))) (.inl ⟨rfl,rfl⟩)};exact pP (j:=0) T (F.swap T) hl hz F.zt e b7 b7 hb (ns t ht) (λq=>nyt (T.kR hy F.xy F.zt (fX T hz F.xy) q)) (.inl ⟨rfl,rfl⟩)
 obtain⟨w,hw,h1,h2⟩:=mid T hx hz e;have nwx:w≠x:=λq=>by rw[q,b7]at h1;lia
 have nwz:w≠z:=λq=>by rw[q,b7]at h2;lia
 obtain⟨a,ha,aa,ea⟩:=T.cn.pred T.gd hx hw nwx;obtain⟨b,hb,ab,eb⟩:=T.cn.pred T.gd hz hw nwz;rw[T.cn.sy hz hb,T.cn.sy hz hw]at eb;rw[T.cn.sy hx ha]at ea;have ea':aN es w a x:=by unfold aN;rw[ea,T.cn.sy hx hw]
 have nab:a≠b:=λq=>by subst q;have:=T.cn.fB hx ha hz;rw[T.cn.sy hx ha]at this;lia
 have ft:=F.ft;have fy:=F.fy;have nt:t≠w:=λq=>by rw[q]at ft;lia
 have ny:y≠w:=λq=>by rw[q,T.cn.sy hz hw,T.cn.sy hz hx]at fy;lia
 have bz:aN es w b z:=eb;have bt:aN es w b t:=T.mC hw hb ab bz F.zt nt;have by':aN es w a y:=T.mC hw ha aa ea' F.xy ny;refine⟨w,a,b,hw,aa,ab,nab,λl hl=>⟨λq=>?_,λq=>?_⟩⟩;{exact pP T F hl hw aa e h2 h1 q (λr=>nab (T.kR hz aa ab r bz)) (λr=>nab (T.kR ht aa ab r bt)) (.inr (by lia))};exact pP T (F.swap T) hl hw ab (by rw[T.cn.sy hz hx];exact e) (by rw[T.cn.sy hw hx];exact h1) (by rw[T.cn.sy hz hw];exact h2) q (λr=>nab (T.kR hx aa ab ea' r)) (λr=>nab (T.kR hy aa ab by' r)) (.inr (by lia))
def Mv(T:Tree m es){x y z t:Nat}(F:xX es x y z t)(e:ds es x z%2=1){l:Nat}(hl:l<m):tl es l x y≠tl es l z t:=by
 obtain⟨hx,hy⟩:=T.gd.bT F.xy;obtain⟨hz,ht⟩:=T.gd.bT F.zt;have side:∀{x y z t:Nat},xX es x y z t->ds es x z%2=1->ds es l x=ds es l y+1->tl es l x y≠tl es l z t:=λ{x y z t} F e q=>by
  obtain⟨hx,hy⟩:=T.gd.bT F.xy;obtain⟨hz,ht⟩:=T.gd.bT F.zt;have hb:aN es x y l:=by unfold aN;rw[T.cn.sy hy hl,T.cn.sy hx hl];lia
  have fy:=F.fy;have nz:¬aN es x y z:=λr=>by unfold aN at r;rw[T.cn.sy hy hz,T.cn.sy hx hz]at r;lia
  have xz:z≠x:=λr=>by rw[r,b7]at e;lia
  have nt:¬aN es x y t:=λr=>nz (T.mC hx hy F.xy r (cI _ _ F.zt) xz);have c1:=T.j6 hz hl F.xy nz hb;have c2:=T.j6 ht hl F.xy nt hb;rw[T.cn.sy hz hl,T.cn.sy hy hl]at c1;rw[T.cn.sy ht hl,T.cn.sy hy hl]at c2;unfold tl;lia
 rcases T.near hl F.xy with q|q;{exact side F e q};rcases T.near hl F.zt with r|r;{exact Ne.symm (side (F.swap T) (by rw[T.cn.sy hz hx];exact e) r)};have:=T.par hl (T.cn.is hx hz).1;unfold tl;lia
def JG(T:Tree m es)(he:e∈es)(hf:f∈es)(ne:e≠f):∃x y z t,xX es x y z t/\(∀l,td es l (.inr e)=tl es l x y)/\∀l,td es l (.inr f)=tl es l z t:=by
 have ae:aB es e.1 e.2:=.inl he;have af:aB es f.1 f.2:=.inl hf;obtain⟨h1,h2⟩:=T.gd.bT ae;obtain⟨h3,h4⟩:=T.gd.bT af
 -- the end of e that is nearer to f's first
 have⟨x,y,axy,fy,te,se⟩:∃x y,aB es x y/\ds es f.1 y=ds es f.1 x+1/\(∀l,td es l (.inr e)=tl es l x y)/\((x=e.1/\y=e.2)\/(x=e.2/\y=e.1)):=by
  rcases T.near h3 ae with q|q
  .exact⟨e.2,e.1,cI _ _ ae,q,λl=>wj,.inr ⟨rfl,rfl⟩⟩
  .exact⟨e.1,e.2,ae,q,λl=>rfl,.inl ⟨rfl,rfl⟩⟩
 obtain⟨hx,hy⟩:=T.gd.bT axy;rcases T.near hx af with q|q
 .refine⟨x,y,f.2,f.1,⟨axy,cI _ _ af,?_,q,λz1 z2=>?_⟩,te,λl=>wj⟩
  .have g1:=T.near h4 axy;have g2:=T.cn.fB h3 h4 hy;have g3:=T.dn h3 af;rw[T.cn.sy hx h3,T.cn.sy hx h4]at q;lia
  .have el:=(T.gd.lt e he).1;have fl:=(T.gd.lt f hf).1;rcases se with⟨r1,r2⟩|⟨r1,r2⟩
   .lia
   .exact ne (Prod.ext (by lia) (by lia))
 .refine⟨x,y,f.1,f.2,⟨axy,af,fy,q,λz1 z2=>?_⟩,te,λl=>rfl⟩
  have el:=(T.gd.lt e he).1;have fl:=(T.gd.lt f hf).1;rcases se with⟨r1,r2⟩|⟨r1,r2⟩
  .exact ne (Prod.ext (by lia) (by lia))
  .lia
def zX(T:Tree m es)(hl:∀l∈ls,l<m)(he:e∈es)(hf:f∈es)(ne:e≠f):pt es ls (.inr e) (.inr f)=ls.length\/∃w a b,aB es w a/\aB es w b/\a≠b/\cb es ls w a+cb es ls w b<=pt es ls (.inr e) (.inr f):=by obtain⟨x,y,z,t,F,te,tf⟩:=JG T he hf ne;rcases Nat.mod_two_eq_zero_or_one (ds es x z)with q|q;{right;obtain⟨w,a,b,hw,aa,ab,nab,h⟩:=Mw T F (j:=ds es x z/2) (by lia);refine⟨w,a,b,aa,ab,nab,Fg T hl aa ab nab (λl hl' hb=>?_) λl hl' hb=>?_⟩;{rw[te,tf];have:=(h l (hl l hl')).1 hb;lia};rw[te,tf];have:=(h l (hl l hl')).2 hb;lia};left;exact Iq λl hl'=>by rw[te,tf];exact Mv T F q (hl l hl')
def yF(T:Tree m es)(hl:∀l∈ls,l<m){u:Nat}(hu:u<m)(he:e∈es):∃w a,aB es w a/\cb es ls w a<=pt es ls (.inl u) (.inr e):=by
 have ae:aB es e.1 e.2:=.inl he;have⟨x,y,axy,fy,te⟩:∃x y,aB es x y/\ds es u y=ds es u x+1/\∀l,td es l (.inr e)=tl es l x y:=by rcases T.near hu ae with q|q;{exact⟨e.2,e.1,cI _ _ ae,q,λl=>wj⟩};exact⟨e.1,e.2,ae,q,λl=>rfl⟩
 obtain⟨hx,hy⟩:=T.gd.bT axy;refine⟨x,y,axy,PZ λl hl' hb=>?_⟩;have hlm:=hl l hl';have nu:¬aN es x y u:=λr=>by unfold aN at r;rw[T.cn.sy hy hu,T.cn.sy hx hu]at r;lia
 have c1:=T.j6 hu hlm axy nu hb;rw[te];show ds es l u≠tl es l x y;unfold aN at hb;rw[T.cn.sy hu hlm,T.cn.sy hy hlm]at c1;rw[T.cn.sy hy hlm,T.cn.sy hx hlm]at hb;unfold tl;lia
def LN{ls:A03}{p q r:Nat->Bool}(h:∀l∈ls,r l=true->p l=true\/q l=true):(ls.filter r).length<=(ls.filter p).length+(ls.filter q).length:=by
 induction ls with
 |nil=>exact V3 _
 |cons a ls ih=>have ih:=ih λl hl=>h l (V5 _ hl);have k:=h a V1;rw[Wr,Wr,Wr];cases e1:p a<;>cases e2:q a<;>cases e3:r a<;>simp_all<;>lia
def Hw{ls:A03}{w a b:Nat}{t u:Th}(h:∀l∈ls,td es l t≠td es l u->aN es w a l\/aN es w b l):pt es ls t u<=cb es ls w a+cb es ls w b:=LN λl hl hr=>(h l hl (Vf hr)).imp (λz=>Ve (p:=ds es a l+1=ds es w l) z) λz=>Ve (p:=ds es b l+1=ds es w l) z
def RA{ls:A03}{w a:Nat}{t u:Th}(h:∀l∈ls,td es l t≠td es l u->aN es w a l):pt es ls t u<=cb es ls w a:=by
 have:=LN (ls:=ls) (r:=λl=>decide (td es l t≠td es l u)) (p:=λl=>decide (ds es a l+1=ds es w l)) (q:=λ_=>false) λl hl hr=>.inl (Ve (p:=ds es a l+1=ds es w l) (h l hl (Vf hr)));have e:(ls.filter λ_=>false)=[]:=Yx.mpr λ_ _ z=>by cases z
 rw[e]at this;exact this
def zP(T:Tree m es){l w a:Nat}:td es l (.inr (jz w a))=tl es l w a:=by show min (ds es l (min w a)) (ds es l (max w a))=min (ds es l w) (ds es l a);rcases Y3 w a with h|h;{rw[Xd h,ZU h]};rw[Xe h,Nat.max_eq_left h,Nat.min_comm]
def GR(T:Tree m es)(hl:∀l∈ls,l<m){w a b:Nat}(h:aB es w a)(g:aB es w b):pt es ls (.inl a) (.inl b)<=cb es ls w a+cb es ls w b:=Hw λl hl' ne=>by obtain⟨hw,ha⟩:=T.gd.bT h;have hb:=(T.gd.bT g).2;have hlm:=hl l hl';have ne:ds es l a≠ds es l b:=ne;have e1:=T.near hlm h;have e2:=T.near hlm g;unfold aN;rw[T.cn.sy ha hlm,T.cn.sy hw hlm,T.cn.sy hb hlm];lia
def NQ(T:Tree m es)(hl:∀l∈ls,l<m){w a b:Nat}(h:aB es w a)(g:aB es w b):pt es ls (.inr (jz w a)) (.inr (jz w b))<=cb es ls w a+cb es ls w b:=Hw λl hl' ne=>by obtain⟨hw,ha⟩:=T.gd.bT h;have hb:=(T.gd.bT g).2;have hlm:=hl l hl';rw[zP T,zP T]at ne;unfold tl at ne;have e1:=T.near hlm h;have e2:=T.near hlm g;unfold aN;rw[T.cn.sy ha hlm,T.cn.sy hw hlm,T.cn.sy hb hlm];lia
def Oj(T:Tree m es)(hl:∀l∈ls,l<m){w a:Nat}(h:aB es w a):pt es ls (.inl w) (.inr (jz w a))<=cb es ls w a:=RA λl hl' ne=>by obtain⟨hw,ha⟩:=T.gd.bT h;have hlm:=hl l hl';rw[zP T]at ne;have ne:ds es l w≠tl es l w a:=ne;unfold tl at ne;have e1:=T.near hlm h;unfold aN;rw[T.cn.sy ha hlm,T.cn.sy hw hlm];lia
end
end PB
namespace Dv
open PySem L2
def Pj{most i:Nat}:Be most i e D (o::E)=(jC (o::E) i=true/\e D.xc (o::E) λE1 k v=>k.fz=true/\K7 most E1 i v D.nx):=by unfold Be;congr 1;congr 1;funext E1 k v;congr 1;unfold K7;refine propext ⟨λ⟨p,ds,es,e1,e2,h,q⟩=>by subst e2;rw[e1];exact⟨h,q⟩,λh=>?_⟩;split at h;{rename_i p ds es e1;exact⟨p,ds,es,e1,rfl,h.1,h.2⟩};exact h.elim
def RL{most i:Nat}{p:Bool}(h:E[i]?=some (some (.ow p,.list ds)))(hl:ds.length+es.length<=most)(q:Q (E.set i (some (.ow p,.list (ds++es))))):K7 most E i (.list es) Q:=by unfold K7;rw[h];exact⟨hl,q⟩
end Dv
namespace PB
open PySem L2 Dv Gr
def pc(m:Nat)(es:Zr) (p n:Nat):A03:=(List.range m).filter λx=>decide (ds es n x+1=ds es p x)
def b8{m p n x:Nat}:x∈pc m es p n↔x<m/\aN es p n x:=by unfold pc;rw[VJ,VL,W2];exact Iff.rfl
def yW{m p n:Nat}:rising (pc m es p n):=Xg _ XW
structure uJ(m:Nat)(es:Zr) (p n:Nat)(vis:A03)(stk:Zr):Prop where
 nd:(vis++stk.map (·.2)).Nodup
 ya:∀x∈vis++stk.map (·.2),x<m/\aN es p n x
 par:∀q∈stk,aB es q.1 q.2/\ds es p q.2=ds es p q.1+1
 cl:∀x∈vis,∀y,aB es x y->ds es p y=ds es p x+1->y∈vis++stk.map (·.2)
 up:∀x∈vis++stk.map (·.2),x≠n->∃y∈vis,aB es y x/\ds es p x=ds es p y+1
 st:n∈vis++stk.map (·.2)
def uJ.start{m p n:Nat}(T:Tree m es)(h:aB es p n):uJ m es p n [] [(p,n)]:=by
 obtain⟨hp,hn⟩:=T.gd.bT h;have one:∀x,x∈([]:A03)++[(p,n)].map (·.2)↔x=n:=λx=>by simp
 refine⟨by simp,λx hx=>?_,λq hq=>?_,λx hx=>absurd hx VE,λx hx ne=>absurd ((one x).mp hx) ne,(one n).mpr rfl⟩;{rw[(one x).mp hx];exact⟨hn,fX T hp h⟩};rw[VB.mp hq];exact⟨h,by rw[b7,T.dn hp h]⟩
def uJ.step{m p n l h:Nat}{es:Zr}{vis:A03}{stk:Zr}(T:Tree m es)(hpn:aB es p n)(D:uJ m es p n vis (stk++[(l,h)])):uJ m es p n (vis++[h]) (stk++((bQ es h).filter λy=>decide (y≠l)).map λy=>(h,y)):=by
 obtain⟨hp,hn⟩:=T.gd.bT hpn;have old:∀x,x∈vis++(stk++[(l,h)]).map (·.2)↔x∈vis\/x∈stk.map (·.2)\/x=h:=λx=>by
  rw[V8,VT,V8];simp
 have hh:=D.ya h ((old h).mpr (.inr (.inr rfl)));have⟨alh,elh⟩:=D.par (l,h) (V8.mpr (.inr V1));have alh:aB es l h:=alh;have elh:ds es p h=ds es p l+1:=elh;have kid:∀y,aB es h y->(y≠l↔ds es p y=ds es p h+1):=λy a=>by
  constructor
  .intro ne;rcases T.near hp a with z|z
   .exact absurd (T.one hp a (cI _ _ alh) z (by lia)) ne
   .exact z
  .rintro e rfl;lia
 have newm:∀y,y∈(((bQ es h).filter λy=>decide (y≠l)).map λy=>(h,y)).map (·.2)↔aB es h y/\ds es p y=ds es p h+1:=λy=>by
  rw[VR];have:((λx:Nat×Nat=>x.2)∘λy=>(h,y))=id:=rfl
  rw[this,List.map_id,VJ,W2,bD];exact⟨λ⟨a,b⟩=>⟨a,(kid y a).mp b⟩,λ⟨a,b⟩=>⟨a,(kid y a).mpr b⟩⟩
 have ndo:=D.nd;rw[VT,<-W5]at ndo;have hnot:h∉vis++stk.map (·.2):=λz=>(Vv.mp ndo).2.2 h z h (by simp) rfl
 have nvis:h∉vis:=λz=>hnot (V8.mpr (.inl z))
 have newn:∀y,aB es h y->ds es p y=ds es p h+1->y∉vis++(stk++[(l,h)]).map (·.2):=λy a e z=>by
  have yn:y≠n:=λq=>by
   have h1:=T.dn hp hpn;have h2:=hh.2;unfold aN at h2;rw[q]at e;lia
  obtain⟨w,hw,b,e2⟩:=D.up y z yn;have:=T.one hp (cI _ _ a) (cI _ _ b) e e2;exact nvis (this▸hw)
 have nw:∀x,x∈(vis++[h])++(stk++((bQ es h).filter λy=>decide (y≠l)).map λy=>(h,y)).map (·.2)↔(x∈vis\/x∈stk.map (·.2)\/x=h)\/(aB es h x/\ds es p x=ds es p h+1):=λx=>by
  rw[V8,VT,V8,V8,newm,VB];constructor
  .rintro ((a|a)|a|a)
   .exact .inl (.inl a)
   .exact .inl (.inr (.inr a))
   .exact .inl (.inr (.inl a))
   .exact .inr a
  .rintro ((a|a|a)|a)
   .exact .inl (.inl a)
   .exact .inr (.inl a)
   .exact .inl (.inr a)
   .exact .inr (.inr a)
 refine⟨?_,λx hx=>?_,λq hq=>?_,λx hx y a e=>?_,λx hx ne=>?_,?_⟩
 ·-- none twice
  rw[VT,<-W5,Vv];refine⟨?_,?_,λa ha b hb e=>?_⟩
  .rw[W5];refine List.Perm.nodup_iff (ZM vis List.perm_append_comm) |>.mpr ?_;rw[<-W5];exact ndo
  .rw[VR];have:((λx:Nat×Nat=>x.2)∘λy=>(h,y))=id:=rfl
   rw[this,List.map_id];exact WI Wk (T.gd.fN h)
  .subst e;have hb:=(newm a).mp hb;refine newn a hb.1 hb.2 ((old a).mpr ?_);rcases V8.mp ha with z|z
   .rcases V8.mp z with z|z
    .exact .inl z
    .exact .inr (.inr (VB.mp z))
   .exact .inr (.inl z)
 .rcases(nw x).mp hx with z|⟨a,e⟩
  .exact D.ya x ((old x).mpr z)
  .exact⟨(T.gd.bT a).2,T.mC hp hn hpn hh.2 a λq=>by rw[q,b7]at e;lia⟩
 .rcases V8.mp hq with z|z
  .exact D.par q (V8.mpr (.inl z))
  .obtain⟨y,hy,rfl⟩:=V6.mp z;have:=(newm y).mp (V6.mpr ⟨_,z,rfl⟩);exact this
 .rw[nw];rcases V8.mp hx with z|z
  .exact .inl ((old y).mp (D.cl x z y a e))
  .rw[VB.mp z]at a e;exact .inr ⟨a,e⟩
 .rcases(nw x).mp hx with z|⟨a,e⟩
  .obtain⟨y,hy,b,e⟩:=D.up x ((old x).mpr z) ne;exact⟨y,V8.mpr (.inl hy),b,e⟩
  .exact⟨h,V8.mpr (.inr V1),a,e⟩
 .rw[nw];exact .inl ((old n).mp D.st)
def uJ.done{m p n:Nat}(T:Tree m es)(h:aB es p n)(D:uJ m es p n vis []):vis.Perm (pc m es p n):=by
 obtain⟨hp,hn⟩:=T.gd.bT h;have e:vis++([]:Zr).map (·.2)=vis:=Vm _;have all:∀(k x:Nat),x<m->aN es p n x->ds es n x=k->x∈vis:=by
  intro k;induction k with
  |zero=>intro x hx hb e0;have:=T.cn.zero hn hx e0;subst this;have:=D.st;rw[e]at this;exact this
  |succ k ih=>
   intro x hx hb e1;obtain⟨y,hy,a,by',e2,e3⟩:=T.JU hp hx h hb λq=>by rw[q,b7]at e1;lia
   have:=D.cl y (ih y hy by' (by lia)) x a e2;rw[e]at this;exact this
 have nd:=D.nd;rw[e]at nd;have nd2:(pc m es p n).Nodup:=WI Wk WC;refine(YM nd nd2).mpr λx=>?_;rw[b8];constructor;{intro hx;have:=D.ya x (by rw[e];exact hx);exact this};rintro⟨hx,hb⟩;exact all _ x hx hb rfl
theorem kh:∀{l k:A03},l.Perm k->l.Pairwise (·<=·)->k.Pairwise (·<=·)->l=k
 |[],k,p,_,_=>(List.Perm.nil_eq p)
 |a::l,[],p,_,_=>by have:=p.length_eq;simp at this
 |a::l,b::k,p,h1,h2=>by
  have ha:a∈b::k:=p.mem_iff.mp V1;have hb:b∈a::l:=p.mem_iff.mpr V1;have e:a=b:=by
   have l1:b<=a:=by rcases V7.mp ha with z|z;{lia};exact(WA.mp h2).1 a z
   have l2:a<=b:=by rcases V7.mp hb with z|z;{lia};exact(WA.mp h1).1 b z
   lia
  subst e;rw[kh (List.perm_cons a |>.mp p) (WA.mp h1).2 (WA.mp h2).2]
def IK(h:rising l):l.Pairwise (·<=·):=h.imp λh=>WX h
def Es:bF:=λdd Q x=>∃m es p n,dd=[HR m es,iD p,iD n]/\m<=60/\Tree m es/\aB es p n/\Q [] (.ow false) (nD (pc m es p n))
def Q4:∀dd Q x,Es dd Q x->jK (bg [false,false,false] Q x) (ini [false,false,false] dd++List.replicate 5 none):=by
 rintro _ Q x⟨m,es,p,n,rfl,hm,T,hpn,q⟩;unfold jK;rfl';refine⟨by lia,by lia,by lia,?_⟩;refine⟨λk E=>∃(vis:A03)(stk:Zr)(o5 o6:A08),E=[some (.sh,HR m es),some (.sh,iD p),some (.sh,iD n),some (.ow false,nD vis),some (.ow false,.list (stk.map gz)),o5,o6,none]/\bH o5=true/\bH o6=true/\k=m-vis.length/\uJ m es p n vis stk,⟨m,[],[(p,n)],none,none,rfl,rfl,rfl,rfl,uJ.start T hpn⟩,?_⟩;rintro k _⟨vis,stk,o5,o6,rfl,h5,h6,rfl,D⟩;simp![ZW];rcases List.eq_nil_or_concat stk with rfl|⟨stk,⟨l,h⟩,rfl⟩
 .simp![List.isEmpty_nil];have pm:=D.done T hpn;have hl:vis.length<=m:=by rw[pm.length_eq];exact uD yW λx hx=>(b8.mp hx).1
  refine wJ (by lia) λms p1 s1=>?_;rw[kh (p1.trans pm) s1 (IK yW)];rfl';exact q
 have ne:(stk++[(l,h)]).isEmpty=false:=by simp
 rw[List.concat_eq_append]at D⊢;have e1:(List.map gz (stk++[(l,h)]))[(stk++[(l,h)]).length-1]?=some (gz (l,h)):=by rw[VT,VD];show(stk.map gz++[gz (l,h)])[stk.length+1-1]?=_;rw[Nat.add_sub_cancel,Xm (by rw[V4];exact V3 _),V4,Nat.sub_self];rfl
 have e2:(List.map gz (stk++[(l,h)])).dropLast=stk.map gz:=by rw[VT];exact List.dropLast_concat
 have hhm:h<m/\aN es p n h:=D.ya h (by simp);have D2:=D.step T hpn;have hv:(vis++[h]).length<=m:=Gr.dm m _ (Vv.mp D2.nd).1 λx hx=>(D2.ya x (V8.mpr (.inl hx))).1;rw[VD]at hv;have hv:vis.length+1<=m:=hv;simp![ne,e1,e2,h5,h6,Pj,W7 hhm.1];refine⟨by lia,?_⟩;have hst:stk.length+((bQ es h).filter λy=>decide (y≠l)).length<=m:=by have:=Gr.dm m _ (Vv.mp D2.nd).2.1 λx hx=>(D2.ya x (V8.mpr (.inr hx))).1;rw[V4,VD,V4]at this;exact this
 refine kr (λy=>if decide (y≠l)=true then some (gz (h,y))else none) rfl (λy hy I hI=>?_) ?_ (by have:=T.gd.jD h;lia);{simp only[dv,dw,dx,dy,dz,Nat.reduceBEq]at hI⊢;split;{rename_i c;rw[if_pos c]at hI;exact⟨by lia,hI _ rfl⟩};rename_i c;rw[if_neg c]at hI;exact hI _ rfl};rw[fc];refine⟨rfl,RL rfl (by rw[V4,V4];lia) ⟨m-(vis++[h]).length,by rw[VD];show m-(vis.length+1)<_;lia,vis++[h],_,some (.sh,iD l),some (.sh,iD h),?_,rfl,rfl,rfl,D2⟩⟩;rw[wR,VT,VR];rfl
def DN:bF:=λdd Q x=>∃m es,dd=[wD m es]/\1<=m/\Q [] .sh (.bool (decide (es.length+1=m)))
def Q0:∀dd Q x,DN dd Q x->qQ (bg [false] Q x) (ini [false] dd++List.replicate 2 none):=by
 rintro _ Q x⟨m,es,rfl,hm,q⟩;unfold qQ;rfl';have e:decide ((es.length:Int)=(m:Int)-1)=decide (es.length+1=m):=by by_cases c:es.length+1=m;{rw[Ve c,Ve (by lia)]};rw[W4 c,W4 (by lia)]
 rw[e];exact q
def w4:bF:=λdd Q x=>∃m es,dd=[wD m es]/\1<=m/\(es.length+1=m->Q [] .sh .none)/\(es.length+1≠m->x "NoTree" .none)
def Pu:∀dd Q x,w4 dd Q x->iT DN (bg [false] Q x) (ini [false] dd++List.replicate 0 none):=by rintro _ Q x⟨m,es,rfl,hm,q,r⟩;unfold iT;rfl';refine⟨m,es,rfl,hm,?_⟩;rfl';split;{rename_i h;exact r h};rename_i h;exact q (Decidable.of_not_not h)
def Ew:bF:=λdd Q x=>∃m es p,dd=[wD m es,iD p]/\aY m es/\es.length+1=m/\p<m/\Q [] (.ow false) (.list ((bQ es p).map λn=>nD (pc m es p n)))
def OV:∀dd Q x,Ew dd Q x->nS w4 ES xq Es (bg [false,false] Q x) (ini [false,false] dd++List.replicate 2 none):=by rintro _ Q x⟨m,es,p,rfl,W,ht,hp,q⟩;have hm:=W.le;have T:Tree m es:=⟨W.gd,W.cn,ht⟩;unfold nS;rfl';refine⟨m,es,rfl,W.pos,λ_=>?_,λz=>absurd ht z⟩;rfl';refine⟨m,es,p,rfl,λ_=>?_,λz=>absurd ⟨by lia,by lia⟩ z⟩;rfl';refine⟨m,es,rfl,W.le,W.gd,?_⟩;simp![W7 hp];refine eY (λn=>nD (pc m es p n)) rfl (λn hn I hI=>?_) ?_ (by have:=W.gd.jD p;lia);{rfl';refine⟨m,es,p,n,rfl,W.le,T,bD.mp hn,?_⟩;rfl';exact hI _ rfl};rfl';exact q
section
variable{m:Nat}{es:Zr}{ls:A03}
def BA{k:Str}(gd:Good m es):(aD k m es).Nodup:=by unfold aD;refine Vv.mpr ⟨?_,?_,λa ha b hb e=>?_⟩;{split;{exact W8};exact Yw _ (λa b h e=>h (by cases e;rfl)) WC};{split;{exact W8};exact Yw _ (λa b h e=>h (by cases e;rfl)) gd.nd};subst e;split at ha;{cases ha};obtain⟨x,_,rfl⟩:=V6.mp ha;split at hb;{cases hb};obtain⟨y,_,e⟩:=V6.mp hb;cases e
def Qu{ts:List Th}(nd:ts.Nodup)(h:2<=ts.length):∃t u,t∈ts/\u∈ts/\t≠u:=⟨ts[0],ts[1],Wj _,Wj _,XX.mp nd 0 1 (by lia) (by lia) (by lia)⟩
def KJ(T:Tree m es)(hl:∀l∈ls,l<m){k:Str}(hk:k="places"\/k="ties"){t u:Th}(ht:t∈aD k m es)(hu:u∈aD k m es)(ne:t≠u):pt es ls t u=ls.length\/∃w a b,aB es w a/\aB es w b/\a≠b/\cb es ls w a+cb es ls w b<=pt es ls t u:=by
 rcases hk with rfl|rfl
 .have e:aD "places" m es=(List.range m).map Sum.inl:=by unfold aD;rw[if_neg (by decide),if_pos rfl,Vm]
  rw[e]at ht hu;obtain⟨x,hx,rfl⟩:=V6.mp ht;obtain⟨y,hy,rfl⟩:=V6.mp hu;exact uK T hl (VL.mp hx) (VL.mp hy) λz=>ne (by rw[z])
 have e:aD "ties" m es=es.map Sum.inr:=by unfold aD;rw[if_pos rfl,if_neg (by decide),Xz]
 rw[e]at ht hu;obtain⟨x,hx,rfl⟩:=V6.mp ht;obtain⟨y,hy,rfl⟩:=V6.mp hu;exact zX T hl hx hy λz=>ne (by rw[z])
def Ni(T:Tree m es)(hl:∀l∈ls,l<m)(ht:t∈aD "all" m es)(hu:u∈aD "all" m es)(ne:t≠u):pt es ls t u=ls.length\/∃w a,aB es w a/\cb es ls w a<=pt es ls t u:=by
 have e:aD "all" m es=(List.range m).map Sum.inl++es.map Sum.inr:=by unfold aD;rw[if_neg (by decide),if_neg (by decide)]
 rw[e]at ht hu;rcases V8.mp ht with h|h<;>rcases V8.mp hu with g|g<;>obtain⟨x,hx,rfl⟩:=V6.mp h<;>obtain⟨y,hy,rfl⟩:=V6.mp g;{exact(uK T hl (VL.mp hx) (VL.mp hy) λz=>ne (by rw[z])).imp id λ⟨w,a,b,h1,_,_,h4⟩=>⟨w,a,h1,by lia⟩};{exact .inr (yF T hl (VL.mp hx) hy)};{rw[Me];exact .inr (yF T hl (VL.mp hy) hx)};exact(zX T hl hx hy λz=>ne (by rw[z])).imp id λ⟨w,a,b,h1,_,_,h4⟩=>⟨w,a,h1,by lia⟩
def G1(T:Tree m es){k:Str}(hk:k="places"\/k="ties"){w a b:Nat}(ha:aB es w a)(hb:aB es w b)(ne:a≠b)(L:∀l∈ls,l<m):∃t u,t∈aD k m es/\u∈aD k m es/\t≠u/\pt es ls t u<=cb es ls w a+cb es ls w b:=by
 have hwm:=T.gd.bT ha;have hbm:=T.gd.bT hb;rcases hk with rfl|rfl
 .have e:aD "places" m es=(List.range m).map Sum.inl:=by unfold aD;rw[if_neg (by decide),if_pos rfl,Vm]
  rw[e];exact⟨.inl a,.inl b,V6.mpr ⟨a,VL.mpr hwm.2,rfl⟩,V6.mpr ⟨b,VL.mpr hbm.2,rfl⟩,λz=>ne (by cases z;rfl),GR T L ha hb⟩
 have e:aD "ties" m es=es.map Sum.inr:=by unfold aD;rw[if_pos rfl,if_neg (by decide),Xz]
 rw[e];refine⟨.inr (jz w a),.inr (jz w b),V6.mpr ⟨_,pF T.gd ha,rfl⟩,V6.mpr ⟨_,pF T.gd hb,rfl⟩,λz=>ne ?_,NQ T L ha hb⟩;have z:jz w a=jz w b:=Sum.inr.inj z;have e1:min w a=min w b:=congrArg Prod.fst z;have e2:max w a=max w b:=congrArg Prod.snd z;lia
end
def dB(k:Str):Prop:=k="places"\/k="ties"\/k="all"
end PB
namespace Dv
open PySem L2
def je{α:Type}{l:List α}{enc:α->PyData}{tg:Tg}{b:DS}{D:gw}{E1:En}(I:Nat->En->Prop)(h0:I 0 E1)(hs:∀(J:A0B) i a E,l[i]?=some a->(∀E',I (i+1) E'->J E')->I i E->∃E2,cT tg (enc a) E=some E2/\b { D with nx:=J } E2)(he:∀E,I l.length E->D.nx E):Dm (l.map enc) tg b D E1:=u7 I h0 (λi a E ha hi=>hs (I (i+1)) i a E ha (λ_ h=>h) hi) he
def vf{n:Nat}{enc:Nat->PyData}{tg:Tg}{b:DS}{D:gw}{E1:En}(I:Nat->En->Prop)(h0:I 0 E1)(hs:∀(J:A0B) i E,i<n->(∀E',I (i+1) E'->J E')->I i E->∃E2,cT tg (enc i) E=some E2/\b { D with nx:=J } E2)(he:∀E,I n E->D.nx E):Dm ((List.range n).map enc) tg b D E1:=Qd I h0 (λi E ha hi=>hs (I (i+1)) i E ha (λ_ h=>h) hi) he
def K0{α:Type}{l:List α}{enc:α->PyData}{cs:A03}{tg:Tg}{c:DT}{r:DC}{E1:En}{Q:A06}(E0:En)(I:Nat->Zw->En->Prop)(h0:bE cs E1=some E0)(h1:I 0 [] E0)(hs:∀(J:Zw->En->Prop) i a ys E,l[i]?=some a->(∀ys' E',I (i+1) ys' E'->J ys' E')->I i ys E->∃E2,cT tg (enc a) E=some E2/\c xF E2 λE3 b=>if b=true then r xF ys E3 J else J ys E3)(he:∀ys E,I l.length ys E->∃E2,bE cs E=some E2/\Q E2 (.ow false) (.list ys)):yz cs (l.map enc) tg c r E1 Q:=LX E0 I h0 h1 (λi a ys E ha hi=>hs (I (i+1)) i a ys E ha (λ_ _ h=>h) hi) he
def SN{c:DT}{b:DS}{D:gw}{E:En}(W:Nat->En->Prop)(h0:∃m,W m E)(hs:∀(J:A0B) m E,(∀m' E',m'<m->W m' E'->J E')->W m E->c D.xc E λE1 t=>if t=true then b { D with nx:=J } E1 else D.nx E1):qE c b D E:=⟨W,h0,λm E h=>hs (λE'=>∃m',m'<m/\W m' E') m E (λm' E' l w=>⟨m',l,w⟩) h⟩
end Dv
namespace PB
open PySem L2 Dv Gr
def ez(l:A03):Nat:=l.foldr (·*·) 1
def but:A03->Nat
 |[]=>0
 |a::l=>ez l+a*but l
theorem zQ{a:Nat}:∀{l:A03},ez (l++[a])=ez l*a
 |[]=>by simp[ez]
 |b::l=>by have:=zQ (a:=a) (l:=l);show b*ez (l++[a])=b*ez l*a;rw[this,YN]
theorem C1:∀{l:A03},ez l<=2^l.sum
 |[]=>V3 _
 |a::l=>by show a*ez l<=2^(a+l.sum);rw[Nat.pow_add];exact XF (WX Nat.lt_two_pow_self) C1
theorem wO:∀{l:A03},but l<=2^l.sum
 |[]=>VW _
 |a::l=>by show ez l+a*but l<=2^(a+l.sum);rw[Nat.pow_add];have h1:=C1 (l:=l);have h2:=XF (V3 a) (wO (l:=l));have h3:=XF (Nat.succ_le_of_lt (Nat.lt_two_pow_self (n:=a))) (V3 (2^l.sum));rw[Nat.succ_mul]at h3;lia
def cQ(sp ls:A03) (st:Nat):Nat×Nat:=if 0<(sp.filter λs=>decide (s∈ls)).length then(if(sp.filter λs=>decide (s∈ls)).length=1 then 1 else 0,0)else((sp.filter λs=>decide (st<=s)).length,1)
def yU{l:Nat}{ls:A03}:iD l∈ls.map iD↔l∈ls:=⟨λh=>by obtain⟨y,hy,e⟩:=V6.mp h;rw[<-vR.mp e];exact hy,λh=>V6.mpr ⟨l,h,rfl⟩⟩
def yX{ls:A03}:(ls.all λa=>dl 8 (iD a))=true:=by rw[VN];exact λ_ _=>rfl
def E7:bF:=λdd Q x=>∃sp ls st,dd=[nD sp,nD ls,iD st]/\sp.length<=60/\Q [] .sh (.tuple [iD (cQ sp ls st).1,iD (cQ sp ls st).2])
def OR:∀dd Q x,E7 dd Q x->nP (bg [false,false,false] Q x) (ini [false,false,false] dd++List.replicate 2 none):=by rintro _ Q x⟨sp,ls,st,rfl,hl,q⟩;unfold nP;rfl';refine kr (λs=>if decide (s∈ls)=true then some (iD s)else none) rfl (λs hs J hJ=>?_) ?_ (by lia);{simp only[dv,dw,dx,dy,dz,Nat.reduceBEq,yX,yU]at hJ⊢;refine⟨rfl,?_⟩;split;{rename_i c;rw[if_pos c]at hJ;exact hJ _ rfl};rename_i c;rw[if_neg c]at hJ;exact hJ _ rfl};rw[fc];rfl';unfold cQ at q;split;{rename_i c;rw[if_pos c]at q;split;{rename_i c1;rw[if_pos (by lia)]at q;exact⟨by lia,q⟩};rename_i c1;rw[if_neg (by lia)]at q;exact⟨by lia,q⟩};rename_i c;rw[if_neg c]at q;refine kr (λs=>if decide (st<=s)=true then some (iD s)else none) rfl (λs hs J hJ=>?_) ?_ (by lia);{simp only[dv,dw,dx,dy,dz,Nat.reduceBEq]at hJ⊢;split;{rename_i c;rw[if_pos c]at hJ;exact hJ _ rfl};rename_i c;rw[if_neg c]at hJ;exact hJ _ rfl};rw[fc];rfl';exact⟨by lia,q⟩
def gi(ls:A03) (st:Nat)(g:Zo):Nat×Nat:=g.foldl (λa sp=>(a.1*(cQ sp ls st).1,a.2*(cQ sp ls st).1+a.1*(cQ sp ls st).2)) (1,0)
def Fx{sp ls:A03}{st:Nat}(h:sp.length<=60):(cQ sp ls st).1<=60/\(cQ sp ls st).2<=1:=by unfold cQ;have:=WO (λs=>decide (st<=s)) sp;split;{split<;>exact⟨by simp,by simp⟩};exact⟨by simp only;lia,by simp⟩
abbrev gD(g:Zo):PyData:=.list (g.map nD)
def EX:bF:=λdd Q x=>∃g ls st,dd=[gD g,nD ls,iD st]/\(∀sp∈g,sp.length<=60)/\Q [] .sh (iD (gi ls st g).2)
def OO:∀dd Q x,EX dd Q x->l9 E7 (bg [false,false,false] Q x) (ini [false,false,false] dd++List.replicate 5 none):=by rintro _ Q x⟨g,ls,st,rfl,hl,q⟩;unfold l9;rfl';refine je (λi E=>∃o5 o6 o7:A08,E=[some (.sh,gD g),some (.sh,nD ls),some (.sh,iD st),some (.sh,iD (gi ls st (g.take i)).1),some (.sh,iD (gi ls st (g.take i)).2),o5,o6,o7]/\bH o5=true/\bH o6=true/\bH o7=true) ⟨none,none,none,rfl,rfl,rfl,rfl⟩ ?_ ?_;{rintro J i sp _ hi hJ⟨o5,o6,o7,rfl,h5,h6,h7⟩;have hs:=hl sp (VZ hi);have hw:=Fx (ls:=ls) (st:=st) hs;simp![h5];refine⟨sp,ls,st,rfl,hs,?_⟩;simp![h6,h7];refine⟨.inr ⟨by lia,by lia⟩,.inr ⟨by lia,by lia⟩,.inr ⟨by lia,by lia⟩,hJ _ ⟨some (.sh,nD sp),some (.sh,iD (cQ sp ls st).1),some (.sh,iD (cQ sp ls st).2),?_,rfl,rfl,rfl⟩⟩;rw[take_snoc hi];unfold gi;rw[List.foldl_append];rfl};rintro _⟨o5,o6,o7,rfl,h5,h6,h7⟩;rw[W9];rfl';exact q
abbrev iK(gs:List (Zo)):PyData:=.list (gs.map gD)
def bC(ls:A03) (st:Nat)(gs:List (Zo)):Nat:=ez (gs.map λg=>(gi ls st g).2)
def nF:bF:=λdd Q x=>∃gs ls st,dd=[iK gs,nD ls,iD st]/\(∀g∈gs,(∀sp∈g,sp.length<=60)/\(gi ls st g).2<2^64)/\Q [] .sh (iD (bC ls st gs))
def QU:∀dd Q x,nF dd Q x->nj EX (bg [false,false,false] Q x) (ini [false,false,false] dd++List.replicate 2 none):=by rintro _ Q x⟨gs,ls,st,rfl,hl,q⟩;unfold nj;rfl';refine je (λi E=>∃o4:A08,E=[some (.sh,iK gs),some (.sh,nD ls),some (.sh,iD st),some (.sh,iD (bC ls st (gs.take i))),o4]/\bH o4=true) ⟨none,rfl,rfl⟩ ?_ ?_;{rintro J i g _ hi hJ⟨o4,rfl,h4⟩;have hs:=hl g (VZ hi);simp![h4];refine⟨g,ls,st,rfl,hs.1,?_⟩;simp![h4];refine⟨.inr ⟨by lia,by have:=hs.2;lia⟩,hJ _ ⟨some (.sh,gD g),?_,rfl⟩⟩;rw[take_snoc hi];unfold bC;rw[VT,ZX,zQ];rfl};rintro _⟨o4,rfl,h4⟩;rw[W9];rfl';exact q
def c9(es:Zr) (p:Nat):Nat:=(bQ es p).length
def cL(m:Nat)(es:Zr):A03:=(List.range m).filter λp=>decide (2<c9 es p)
def ens(m:Nat)(es:Zr):A03:=(List.range m).filter λp=>decide (c9 es p=1)
def gx(m:Nat)(es:Zr) (p:Nat):Zo:=((bQ es p).map (pc m es p)).filter λc=>decide (¬ ∃y∈c,y∈cL m es)
def DU:bF:=λdd Q x=>∃m es p,dd=[wD m es,iD p,nD (cL m es)]/\aY m es/\es.length+1=m/\p<m/\Q [] (.ow false) (gD (gx m es p))
def Rj:∀dd Q x,DU dd Q x->qU Ew (bg [false,false,false] Q x) (ini [false,false,false] dd++List.replicate 2 none):=by
 rintro _ Q x⟨m,es,p,rfl,W,ht,hp,q⟩;have hm:=W.le;have hnb:=W.gd.jD p;unfold qU;rfl';refine⟨m,es,p,rfl,W,ht,hp,?_⟩;rfl';refine kr (λn=>if decide (¬ ∃y∈pc m es p n,y∈cL m es)=true then some (nD (pc m es p n))else none) rfl (λn hn J hJ=>?_) ?_ (by lia)
 .have hpl:(pc m es p n).length<=m:=uD yW λx hx=>(b8.mp hx).1;simp only[dv,dw,dx,dy,dz,Nat.reduceBEq]at hJ⊢;refine eY (λy=>.bool (decide (y∈cL m es))) rfl (λy hy I hI=>?_) ?_ (by lia);{simp![yX,yU];exact⟨rfl,hI _ rfl⟩};rw[show(λy=>PyData.bool (decide (y∈cL m es)))=(λb=>PyData.bool b)∘λy=>decide (y∈cL m es)from rfl,<-VR];rfl';refine Ot ?_;simp![List.any_map];by_cases c:∃y∈pc m es p n,y∈cL m es
  .have e:((pc m es p n).any (id∘λy=>decide (y∈cL m es)))=true:=by obtain⟨y,h1,h2⟩:=c;exact YI.mpr ⟨y,h1,Ve h2⟩
   rw[if_neg λz=>z c]at hJ;simp only[e,dw];exact hJ _ rfl
  have e:((pc m es p n).any (id∘λy=>decide (y∈cL m es)))=false:=by rw[Z4];exact λy h1 h2=>c ⟨y,h1,Vf h2⟩
  rw[if_pos c]at hJ;simp only[e,dw];exact hJ _ rfl
 rw[fc];rfl';unfold gx at q;rw[Yy]at q;unfold gD at q;rw[VR]at q;exact q
def Gb{β:Type}{m:Nat}{f:Nat×Nat->β}:(List.range m).zipIdx.map f=(List.range m).map λi=>f (i,i):=by refine Wl λi=>?_;rw[VQ,VQ,List.getElem?_zipIdx];by_cases c:i<m;{rw[W7 c];show some (f (i,0+i))=_;rw[Xu];rfl};rw[Vr (by rw[VI];lia)];rfl
def aF(k:Str) (m:Nat)(es:Zr):List (Zo):=
 if(aD k m es).length<2 then []else if k="all" then(ens m es).map λe=>[[e],[]]else if cL m es=[]then [(ens m es).map λe=>[e]]else((cL m es).map (gx m es)).filter λg=>decide (g≠[])
def nZ:bF:=λdd Q x=>∃m es k,dd=[wD m es,.str k]/\aY m es/\es.length+1=m/\Q [] (.ow false) (iK (aF k m es))
def Qn:∀dd Q x,nZ dd Q x->kT w4 D9 xq DU (bg [false,false] Q x) (ini [false,false] dd++List.replicate 6 none):=by
 rintro _ Q x⟨m,es,k,rfl,W,ht,q⟩;have hm:=W.le;unfold kT;rfl';refine⟨m,es,rfl,W.pos,λ_=>?_,λz=>absurd ht z⟩;rfl';refine⟨m,es,k,rfl,W,?_⟩;rfl';unfold aF at q;split;{rename_i c;rw[if_pos (by lia)]at q;exact⟨by lia,q⟩};rename_i c;rw[if_neg (by lia)]at q;refine⟨m,es,rfl,W.le,W.gd,?_⟩;rfl';refine eY (λp=>iD (c9 es p)) rfl (λp hp I hI=>?_) ?_ (by rw[VI];lia);{rfl';exact hI _ rfl};rfl';rw[Gb];refine kr (λi=>if decide (c9 es i=1)=true then some (iD i)else none) rfl (λi hi J hJ=>?_) ?_ (by rw[VI];lia);{simp only[dv,dw,dx,dy,dz,Nat.reduceBEq]at hJ⊢;split;{rename_i c;rw[if_pos (by lia)]at hJ;exact hJ _ rfl};rename_i c;rw[if_neg (by lia)]at hJ;exact hJ _ rfl};rw[fc];have hel:(ens m es).length<=m:=by have:=WO (λp=>decide (c9 es p=1)) (List.range m);rw[VI]at this;exact this
 have hfl:(cL m es).length<=m:=by have:=WO (λp=>decide (2<c9 es p)) (List.range m);rw[VI]at this;exact this
 rw[show((List.range m).filter λi=>decide (c9 es i=1))=ens m es from rfl];rfl';split;{rename_i ka;rw[if_pos ka]at q;refine eY (λe=>.list [.list [iD e],.list []]) rfl (λe he I hI=>?_) ?_ (by lia);{rfl';exact⟨by lia,by lia,by lia,hI _ rfl⟩};rfl';unfold iK at q;rw[VR]at q;exact q};rename_i ka;rw[if_neg ka]at q;rw[Gb];refine kr (λi=>if decide (2<c9 es i)=true then some (iD i)else none) rfl (λi hi J hJ=>?_) ?_ (by rw[VI];lia);{simp only[dv,dw,dx,dy,dz,Nat.reduceBEq]at hJ⊢;split;{rename_i c;rw[if_pos (by lia)]at hJ;exact hJ _ rfl};rename_i c;rw[if_neg (by lia)]at hJ;exact hJ _ rfl};rw[fc];rw[show((List.range m).filter λi=>decide (2<c9 es i))=cL m es from rfl];simp![ZW];by_cases hf:cL m es=[]
 .rw[if_pos hf]at q;rw[if_pos (by rw[hf];rfl)];refine eY (λe=>.list [iD e]) rfl (λe he I hI=>?_) ?_ (by lia);{rfl';exact⟨by lia,hI _ rfl⟩};rfl';refine⟨by lia,?_⟩;rw[show [PyData.list ((ens m es).map λe=>PyData.list [iD e])]=[(ens m es).map λe=>[e]].map gD by
   rw[ZX];unfold gD;rw[VR];rfl]
  exact q
 rw[if_neg hf]at q;rw[if_neg (by cases hh:cL m es<;>simp_all)];refine eY (λp=>gD (gx m es p)) rfl (λp hp I hI=>?_) ?_ (by lia);{rfl';refine⟨m,es,p,rfl,W,ht,VL.mp (VJ.mp hp).1,?_⟩;rfl';exact hI _ rfl};rfl';refine kr (λp=>if decide (gx m es p≠[])=true then some (gD (gx m es p))else none) rfl (λp hp J hJ=>?_) ?_ (by lia);{simp only[dv,dw,dx,dy,dz,Nat.reduceBEq,ZW]at hJ⊢;by_cases c:gx m es p=[];{rw[if_neg λz=>z c]at hJ;rw[if_neg (by rw[c];exact λz=>Bool.noConfusion z)];exact hJ _ rfl};rw[if_pos c]at hJ;rw[if_pos (by cases hh:gx m es p<;>simp_all)];exact hJ _ rfl};rw[fc];rfl';rw[Yy]at q;unfold iK at q;rw[VR]at q;exact q
def DX:bF:=λdd Q x=>∃m es k,dd=[wD m es,.str k]/\aY m es/\es.length+1=m/\(aF k m es).length<=60/\(∀g∈aF k m es,g≠[])/\Q [] .sh (iD ((aF k m es).map λg=>g.length-1).sum)
def QY:∀dd Q x,DX dd Q x->kU nZ (bg [false,false] Q x) (ini [false,false] dd++List.replicate 1 none):=by
 rintro _ Q x⟨m,es,k,rfl,W,ht,hl,hn,q⟩;unfold kU;rfl';refine⟨m,es,k,rfl,W,ht,?_⟩;rfl';refine eY (λg=>iD (g.length-1)) rfl (λg hg I hI=>?_) ?_ (by lia)
 .have:g.length≠0:=λz=>hn g hg (YH.mp z);have e:(g.length:Int)-1=((g.length-1:Nat):Int):=by lia
  simp![e];exact hI _ rfl
 rw[show(λg:Zo=>iD (g.length-1))=iD∘λg=>g.length-1 from rfl,<-VR];rfl';exact QH q
def Ek:bF:=λdd Q x=>∃m es k,dd=[wD m es,.str k]/\aY m es/\es.length+1=m/\(∀g∈aF k m es,(∀sp∈g,sp.length<=60)/\(gi [] 0 g).2<2^64)/\Q [] .sh (iD (bC [] 0 (aF k m es)))
def PJ:∀dd Q x,Ek dd Q x->jP nF nZ (bg [false,false] Q x) (ini [false,false] dd++List.replicate 0 none):=by rintro _ Q x⟨m,es,k,rfl,W,ht,hl,q⟩;unfold jP;rfl';refine⟨m,es,k,rfl,W,ht,?_⟩;rfl';refine⟨by lia,aF k m es,[],0,rfl,hl,?_⟩;rfl';exact q
end PB
namespace PB
open PySem L2 Dv
def iU:DS:=bY (wX (ah (xJ "int") [.pk 0]) (mK (ah (xJ "bool") [.pk 0])))
def iN:DS:=au (aK 2 (ah jm [.ev (ah (sF false true) [.pk 0,.pk 1])])) (au (eB (yD (ah (sF true true) [.pk 0,.pk 1,.ev (dC (.int 63))])) (.tp [3,4]) (lV 2 (ah k7 [.pk 3,.pk 1]) (ah dW [.ev (ah ie [.ev (ah br [.pk 2,.ev (ah k7 [.pk 3,.pk 1])]),.ev (dC (.int 31))]),.pk 4]))) (gW 2))
def jd:DS:=au (aK 2 (dC (.int 0))) (Em (cO (bS (ah yC [.ev (ah cN [.pk 0]),.ev (dC (.int 0))])) (aK 2 (ah dW [.ev (ah br [.pk 0,.ev (ah k7 [.pk 1,.ev (ah cN [.pk 0])])]),.ev (ah xr [.pk 1,.ev (ah cN [.pk 0])])])) (dJ)) (au (aK 3 (dC (.int 0))) (Em (cO (bS (qc (ah GW [.pk 2,.ev (dC (.int 0))]) (ah K3 [.pk 2,.ev (ah A8 [.ev (dC (.int 10)),.ev (dC (.int 18))])]))) (aK 3 (ah BC [.pk 2])) (dJ)) (bY (ah bW [.pk 3,.ev (ah k7 [.ev (ah dW [.ev (ah ie [.ev (ah k7 [.pk 2,.ev (dC (.int 2147483629))]),.ev (dC (.int 69621))]),.ev (ah ie [.ev (ah ie [.ev (dC (.int 40009)),.ev (ah dW [.pk 1,.ev (dC (.int 1))])]),.ev (ah dW [.pk 1,.ev (dC (.int 3))])])]),.ev (dC (.int 2147483629))])])))))
def jj:DS:=au (cO (bS (ah yC [.ev (ah br [.pk 0,.ev (dC (.int 0))]),.ev (dC (.int 0))])) (au (aK 2 (ah k7 [.ev (ah br [.pk 0,.ev (dC (.int 0))]),.pk 1])) (au (lV 0 (dC (.int 0)) (ah xr [.ev (ah br [.pk 0,.ev (dC (.int 0))]),.pk 1])) (gW 2))) (dJ)) (au (lV 0 (dC (.int 1)) (ah k7 [.ev (ah dW [.ev (ah ie [.ev (ah br [.pk 0,.ev (dC (.int 1))]),.ev (dC (.int 48271))]),.ev (dC (.int 12820163))]),.ev (dC (.int 2147483647))])) (bY (ah k7 [.ev (ah xr [.ev (ah k7 [.ev (ah ie [.ev (ah k7 [.ev (ah ie [.ev (ah br [.pk 0,.ev (dC (.int 1))]),.ev (ah br [.pk 0,.ev (dC (.int 1))])]),.ev (dC (.int 2147483629))]),.ev (dC (.int 69621))]),.ev (dC (.int 2147483587))]),.ev (dC (.int 8))]),.pk 1])))
def jr(AAS:bF):DS:=au (aK 3 (ah jm [.pk 1])) (bY (bJ [4] (mS qh [.pk 2]) (.nm 4) (cY) (bM sizeLine (oU wK 3 [aG AAS [true,false] [.pk 0,.ev (ah cN [.pk 3])]]))))
def iC(AAQ:bF):DS:=au (aK 3 (aG AAQ [true,false,false] [.pk 0,.ev (ah iG [.pk 1]),.pk 1])) (bY (ah jF [.pk 1,.ev (ah kJ [.ev (ah vI [.ev (bJ [4,5] (iE (aS 2)) (.tp [4,5]) (cY) (bM sizeLine (ah jF [.ev (ah uH [.ev (ah br [.pk 3,.pk 4]),.ev (ah br [.pk 3,.pk 5])]),.ev (ah vz [.ev (ah br [.pk 3,.pk 4]),.ev (ah br [.pk 3,.pk 5])])])))])])]))
def jo(AAS AAK:bF):DS:=au (aK 2 (ah dW [.ev (dC (.int 1)),.ev (aG AAS [true,false] [.pk 0,.pk 1])])) (au (aK 3 (aG AAS [true,false] [.pk 0,.ev (dC (.int 6))])) (au (aK 4 (ah bW [])) (au (eB (mS GK [.ev (dC (.int 1)),.pk 2]) (.nm 5) (au (aK 6 (ah bW [.ev (ah lT [.pk 5,.ev (dC (.int 1))]),.ev (dC (.int 0)),.ev (aG AAS [true,false] [.pk 0,.pk 5]),.ev (ah vz [.ev (dC (.int 0)),.ev (ah lT [.ev (ah lT [.pk 5,.ev (dC (.int 1))]),.ev (aG AAS [true,false] [.pk 0,.ev (dC (.int 3))])])]),.ev (aG AAS [true,false] [.pk 0,.ev (ah uH [.pk 5,.ev (dC (.int 3))])])])) (eN (oU cV 4 [ah jF [.ev (ah br [.ev (ah dW [.pk 6,.ev (ah bW [.ev (ah xr [.ev (ah lT [.pk 5,.ev (dC (.int 1))]),.ev (dC (.int 2))])])]),.pk 3]),.pk 5]])))) (bY (aG AAK [true,false,false] [.pk 0,.pk 2,.pk 4])))))
def ju:DS:=au (aK 1 (oz sizeLine [4] (mS qh [.ev (ah br [.pk 0,.ev (dC (.int 0))])]) (.nm 4) (cY) (ah bW []))) (au (eB (iE (ah br [.pk 0,.ev (dC (.int 1))])) (.tp [2,3]) (au (eN (tM cV 1 (aS 2) 3)) (eN (tM cV 1 (aS 3) 2)))) (bY (bJ [4] (iE (aS 1)) (.nm 4) (cY) (bM sizeLine (ah lX [.pk 4])))))
def iW:DS:=au (aK 2 (ah jZ [.ev (aS 1),.ev (dC (.int 0))])) (au (aK 3 (ah bW [.pk 1])) (au (qE (bS (ah yC [.ev (ah cN [.pk 3]),.ev (dC (.int 0))])) (au (aK 4 (ah bW [])) (au (eB (iE (aS 3)) (.nm 5) (eB (iE (ah br [.pk 0,.pk 5])) (.nm 6) (cO (bS (ah (iA true) [.pk 6,.pk 2])) (au (lV 2 (aS 6) (ah dW [.ev (ah br [.pk 2,.pk 5]),.ev (dC (.int 1))])) (eN (oU cV 4 [aS 6]))) (dJ)))) (aK 3 (aS 4))))) (gW 2)))
def jc:DS:=au (cO (bS (ah (xJ "tuple") [.pk 1])) (bY (ah kJ [.ev (bJ [2] (iE (aS 0)) (.nm 2) (cY) (bM sizeLine (ah uH [.ev (ah br [.pk 2,.ev (ah br [.pk 1,.ev (dC (.int 0))])]),.ev (ah br [.pk 2,.ev (ah br [.pk 1,.ev (dC (.int 1))])])])))])) (dJ)) (bY (ah kJ [.ev (bJ [2] (iE (aS 0)) (.nm 2) (cY) (bM sizeLine (ah br [.pk 2,.pk 1])))]))
def iw:DS:=au (aK 2 (ah iG [.ev (ah br [.pk 0,.ev (dC (.int 0))])])) (bY (ah br [.ev (ah jZ [.ev (dC (.str "places")),.ev (aS 2),.ev (dC (.str "ties")),.ev (ah jm [.ev (ah br [.pk 0,.ev (dC (.int 1))])]),.ev (dC (.str "all")),.ev (ah dW [.pk 2,.ev (ah jm [.ev (ah br [.pk 0,.ev (dC (.int 1))])])])]),.pk 1]))
def jq:DS:=au (aK 2 (ah bW [.ev (ah bW [])])) (au (eB (mS qh [.pk 1]) (.nm 3) (au (aK 4 (ah bW [])) (au (eB (iE (aS 2)) (.nm 5) (eB (iE (aS 0)) (.nm 6) (cO (bS (qc (ah gB [.pk 5,.ev (ah bW [])]) (ah yC [.pk 6,.ev (ah br [.pk 5,.ev (ah uw [.ev (dC (.int 1))])])]))) (eN (oU cV 4 [ah dW [.pk 5,.ev (ah bW [.pk 6])]])) (dJ)))) (aK 2 (aS 4))))) (gW 2))
def iB(AAL AAR AAT AAP AAI:bF):DS:=au (aK 2 (aG AAL [false] [.pk 0])) (au (aK 3 (bJ [8] (mS qh [.ev (ah br [.pk 0,.ev (dC (.int 0))])]) (.nm 8) (cY) (bM sizeLine (aG AAR [false,false] [.pk 2,.pk 8])))) (au (aK 4 (aG AAT [false,false] [.pk 0,.pk 1])) (au (eB (mS qh [.ev (ah dW [.ev (ah br [.pk 0,.ev (dC (.int 0))]),.ev (dC (.int 1))])]) (.nm 5) (au (aK 6 (ah bW [])) (au (eB (iE (aG AAP [false,false] [.ev (ah iG [.ev (ah br [.pk 0,.ev (dC (.int 0))])]),.pk 5])) (.nm 7) (cO (bS (ah gB [.ev (ah zV [.ev (bJ [8] (iE (aS 4)) (.nm 8) (cY) (bM sizeLine (aG AAI [false,false] [.ev (bJ [9] (iE (aS 7)) (.nm 9) (cY) (bM sizeLine (ah br [.pk 3,.pk 9]))),.pk 8])))]),.ev (ah cN [.pk 4])])) (eN (oU cV 6 [aS 7])) (dJ))) (cO (bS (ah l6 [.pk 6,.ev (ah bW [])])) (gW 6) (dJ))))) (bY (dC .none)))))
def eV(AAC AAD:bF):DS:=au (aK 4 (dC .none)) (au (J9 ["NoPlace","NoSuch","NoTree","NotOne"] "HailError" (OH (bS (ah gB [.pk 0,.ev (dC (.int 0))])) (GI AAC [.pk 1,.pk 2,.pk 3] none) (GI AAD [.pk 1,.pk 2,.pk 3] none)) 5 (aK 4 (aS 5))) (au (cO (bS (qc (mK (ah (pV ["NoPlace","NoSuch","NoTree","NotOne"] ["ValueError"]) [.pk 4])) (ah (pV ["NoPlace","NoSuch","NoTree","NotOne"] ["NoLooks"]) [.pk 4]))) (bY (dC (.bool false))) (dJ)) (bY (wX (ah gB [.ev (ah (pV ["NoPlace","NoSuch","NoTree","NotOne"] ["NoSuch"]) [.pk 4]),.ev (ah gB [.pk 0,.ev (dC (.int 0))])]) (ah gB [.ev (ah (pV ["NoPlace","NoSuch","NoTree","NotOne"] ["NotOne"]) [.pk 4]),.ev (ah gB [.pk 0,.ev (dC (.int 1))])])))))
def iV(AAJ AAh AAg AAV AAC AAD AAS AAN AAP:bF):DS:=au (aK 3 (aG AAJ [false,false] [.pk 1,.pk 2])) (au (aK 4 (ah bW [.ev (aG AAh [false,false] [.pk 1,.pk 2]),.ev (aG AAg [false,false] [.pk 1,.pk 2])])) (au (cO (bS (qc (ah l6 [.pk 4,.ev (ah bW [.ev (ah cN [.ev (ah br [.pk 3,.ev (dC (.int 0))])]),.ev (ah cN [.pk 3])])]) (mK (ah wU [.ev (bJ [9] (iE (aS 4)) (.nm 9) (cY) (bM sizeLine (aG AAV [false] [.pk 9])))])))) (bY (dC (.bool false))) (dJ)) (au (eB (mS qh [.ev (ah cN [.pk 3])]) (.nm 5) (au (aK 6 (aG AAC [false,false,false] [.pk 1,.pk 2,.pk 5])) (au (aK 7 (aG AAD [false,false,false] [.pk 1,.pk 2,.ev (ah jm [.ev (ah br [.pk 3,.pk 5])])])) (au (cO (bS (qc (mK (ah (xJ "list") [.pk 6])) (qc (ah l6 [.pk 6,.ev (ah br [.pk 3,.pk 5])]) (qc (ah l6 [.pk 7,.pk 5]) (mK (aG AAV [false] [.pk 7])))))) (bY (dC (.bool false))) (dJ)) (au (eN (oU cV 6 [dC (.int 61)])) (cO (bS (ah l6 [.ev (aG AAC [false,false,false] [.pk 1,.pk 2,.pk 5]),.ev (ah br [.pk 3,.pk 5])])) (bY (dC (.bool false))) (dJ))))))) (au (eB (iE (ah bW [.ev (ah uw [.ev (dC (.int 1))]),.ev (ah cN [.pk 3]),.ev (ah lT [.ev (ah uw [.ev (dC (.int 1))]),.ev (aG AAS [true,false] [.pk 0,.ev (ah A8 [.ev (dC (.int 10)),.ev (dC (.int 9))])])]),.ev (ah dW [.ev (ah cN [.pk 3]),.ev (aG AAS [true,false] [.pk 0,.ev (ah A8 [.ev (dC (.int 10)),.ev (dC (.int 30))])])])])) (.nm 5) (cO (sI (bS (aG AAN [false,false,false,false] [.ev (dC (.int 0)),.pk 1,.pk 2,.pk 5]))) (bY (dC (.bool false))) (dJ))) (au (aK 8 (bJ [9] (iE (aG AAP [false,false] [.ev (ah iG [.ev (ah br [.pk 1,.ev (dC (.int 0))])]),.ev (ah cN [.ev (ah br [.pk 3,.ev (dC (.int 0))])])])) (.nm 9) (bS (ah (iA true) [.pk 9,.pk 3])) (bM sizeLine (aS 9)))) (bY (ah wU [.ev (bJ [9] (iE (aS 8)) (.nm 9) (cY) (bM sizeLine (aG AAN [false,false,false,false] [.ev (dC (.int 1)),.pk 1,.pk 2,.pk 9])))])))))))
def pZ(AAH AAM AAU AAO:bF):DS:=au (aK 1 (aG AAH [false,false] [.pk 0,.ev (dC (.int 3))])) (au (eB (mS qh [.ev (ah vz [.ev (dC (.int 1)),.ev (ah cN [.pk 1])])]) (.nm 2) (au (aK 3 (aG AAM [false,false] [.pk 1,.pk 2])) (au (aK 4 (aG AAU [true,false] [.pk 3,.ev (dC (.int 8))])) (eB (iE (ah bW [.ev (dC (.str "places")),.ev (dC (.str "ties")),.ev (dC (.str "all"))])) (.nm 5) (cO (sI (bS (aG AAO [true,false,false] [.pk 3,.pk 4,.pk 5]))) (bY (dC (.bool false))) (dJ)))))) (bY (dC (.bool true))))
abbrev kK(a b:Int):PyData:=.list [.int a,.int b]
def mX:bF:=λds Q x=>∃(a b:Int) (m:Nat),ds=[kK a b,iD m]/\0<m/\m<2^200/\0<=b/\b<2147483647/\∀(r:Nat) a' b',r<m->0<=b'->b'<2147483647->Q [kK a' b'] .sh (iD r)
def Mj:∀ds Q x,mX ds Q x->jj (bg [true,false] Q x) (ini [true,false] ds++List.replicate 1 none):=by
 rintro _ Q x⟨a,b,m,rfl,h1,h2,h3,h4,q⟩;unfold jj;try bv_omega
 try simp only[dv,dw,dx]
 have hm:(0:Int)<m:=by lia
 have r0:∀z:Int,∃r:Nat,r<m/\z%(m:Int)=(r:Int):=λz=>by have e1:=Xs z (by lia:(m:Int)≠0);have e2:=Xr z hm;exact⟨(z%m).toNat,by lia,by lia⟩
 split
 .obtain⟨r,hr,e⟩:=r0 a;refine⟨hm,⟨hm,?_⟩,?_⟩
  .have:(m:Int)<((2^200:Nat):Int):=Xi.mpr h2;have:((2^200:Nat):Int)<115792089237316195423570985008687907853269984665640564039457584007913129639936:=by decide
   lia
  rw[e];exact q r _ _ hr h3 h4
 have c1:0<=(b*48271+12820163)%2147483647:=Xs _ (by decide);have c2:(b*48271+12820163)%2147483647<2147483647:=Xr _ (by decide);generalize (b*48271+12820163)%2147483647=y at *;have c3:0<=y*y%2147483629:=Xs _ (by decide);have c4:y*y%2147483629<2147483629:=Xr _ (by decide);refine⟨.inr (by clear q r0 c3 c4;lia),by decide,.inl (by clear q r0 c3 c4;lia),by decide,.inr (by clear q r0 c1 c2;lia),by decide,⟨by decide,by decide⟩,hm,?_⟩;obtain⟨r,hr,e⟩:=r0 (y*y%2147483629*69621%2147483587/8);rw[e];exact q r _ _ hr c1 c2
def zb:bF:=λds Q x=>∃(cs:A04) (k:Nat),ds=[.list (cs.map .int),iD k]/\cs.length<=10/\k<=10/\∀a b:Int,0<=b->b<2147483647->Q [] (.ow false) (kK a b)
def MS:∀ds Q x,zb ds Q x->jd (bg [false,false] Q x) (ini [false,false] ds++List.replicate 2 none):=by
 rintro _ Q x⟨cs,k,rfl,h1,h2,q⟩;unfold jd;try bv_omega
 try simp only[dv,dw,dx]
 refine⟨λE=>∃cell:Int,E=[some (.sh,.list (cs.map .int)),some (.sh,iD k),some (.sh,.int cell),none],?_,?_⟩
 .try bv_omega
  try simp only[dv,dw,dx]
  split
  .rename_i h;rw[V4]at h⊢;have hl:0<cs.length:=by lia
   refine⟨h,?_⟩;rw[<-Int.natCast_emod,rj,VX (XS _ hl)];exact⟨⟨h,by lia⟩,_,rfl⟩
  exact⟨0,rfl⟩
 rintro _⟨cell,rfl⟩;try bv_omega
 try simp only[dv,dw,dx]
 refine Mg ?_;try bv_omega
 try simp only[dv,dw,dx]
 have e1:=Xs cell (by decide:(2147483629:Int)≠0);have e2:=Xr cell (by decide:(0:Int)<2147483629);have a1:kY (cell%2147483629) 69621:=.inr (by clear q;lia);clear e1 e2;have a2:kY 40009 ((k:Int)+1):=.inl (by clear q a1;lia);have a3:kY (40009*((k:Int)+1)) ((k:Int)+3):=.inr (by clear q a1 a2;lia);have e3:=Xs (cell%2147483629*69621+40009*((k:Int)+1)*(k+3)) (by decide:(2147483629:Int)≠0);have e4:=Xr (cell%2147483629*69621+40009*((k:Int)+1)*(k+3)) (by decide:(0:Int)<2147483629);have fin:∀z:Int,0<(2147483629:Int)/\kY (cell%2147483629) 69621/\kY 40009 ((k:Int)+1)/\kY (40009*((k:Int)+1)) ((k:Int)+3)/\0<(2147483629:Int)/\0+1+1<=16777216/\Q [] (Kd.ow false) (PyData.list [PyData.int z,PyData.int ((cell%2147483629*69621+40009*((k:Int)+1)*((k:Int)+3))%2147483629)]):=λz=>⟨by decide,a1,a2,a3,by decide,by decide,q _ _ e3 (Int.lt_trans e4 (by decide))⟩;split;{exact fin _};refine⟨⟨by decide,by decide,by decide⟩,?_⟩;split;{exact fin _};exact fin _
def vh:bF:=λds Q x=>∃(ns:A04) (m:Nat),ds=[.list (ns.map .int),iD m]/\0<m/\m<=10/\∀cs:A04,cs.length<=m->Q [] (.ow false) (.list (cs.map .int))
def Jp:∀ds Q x,vh ds Q x->iN (bg [false,false] Q x) (ini [false,false] ds++List.replicate 3 none):=by
 rintro _ Q x⟨ns,m,rfl,h0,h1,q⟩;unfold iN;try bv_omega
 try simp only[dv,dw,dx,dy,Bt,V4,show(63:Int)=((63:Nat):Int)from rfl,AV,tN]
 have hm:(0:Int)<m:=by lia
 refine u7 (λi E=>∃(cs:A04)(a b:A08),E=[some (.sh,.list (ns.map .int)),some (.sh,iD m),some (.ow false,.list (cs.map .int)),a,b]/\bH a=true/\bH b=true/\cs.length=min m ns.length) ?_ ?_ ?_;{exact⟨ns.take m,none,none,rfl,rfl,rfl,WK⟩}
 .rintro i⟨d,k⟩E hi⟨cs,a,b,rfl,ha,hb,hl⟩;have hi:=cX hi;rw[List.length_zipIdx,Xo,WK]at hi;have hk:k%m<cs.length:=by have:=XS k h0;lia
  try bv_omega
  try simp only[dv,dw,dx,ha,hb,dz]
  refine⟨h0,cR (VX hk) ⟨.inr (by lia),h0,M3 hk ⟨cs.set (k%m) (cs[k%m]*31+d),some (.sh,iD k),some (.sh,.int d),by rw[List.map_set],rfl,rfl,by rw[Vs];exact hl⟩⟩⟩
 rintro _⟨cs,a,b,rfl,ha,hb,hl⟩;try bv_omega
 try simp only[dv,dw,dx]
 exact q cs (by lia)
def yT:bF:=λds Q x=>∃(a b:Int)(ns:A03) (k:Nat),ds=[kK a b,nD ns,iD k]/\k<=ns.length/\ns.length<=1000/\0<=b/\b<2147483647/\∀(ms rest:A03) a' b',ms.length=k->(ms++rest).Perm ns->0<=b'->b'<2147483647->Q [kK a' b'] (.ow false) (nD ms)
theorem u5:∀(rs:A03){j:Nat}(h:j<rs.length),([rs[j]]++rs.eraseIdx j).Perm rs
 |[],_,h=>by cases h
 |r::rs,0,_=>by rw[List.eraseIdx_cons_zero];exact List.Perm.refl _
 |r::rs,j+1,h=>by rw[YZ];have ih:=u5 rs (j:=j) (by rw[VF]at h;lia);exact(List.Perm.swap _ _ _).trans (ih.cons _)
theorem x6{f:Nat->PyData}:∀{rs:A03}{j:Nat},(rs.map f).eraseIdx j=(rs.eraseIdx j).map f
 |[],_=>rfl
 |r::rs,0=>rfl
 |r::rs,j+1=>by rw[VH,YZ,YZ,VH,x6]
def Nh{r n:Nat}(h:r<n):seqIndex? (r:Int) n=some r:=by unfold seqIndex?;simp;lia
def Nj:∀ds Q x,yT ds Q x->jr mX (bg [true,false,false] Q x) (ini [true,false,false] ds++List.replicate 2 none):=by
 rintro _ Q x⟨a,b,ns,k,rfl,h0,h1,h2,h3,q⟩;unfold jr;rfl';rw[if_pos (by lia)];refine cR rfl ?_;refine LX _ (λi ys E=>∃(a b:Int)(ms rest:A03)(o:A08),ys=ms.map iD/\E=[some (.ow true,kK a b),some (.sh,nD ns),some (.sh,iD k),some (.ow false,nD rest),o]/\bH o=true/\ms.length=i/\(ms++rest).Perm ns/\0<=b/\b<2147483647) rfl ⟨a,b,[],ns,_,rfl,rfl,rfl,rfl,List.Perm.refl _,h2,h3⟩ ?_ ?_
 .rintro i j ys E hi⟨a,b,ms,rest,o,rfl,rfl,ho,hm,hp,h2,h3⟩;have hi:=cX hi;rw[VI]at hi;have hl:=hp.length_eq;rw[VD]at hl;have hr:0<rest.length:=by lia
  try bv_omega
  try simp only[dv,dw,dx,ho,dz]
  refine⟨a,b,rest.length,rfl,hr,by lia,h2,h3,λr a' b' hr' h2' h3'=>?_⟩;try bv_omega
  try simp only[dv,dw,dx,dz]
  refine⟨⟨by lia,by lia⟩,r,iD rest[r],Nh hr',by rw[VQ,VX hr'];rfl,by lia,a',b',ms++[rest[r]],rest.eraseIdx r,some (.sh,iD j),by rw[VT];rfl,by rw[x6],rfl,by rw[VD,hm];rfl,?_,h2',h3'⟩;rw[W5];exact(ZM ms (u5 rest hr')).trans hp
 rintro ys E⟨a,b,ms,rest,o,rfl,rfl,ho,hm,hp,h2,h3⟩;try bv_omega
 try simp only[dv,dw,dx,ho,dz]
 rw[VI]at hm;exact q ms rest _ _ hm hp h2 h3
def Aq{ms:A03}{m:Nat}(pm:ms.Perm (List.range m)){a:Nat}(ha:a<m):ms[a]?=some (ms.getD a 0)/\ms.getD a 0<m:=by
 have h:a<ms.length:=by rw[pm.length_eq,VI];exact ha
 have e:ms.getD a 0=ms[a]:=by rw[Vk,VX h];rfl
 rw[e];exact⟨VX h,VL.mp (pm.mem_iff.mp (Wj h))⟩
def vH:bF:=λds Q x=>∃(a b:Int) (m:Nat)(ps:Zr),ds=[kK a b,iD m,.list (ps.map gz)]/\1<=m/\m<=60/\Gr.Good m ps/\Gr.dI m ps/\ps.length<=63/\0<=b/\b<2147483647/\∀es a' b',aY m es->es.length=ps.length->0<=b'->b'<2147483647->Q [kK a' b'] .sh (wD m es)
def JJ:∀ds Q x,vH ds Q x->iC yT (bg [true,false,false] Q x) (ini [true,false,false] ds++List.replicate 3 none):=by
 rintro _ Q x⟨a,b,m,ps,rfl,h0,h1,gd,cn,few,h2,h3,q⟩;unfold iC;rfl';refine⟨⟨by lia,by lia⟩,⟨a,b,List.range m,m,rfl,by rw[VI];exact V3 _,by rw[VI];lia,h2,h3,λms rest a' b' hm hp h2 h3=>?_⟩⟩;have pm:ms.Perm (List.range m):=by have:=hp.length_eq;rw[VD,hm,VI]at this;have e:rest=[]:=YO (by lia);rw[e,Vm]at hp;exact hp
 rfl';refine eY (λe=>gz (Gr.yo ms e)) rfl (λe he I hI=>?_) ?_ (by lia);{have hl:=gd.lt e he;have g1:=Aq pm (by lia:e.1<m);have g2:=Aq pm hl.2;simp![g1.1,g2.1];exact⟨by lia,hI _ rfl⟩};rfl';have e:ps.map (λe=>gz (Gr.yo ms e))=(ps.map (Gr.yo ms)).map gz:=by rw[VR];rfl
 rw[e];refine M8 (by rw[V4];exact few) λqs pq=>?_;rfl';refine⟨by lia,q qs _ _ ⟨h0,h1,?_,?_⟩ ?_ h2 h3⟩;{exact Gr.Good.perm pq (Gr.EM pm gd)};{exact Gr.GX pq (Gr.D5 pm cn)};rw[pq.length_eq,V4]
def yY:bF:=λds Q x=>∃(a b:Int) (mo:Nat),ds=[kK a b,iD mo]/\0<mo/\mo<=60/\0<=b/\b<2147483647/\∀m es a' b',m<=mo->aY m es->es.length+1=m->0<=b'->b'<2147483647->Q [kK a' b'] .sh (wD m es)
structure Up(i:Nat)(ps:Zr):Prop where
 len:ps.length=i
 at':∀(k:Nat)(e:Nat×Nat),ps[k]?=some e->e.2=k+1/\e.1<=k
def Up.snoc{i p:Nat}(h:Up i ps)(hp:p<=i):Up (i+1) (ps++[(p,i+1)]):=by refine⟨by rw[VD,h.len];rfl,λk e he=>?_⟩;rw[List.getElem?_append]at he;split at he;{exact h.at' k e he};rename_i hk;rw[List.getElem?_singleton]at he;split at he;{rename_i h0;cases he;have:=h.len;show i+1=k+1/\p<=k;lia};cases he
def Up.mem{i:Nat}(h:Up i ps)(he:e∈ps):e.1<e.2/\e.2<=i:=by obtain⟨k,hk⟩:=ZY.mp he;have:=h.at' k e hk;have:=cX hk;have:=h.len;lia
def Up.good{m:Nat}(h:Up (m-1) ps)(hm:1<=m):Gr.Good m ps:=by refine⟨λe he=>?_,?_⟩;{have:=h.mem he;lia};refine XX.mpr λi j hi hj l e=>?_;have h1:=h.at' i _ (VX hi);have h2:=h.at' j _ (VX hj);rw[e]at h1;lia
def Up.conn{m:Nat}(h:Up (m-1) ps):Gr.dI m ps:=by
 refine Gr.Nn λk h0 hk=>?_;have hl:k-1<ps.length:=by rw[h.len];lia
 have:=h.at' (k-1) _ (VX hl);refine⟨ps[k-1].1,by lia,?_⟩;have e:(ps[k-1].1,k)=ps[k-1]:=Prod.ext rfl (by show k=ps[k-1].2;lia);rw[e];exact Wj hl
def L5:∀ds Q x,yY ds Q x->jo mX vH (bg [true,false] Q x) (ini [true,false] ds++List.replicate 5 none):=by
 rintro _ Q x⟨a,b,mo,rfl,h0,h1,h2,h3,q⟩;unfold jo;rfl';refine⟨a,b,mo,rfl,h0,by lia,h2,h3,λr a b hr h2 h3=>?_⟩;rfl';refine⟨a,b,6,rfl,by lia,by lia,h2,h3,λsh a b hsh h2 h3=>?_⟩;rfl';refine⟨by lia,?_⟩;have e1:(1:Int)+(r:Int)=((r+1:Nat):Int):=by lia
 rw[e1,if_pos (by lia)];refine cR rfl ?_;have e2:(((r+1:Nat):Int)-1).toNat=r:=by lia
 rw[e2];refine u7 (λi E=>∃(a b:Int)(ps:Zr)(o o2:A08),E=[some (.ow true,kK a b),some (.sh,iD mo),some (.sh,iD (r+1)),some (.sh,iD sh),some (.ow false,.list (ps.map gz)),o,o2]/\bH o=true/\bH o2=true/\Up i ps/\0<=b/\b<2147483647) ?_ ?_ ?_;{exact⟨a,b,[],none,none,rfl,rfl,rfl,⟨rfl,λk e h=>by cases h⟩,h2,h3⟩}
 .rintro i k _ hi⟨a,b,ps,o,o2,rfl,ho,ho2,up,h2,h3⟩;have hi':=cX hi;rw[W7 (by rw[VI]at hi';exact hi')]at hi;cases hi;rw[VI]at hi';simp![ho];refine⟨a,b,i+1,rfl,by lia,by lia,h2,h3,λr1 a b hr1 h2 h3=>?_⟩;simp![ho2];refine⟨a,b,3,rfl,by lia,by lia,h2,h3,λr2 a b hr2 h2 h3=>?_⟩;have e3:((i+1:Nat):Int)-1=(i:Int):=by lia
  have e4:(if(3:Int)<((i+1:Nat):Int)then(3:Int)else((i+1:Nat):Int))=((min (i+1) 3:Nat):Int):=by split<;>lia
  simp![ho2,e3,e4];refine⟨a,b,min (i+1) 3,rfl,by lia,by lia,h2,h3,λr3 a b hr3 h2 h3=>?_⟩;simp![ho2,e3,Ii];refine⟨by lia,⟨by lia,by lia⟩,by lia,by lia,?_⟩;have hin:∀z∈[PyData.int (i:Int),PyData.int 0,iD r1,PyData.int (if(i:Int)-(r2:Int)>0 then(i:Int)-(r2:Int)else 0),iD r3,PyData.int ((i:Int)/2)],∃p:Nat,p<=i/\z=iD p:=by intro z hz;simp only[V7,VE,WN]at hz;rcases hz with rfl|rfl|rfl|rfl|rfl|rfl;{exact⟨i,by lia,rfl⟩};{exact⟨0,by lia,rfl⟩};{exact⟨r1,by lia,rfl⟩};{exact⟨i-r2,by lia,by congr 1;split<;>lia⟩};{exact⟨r3,by lia,rfl⟩};exact⟨i/2,by lia,by congr 1⟩
  have hlen:[PyData.int (i:Int),PyData.int 0,iD r1,PyData.int (if(i:Int)-(r2:Int)>0 then(i:Int)-(r2:Int)else 0),iD r3,PyData.int ((i:Int)/2)].length=6:=rfl;generalize [PyData.int (i:Int),PyData.int 0,iD r1,PyData.int (if(i:Int)-(r2:Int)>0 then(i:Int)-(r2:Int)else 0),iD r3,PyData.int ((i:Int)/2)]=L at hin hlen⊢;have hs:sh<L.length:=by lia
  obtain⟨p,hp,ep⟩:=hin _ (Wj hs);refine cR (VX hs) ⟨by lia,by rw[up.len];lia,a,b,ps++[(p,i+1)],_,_,by rw[ep,VT];rfl,rfl,rfl,up.snoc hp,h2,h3⟩
 rintro _⟨a,b,ps,o,o2,rfl,ho,ho2,up,h2,h3⟩;rfl';rw[VI]at up;refine⟨a,b,r+1,ps,rfl,by lia,by lia,Up.good (m:=r+1) up (by lia),Up.conn (m:=r+1) up,by rw[up.len];lia,h2,h3,λes a' b' W hl h2 h3=>?_⟩;rfl';exact q _ es _ _ (by lia) W (by rw[hl,up.len]) h2 h3
end PB
namespace PB
open PySem L2 Dv Gr
variable{m p:Nat}{es:Zr}
theorem Ra{a:Nat}:∀{m:Nat},m<=a->((List.range m).map λp=>if p=a then 1 else 0).sum=0
 |0,_=>rfl
 |m+1,h=>by rw[YB,VT,Yq,Ra (by lia)];simp;lia
theorem Jw{a:Nat}:∀{m:Nat},a<m->((List.range m).map λp=>if p=a then 1 else 0).sum=1
 |0,h=>by lia
 |m+1,h=>by rw[YB,VT,Yq];by_cases c:a=m;{rw[Ra (by lia)];simp[c]};rw[Jw (by lia)];simp;lia
theorem sum_add{f g:Nat->Nat}:∀{l:A03},(l.map λx=>f x+g x).sum=(l.map f).sum+(l.map g).sum
 |[]=>rfl
 |a::l=>by simp only[VH,Vu,sum_add (l:=l)];lia
def JQ{e:Nat×Nat}(h:e.1<e.2):c9 (e::es) p=((if p=e.1 then 1 else 0)+(if p=e.2 then 1 else 0))+c9 es p:=by unfold c9 bQ;rw[Vy];unfold nb;by_cases c1:e.1=p;{rw[if_pos c1,if_pos c1.symm,if_neg (by lia)];simp only[VF];lia};by_cases c2:e.2=p;{rw[if_neg c1,if_pos c2,if_neg (Ne.symm c1),if_pos c2.symm];simp only[VF];lia};rw[if_neg c1,if_neg c2,if_neg (Ne.symm c1),if_neg (Ne.symm c2)];simp
theorem K5:∀{es:Zr},(∀e∈es,e.1<e.2/\e.2<m)->((List.range m).map (c9 es)).sum=2*es.length
 |[],_=>by
  have:∀l:A03,(l.map (c9 [])).sum=0:=λl=>by
   induction l with
   |nil=>rfl
   |cons a l ih=>rw[VH,Vu,ih];rfl
  rw[this];rfl
 |e::es,h=>by have h1:=h e V1;rw[show(List.range m).map (c9 (e::es))=(List.range m).map λp=>((if p=e.1 then 1 else 0)+(if p=e.2 then 1 else 0))+c9 es p from W3 λp _=>JQ h1.1];rw[sum_add,sum_add,Jw (by lia),Jw (by lia),show(List.range m).map (λp=>c9 es p)=(List.range m).map (c9 es)from rfl,K5 λe he=>h e (V5 _ he),VF];lia
theorem zl{f:Nat->Nat}:∀{l:A03},(∀x∈l,f x=1\/f x=2)->(l.map f).sum+(l.filter λx=>decide (f x=1)).length=2*l.length
 |[],_=>rfl
 |a::l,h=>by have:=zl (l:=l) λx hx=>h x (V5 _ hx);rw[VH,Vu,Wr,VF];rcases h a V1 with z|z;{rw[if_pos (Ve z),VF];lia};rw[if_neg (by simp[z])];lia
def Tree.xA(T:Tree m es)(h2:2<=m)(hp:p<m):1<=c9 es p:=by
 have:∃x,x<m/\x≠p:=by by_cases c:p=0;{exact⟨1,by lia,by lia⟩};exact⟨0,by lia,by lia⟩
 obtain⟨x,hx,ne⟩:=this;obtain⟨n,a,_⟩:=T.some hp hx ne;have:=bD.mpr a;exact Xc this
def Tree.tZ(T:Tree m es)(h2:2<=m)(hf:cL m es=[]):(ens m es).length=2:=by
 have h1:=K5 (m:=m) (es:=es) λe he=>T.gd.lt e he;have h3:=zl (f:=c9 es) (l:=List.range m) λx hx=>by
  have hx':=VL.mp hx;have h4:=Tree.xA T h2 hx';have h5:¬2<c9 es x:=λz=>by have:x∈cL m es:=VJ.mpr ⟨hx,Ve z⟩;rw[hf]at this;exact absurd this VE
  lia
 have h6:=T.len;rw[VI]at h3;unfold ens;lia
def Gq{n:Nat}:¬aN es p n p:=λh=>by unfold aN at h;rw[b7]at h;lia
variable{m p:Nat}{es:Zr}
def SY{g:Zo}:dl 8 (PyData.list (g.map nD))=true:=by simp only[dl,XD,VN];intro a _;simp only[Function.comp,dl,XD,VN];intro b _;trivial
variable{m p:Nat}{es:Zr}
def lens(g:Zo):A03:=g.map List.length
def QL{sp:A03}:cQ sp [] 0=(sp.length,1):=by
 unfold cQ;have e1:(sp.filter λs=>decide (s∈([]:A03)))=[]:=Yx.mpr λa _=>by simp
 have e2:(sp.filter λs=>decide (0<=s))=sp:=List.filter_eq_self.mpr λa _=>by simp
 rw[e1,e2,if_neg (by simp)]
theorem Iu:∀{g:Zo}{a b:Nat},g.foldl (λa sp=>(a.1*(cQ sp [] 0).1,a.2*(cQ sp [] 0).1+a.1*(cQ sp [] 0).2)) (a,b)=(a*ez (lens g),b*ez (lens g)+a*but (lens g))
 |[],a,b=>by simp[lens,ez,but]
 |sp::g,a,b=>by rw[Yb,QL];show g.foldl _ (a*sp.length,b*sp.length+a*1)=_;rw[Iu];show _=(a*(sp.length*ez (lens g)),b*(sp.length*ez (lens g))+a*(ez (lens g)+sp.length*but (lens g)));rw[Nat.mul_one,Nat.add_mul,Nat.mul_add,YN,YN,YN,Nat.add_assoc]
def zf{g:Zo}:(gi [] 0 g).2=but (lens g):=by unfold gi;rw[Iu];simp
theorem rJ(T:Tree m es)(hp:p<m):∀{ns:A03},ns.Nodup->(∀n∈ns,aB es p n)->(ns.map (pc m es p)).flatten.Nodup
 |[],_,_=>W8
 |n::ns,nd,ha=>by rw[VH,Wb];refine Vv.mpr ⟨List.Pairwise.imp (λh=>VC h) yW,rJ T hp (Vi.mp nd).2 λk hk=>ha k (V5 _ hk),λx hx y hy e=>?_⟩;subst e;obtain⟨c,hc,hxc⟩:=Wz.mp hy;obtain⟨k,hk,rfl⟩:=V6.mp hc;have h1:=b8.mp hx;have h2:=b8.mp hxc;have:=T.kR h1.1 (ha n V1) (ha k (V5 _ hk)) h1.2 h2.2;subst this;exact(Vi.mp nd).1 hk
structure Gp(g:Zo):Prop where
 sum:(lens g).sum<=60
 pos:∀c∈g,0<c.length
def Gp.le{g:Zo}(h:Gp g):∀c∈g,c.length<=60:=λc hc=>by
 have h1:∀(l:A03) (a:Nat),a∈l->a<=l.sum:=λl a ha=>by
  induction l with
  |nil=>exact absurd ha VE
  |cons b l ih=>rw[Vu];rcases V7.mp ha with z|z;{lia};have:=ih z;lia
 have:=h1 (lens g) _ (V6.mpr ⟨c,hc,rfl⟩);have:=h.sum;lia
def Gp.small{g:Zo}(h:Gp g):but (lens g)<2^64:=Nat.lt_of_le_of_lt wO (Nat.pow_lt_pow_right (by lia) (by have:=h.sum;lia))
def Fw(W:aY m es)(T:Tree m es)(hp:p<m):Gp (gx m es p):=by
 unfold gx;rw[Yy];refine⟨?_,λc hc=>?_⟩
 .have nd:((bQ es p).filter ((λc=>decide (¬ ∃y∈c,y∈cL m es))∘pc m es p)).Nodup:=WI Wk (W.gd.fN p);have h1:=rJ T hp nd λn hn=>bD.mp (VJ.mp hn).1;have h2:=Gr.dm m _ h1 λx hx=>by obtain⟨c,hc,hxc⟩:=Wz.mp hx;obtain⟨k,hk,rfl⟩:=V6.mp hc;exact(b8.mp hxc).1
  rw[List.length_flatten]at h2;have:=W.le;unfold lens;lia
 obtain⟨n,hn,rfl⟩:=V6.mp hc;have a:=bD.mp (VJ.mp hn).1;exact Xc (b8.mpr ⟨(T.gd.bT a).2,fX T hp a⟩)
def kind_len(W:aY m es)(ht:es.length+1=m){k:Str}(hk:dB k):(aD k m es).length=if k="places" then m else if k="ties" then m-1 else 2*m-1:=by unfold aD;rcases hk with rfl|rfl|rfl;{rw[if_neg (by decide),if_pos rfl,if_pos rfl,Vm,V4,VI]};{rw[if_pos rfl,if_neg (by decide),if_neg (by decide),if_pos rfl,Xz,V4];lia};rw[if_neg (by decide),if_neg (by decide),if_neg (by decide),if_neg (by decide),VD,V4,V4,VI];lia
def vX(W:aY m es)(ht:es.length+1=m){k:Str}(hk:dB k):(aF k m es).length<=60/\(∀g∈aF k m es,g≠[])/\∀g∈aF k m es,(∀sp∈g,sp.length<=60)/\(gi [] 0 g).2<2^64:=by
 have T:Tree m es:=⟨W.gd,W.cn,ht⟩;have hm:=W.le;have hel:(ens m es).length<=m:=by have:=WO (λp=>decide (c9 es p=1)) (List.range m);rw[VI]at this;exact this
 have hfl:(cL m es).length<=m:=by have:=WO (λp=>decide (2<c9 es p)) (List.range m);rw[VI]at this;exact this
 unfold aF;split;{exact⟨by simp,λg hg=>absurd hg VE,λg hg=>absurd hg VE⟩};rename_i c;split;{refine⟨by rw[V4];lia,λg hg=>?_,λg hg=>?_⟩;{obtain⟨e,_,rfl⟩:=V6.mp hg;exact XE _ _};obtain⟨e,_,rfl⟩:=V6.mp hg;refine⟨λsp hs=>?_,by rw[zf];simp[lens,but,ez]⟩;rcases V7.mp hs with rfl|z;{simp};rw[VB.mp z];simp};split
 .rename_i ka hf;have h2:2<=m:=by rw[kind_len W ht hk]at c;rcases hk with rfl|rfl|rfl;{rw[if_pos rfl]at c;lia};{rw[if_neg (by decide),if_pos rfl]at c;lia};exact absurd rfl ka
  have h3:=Tree.tZ T h2 hf;refine⟨by simp,λg hg z=>?_,λg hg=>?_⟩;{rw[VB.mp hg,Yt]at z;rw[z]at h3;cases h3};rw[VB.mp hg,zf];refine⟨λsp hs=>?_,?_⟩;{obtain⟨e,_,rfl⟩:=V6.mp hs;simp}
  match hh:ens m es,h3 with
  |[a,b],_=>simp[lens,but,ez]
 refine⟨?_,λg hg=>Vf (VJ.mp hg).2,λg hg=>?_⟩;{have:=WO (λg=>decide (g≠[])) ((cL m es).map (gx m es));rw[V4]at this;lia};obtain⟨p,hp,rfl⟩:=V6.mp (VJ.mp hg).1;have G:=Fw W T (VL.mp (VJ.mp hp).1);exact⟨G.le,by rw[zf];exact G.small⟩
def dP(x y:Nat×Nat):Nat×Nat:=(x.1*y.1,x.2*y.1+x.1*y.2)
def jN(x y:Nat×Nat):Nat×Nat:=(x.1+y.1,x.2+y.2)
def D3(x y z:Nat×Nat):dP (dP x y) z=dP x (dP y z):=by unfold dP;simp only[Prod.mk.injEq];constructor<;>grind
def Ke(x y z:Nat×Nat):dP x (jN y z)=jN (dP x y) (dP x z):=by unfold dP jN;simp only[Prod.mk.injEq];constructor<;>grind
def Kv(x y z:Nat×Nat):dP (jN y z) x=jN (dP y x) (dP z x):=by unfold dP jN;simp only[Prod.mk.injEq];constructor<;>grind
def gp(f:A03->Nat×Nat):Zo->Nat×Nat
 |[]=>(1,0)
 |sp::g=>dP (f sp) (gp f g)
theorem Ae:∀{g:Zo}{x:Nat×Nat},g.foldl (λa sp=>(a.1*(f sp).1,a.2*(f sp).1+a.1*(f sp).2)) x=dP x (gp f g)
 |[],x=>by show x=dP x (1,0);unfold dP;simp
 |sp::g,x=>by rw[Yb,Ae,gp,<-D3];rfl
def gh{st:Nat}:gi ls st g=gp (λsp=>cQ sp ls st) g:=by unfold gi;rw[Ae];unfold dP;simp
theorem rL:∀{g:Zo},(∀sp∈g,f sp=h sp)->gp f g=gp h g
 |[],_=>rfl
 |sp::g,e=>by rw[gp,gp,e sp V1,rL λs hs=>e s (V5 _ hs)]
theorem GD(e:f sp=jN (f1 sp) (f2 sp))(hb:∀s∈b,f s=f1 s/\f s=f2 s):∀{a:Zo},(∀s∈a,f s=f1 s/\f s=f2 s)->gp f (a++sp::b)=jN (gp f1 (a++sp::b)) (gp f2 (a++sp::b))
 |[],_=>by show dP (f sp) (gp f b)=jN (dP (f1 sp) (gp f1 b)) (dP (f2 sp) (gp f2 b));rw[e,Kv,<-rL λs hs=>(hb s hs).1,<-rL λs hs=>(hb s hs).2]
 |s::a,ha=>by have h:=ha s V1;show dP (f s) (gp f (a++sp::b))=jN (dP (f1 s) (gp f1 (a++sp::b))) (dP (f2 s) (gp f2 (a++sp::b)));rw[GD e hb λs hs=>ha s (V5 _ hs),Ke,<-h.1,<-h.2]
def av(gs:List (Zo)):A03:=gs.flatten.flatten
section
variable{gs:List (Zo)}{L T:A03}
def dZ{x:Nat}:x∈av gs↔∃g∈gs,∃sp∈g,x∈sp:=by unfold av;constructor;{intro h;obtain⟨sp,h1,h2⟩:=Wz.mp h;obtain⟨g,h3,h4⟩:=Wz.mp h1;exact⟨g,h3,sp,h4,h2⟩};rintro⟨g,h3,sp,h4,h2⟩;exact Wz.mpr ⟨sp,Wz.mpr ⟨g,h3,h4⟩,h2⟩
def uu{st st':Nat}(h1:∀x∈sp,x∈L↔x∈L')(h2:∀x∈sp,st<=x↔st'<=x):cQ sp L st=cQ sp L' st':=by unfold cQ;rw[YL (q:=λs=>decide (s∈L')) λx hx=>by simp[h1 x hx],YL (p:=λs=>decide (st<=s)) (q:=λs=>decide (st'<=s)) λx hx=>by simp[h2 x hx]]
def AX{st st':Nat}(h1:∀x∈av gs,x∈L↔x∈L')(h2:∀x∈av gs,st<=x↔st'<=x):bC L st gs=bC L' st' gs:=by unfold bC;congr 1;refine W3 λg hg=>?_;rw[gh,gh,rL λsp hs=>uu (λx hx=>h1 x (dZ.mpr ⟨g,hg,sp,hs,hx⟩)) λx hx=>h2 x (dZ.mpr ⟨g,hg,sp,hs,hx⟩)]
def vZ:ez (a++b)=ez a*ez b:=by
 induction a with
 |nil=>show ez b=1*ez b;lia
 |cons x a ih=>show x*ez (a++b)=x*ez a*ez b;rw[ih,YN]
theorem Cv{s:Nat}:∀{sp:A03},sp.Nodup->s∈sp->(sp.filter λx=>decide (s<=x)).length=(sp.filter λx=>decide (s+1<=x)).length+1
 |[],_,h=>absurd h VE
 |a::sp,n,h=>by obtain⟨n1,n2⟩:=Vi.mp n;rcases V7.mp h with rfl|h;{rw[WQ (by simp),WR (by simp),VF];congr 2;refine YL λx hx=>?_;have:x≠s:=λz=>n1 (z▸hx);rw[decide_eq_decide];lia};have ne:a≠s:=λz=>n1 (z▸h);have ih:=Cv n2 h;by_cases c:s<=a;{rw[WQ (by simpa using c),WQ (by simp;lia),VF,VF,ih]};rw[WR (by simpa using c),WR (by simp;lia),ih]
theorem Hr{s:Nat}:∀{sp:A03},sp.Nodup->s∈sp->s∉L->(sp.filter λx=>decide (x∈L++[s])).length=(sp.filter λx=>decide (x∈L)).length+1
 |[],_,h,_=>absurd h VE
 |a::sp,n,h,nl=>by obtain⟨n1,n2⟩:=Vi.mp n;rcases V7.mp h with rfl|h;{rw[WQ (by simp),WR (by simpa using nl),VF];congr 2;refine YL λx hx=>?_;have:x≠s:=λz=>n1 (z▸hx);simp[this]};have ne:a≠s:=λz=>n1 (z▸h);have ih:=Hr n2 h nl;by_cases c:a∈L;{rw[WQ (by simp[c]),WQ (by simpa using c),VF,VF,ih]};rw[WR (by simp[c,ne]),WR (by simpa using c),ih]
def ND{s:Nat}(n:sp.Nodup)(h:s∈sp)(nl:s∉L):cQ sp L s=jN (cQ sp (L++[s]) (s+1)) (cQ sp L (s+1)):=by unfold cQ;rw[Hr n h nl,Cv n h];generalize (sp.filter λx=>decide (x∈L)).length=k;generalize (sp.filter λx=>decide (s+1<=x)).length=j;rw[if_pos (by lia:0<k+1)];by_cases c:0<k;{rw[if_pos c,if_neg (by lia:¬k+1=1),if_pos c];unfold jN;simp};rw[if_neg c,if_neg c,if_pos (by lia:k+1=1)];unfold jN;simp;lia
def Mk{s:Nat}(nd:(av gs).Nodup)(h:s∈av gs)(nl:s∉L):bC L s gs=bC (L++[s]) (s+1) gs+bC L (s+1) gs:=by
 obtain⟨g,hg,sp,hs,hx⟩:=dZ.mp h;obtain⟨A,B,rfl⟩:=List.append_of_mem hg;obtain⟨a,b,rfl⟩:=List.append_of_mem hs;have nd':=nd;unfold av at nd';simp only[XG,Wb,W5]at nd';have hA:∀g∈A,∀t∈g,s∉t:=λg hg t ht z=>by have h1:s∈A.flatten.flatten:=dZ.mpr ⟨g,hg,t,ht,z⟩;exact(Vv.mp nd').2.2 s h1 s (V8.mpr (.inr (V8.mpr (.inl hx)))) rfl
 have nd1:=(Vv.mp nd').2.1;have ha:∀t∈a,s∉t:=λt ht z=>(Vv.mp nd1).2.2 s (Wz.mpr ⟨t,ht,z⟩) s (V8.mpr (.inl hx)) rfl;have nd2:=(Vv.mp nd1).2.1;have hsp:sp.Nodup:=(Vv.mp nd2).1;have hb:∀t∈b,s∉t:=λt ht z=>(Vv.mp nd2).2.2 s hx s (V8.mpr (.inl (Wz.mpr ⟨t,ht,z⟩))) rfl;have hB:∀g∈B,∀t∈g,s∉t:=λg hg t ht z=>(Vv.mp nd2).2.2 s hx s (V8.mpr (.inr (dZ.mpr ⟨g,hg,t,ht,z⟩))) rfl;have key:∀t:A03,s∉t->cQ t L s=cQ t (L++[s]) (s+1)/\cQ t L s=cQ t L (s+1):=λt ht=>by
  have e2:∀x∈t,s<=x↔s+1<=x:=λx hx=>by have:x≠s:=λz=>ht (z▸hx);lia
  refine⟨uu (λx hx=>?_) e2,uu (λ_ _=>Iff.rfl) e2⟩;have:x≠s:=λz=>ht (z▸hx);simp[this]
 have out:∀D:List (Zo),(∀g∈D,∀t∈g,s∉t)->(D.map λg=>(gi L s g).2)=(D.map λg=>(gi (L++[s]) (s+1) g).2)/\(D.map λg=>(gi L s g).2)=D.map λg=>(gi L (s+1) g).2:=λD hD=>
  ⟨W3 λg hg=>by rw[gh,gh,rL λt ht=>(key t (hD g hg t ht)).1],W3 λg hg=>by rw[gh,gh,rL λt ht=>(key t (hD g hg t ht)).2]⟩
 have mid:(gi L s (a++sp::b)).2=(gi (L++[s]) (s+1) (a++sp::b)).2+(gi L (s+1) (a++sp::b)).2:=by rw[gh,gh,gh,GD (f1:=λsp=>cQ sp (L++[s]) (s+1)) (f2:=λsp=>cQ sp L (s+1)) (ND hsp hx nl) (λt ht=>key t (hb t ht)) λt ht=>key t (ha t ht)];rfl
 unfold bC;simp only[VT,VH];have pc:∀(x:Nat)(l:A03),ez (x::l)=x*ez l:=λ_ _=>rfl;rw[vZ,vZ,vZ,pc,pc,pc,mid,(out A hA).1,(out B hB).1,Nat.add_mul,Nat.mul_add,<-(out A hA).1,<-(out B hB).1,(out A hA).2,(out B hB).2]
end
def hl(T sp:A03):Nat:=(sp.filter λx=>decide (x∈T)).length
def qu(T:A03)(g:Zo):Prop:=∃a sp b,g=a++sp::b/\hl T sp=0/\∀s∈a++b,hl T s=1
def eW(gs:List (Zo)):A03->A03->Nat->A03
 |[],L,_=>L
 |s::B,L,n=>if n<bC (L++[s]) (s+1) gs then eW gs B (L++[s]) n else eW gs B L (n-bC (L++[s]) (s+1) gs)
def gP(gs:List (Zo))(T:A03):A03->A03->Nat->Nat
 |[],_,n=>n
 |s::B,L,n=>if s∈T then gP gs T B (L++[s]) n else gP gs T B L (n+bC (L++[s]) (s+1) gs)
section
variable{gs:List (Zo)}{T:A03}{e:Nat}
def M9(h:∀x∈sp,x<e):cQ sp T e=if hl T sp=0 then(0,1)else if hl T sp=1 then(1,0)else(0,0):=by
 have h0:(sp.filter λs=>decide (e<=s))=[]:=Yx.mpr λx hx=>by have:=h x hx;simp;lia
 unfold cQ;rw[h0];show(if 0<hl T sp then(if hl T sp=1 then 1 else 0,0)else _)=_;generalize hl T sp=k;by_cases c:0<k;{rw[if_pos c,if_neg (show ¬k=0 by lia)];split<;>rfl};rw[if_neg c,if_pos (show k=0 by lia)];rfl
theorem Gm:∀{g:Zo},(∀sp∈g,∀x∈sp,x<e)->(((gp (λsp=>cQ sp T e) g).1=1/\∀s∈g,hl T s=1)\/((gp (λsp=>cQ sp T e) g).1=0/\∃s∈g,hl T s≠1))/\(((gp (λsp=>cQ sp T e) g).2=1/\qu T g)\/((gp (λsp=>cQ sp T e) g).2=0/\¬qu T g))
 |[],_=>⟨.inl ⟨rfl,λs h=>absurd h VE⟩,.inr ⟨rfl,λ⟨a,sp,b,e,_⟩=>by cases a<;>cases e⟩⟩
 |sp::g,h=>by
  obtain⟨i1,i2⟩:=Gm (g:=g) λs hs=>h s (V5 _ hs);rw[gp];rw[M9 (h sp V1)];generalize gp (λsp=>cQ sp T e) g=z at i1 i2;unfold dP;by_cases c0:hl T sp=0
  .rw[if_pos c0];dsimp only;refine⟨.inr ⟨by lia,sp,V1,by lia⟩,?_⟩;rcases i1 with⟨e1,a1⟩|⟨e1,s,hs,ns⟩;{exact .inl ⟨by rw[e1];lia,[],sp,g,rfl,c0,a1⟩};refine .inr ⟨by rw[e1];lia,λ⟨a,sp',b,e,h0,h1⟩=>?_⟩;cases a with
   |nil=>cases e;exact ns (h1 s hs)
   |cons t a=>cases e;have:=h1 _ V1;lia
  rw[if_neg c0];by_cases c1:hl T sp=1
  .rw[if_pos c1];dsimp only;refine⟨?_,?_⟩;{rcases i1 with⟨e1,a1⟩|⟨e1,s,hs,ns⟩;{exact .inl ⟨by rw[e1],λs hs=>by rcases V7.mp hs with rfl|z;exact c1;exact a1 s z⟩};exact .inr ⟨by rw[e1],s,V5 _ hs,ns⟩};rcases i2 with⟨e2,a,sp',b,eg,h0,h1⟩|⟨e2,n2⟩;{refine .inl ⟨by rw[e2];lia,sp::a,sp',b,by rw[eg];rfl,h0,λs hs=>?_⟩;rcases V7.mp hs with rfl|z;{exact c1};exact h1 s z};refine .inr ⟨by rw[e2];lia,λ⟨a,sp',b,e,h0,h1⟩=>?_⟩;cases a with
   |nil=>cases e;lia
   |cons t a=>cases e;exact n2 ⟨a,sp',b,rfl,h0,λs hs=>h1 s (V5 _ hs)⟩
  rw[if_neg c1];dsimp only;refine⟨.inr ⟨by lia,sp,V1,c1⟩,.inr ⟨by lia,λ⟨a,sp',b,e,h0,h1⟩=>?_⟩⟩;cases a with
  |nil=>cases e;lia
  |cons t a=>cases e;exact c1 (h1 _ V1)
theorem oq:∀{gs:List (Zo)},(∀x∈av gs,x<e)->(bC T e gs=1/\∀g∈gs,qu T g)\/(bC T e gs=0/\∃g∈gs,¬qu T g)
 |[],_=>.inl ⟨rfl,λg h=>absurd h VE⟩
 |g::gs,h=>by have i:=oq (gs:=gs) λx hx=>h x (by obtain⟨g,h1,h2⟩:=dZ.mp hx;exact dZ.mpr ⟨g,V5 _ h1,h2⟩);have j:=(Gm (T:=T) (e:=e) (g:=g) λsp hs x hx=>h x (dZ.mpr ⟨g,V1,sp,hs,hx⟩)).2;rw[<-gh]at j;have ew:bC T e (g::gs)=(gi T e g).2*bC T e gs:=rfl;rw[ew];rcases j with⟨j1,j2⟩|⟨j1,j2⟩;{rcases i with⟨i1,i2⟩|⟨i1,g',hg,n⟩;{exact .inl ⟨by rw[j1,i1],λg' hg=>by rcases V7.mp hg with rfl|z;exact j2;exact i2 g' z⟩};exact .inr ⟨by rw[i1];lia,g',V5 _ hg,n⟩};exact .inr ⟨by rw[j1];lia,g,V1,j2⟩
structure Suf(gs:List (Zo)) (st:Nat)(B:A03):Prop where
 up:B.Pairwise (·<·)
 all:∀x,x∈B↔x∈av gs/\st<=x
def Suf.next{st s:Nat}(S:Suf gs st (s::B)):Suf gs (s+1) B:=by obtain⟨u1,u2⟩:=WA.mp S.up;refine⟨u2,λx=>⟨λh=>⟨((S.all x).mp (V5 _ h)).1,u1 x h⟩,λ⟨h1,h2⟩=>?_⟩⟩;have:=(S.all s).mp V1;rcases V7.mp ((S.all x).mpr ⟨h1,by lia⟩)with z|z;{lia};exact z
def Suf.step{st s:Nat}{B L:A03}(nd:(av gs).Nodup)(S:Suf gs st (s::B))(hL:∀x∈L,x<st):bC L st gs=bC (L++[s]) (s+1) gs+bC L (s+1) gs:=by
 have h:=(S.all s).mp V1;have e:bC L st gs=bC L s gs:=AX (λ_ _=>Iff.rfl) λx hx=>⟨λz=>by
  rcases V7.mp ((S.all x).mpr ⟨hx,z⟩)with y|y
  .lia
  .have:=(WA.mp S.up).1 x y;lia,λz=>by lia⟩
 rw[e];exact Mk nd h.1 λz=>by have:=hL s z;lia
def Suf.nil{st:Nat}(S:Suf gs st [])(he:∀x∈av gs,x<e):bC L st gs=bC L e gs:=AX (λ_ _=>Iff.rfl) λx hx=>⟨λz=>absurd ((S.all x).mpr ⟨hx,z⟩) VE,λz=>by have:=he x hx;lia⟩
theorem qw(nd:(av gs).Nodup)(he:∀x∈av gs,x<e):∀{B L:A03}{st n k:Nat},Suf gs st B->(∀x∈L,x<st)->n<bC L st gs->∃D,eW gs B L n=L++D/\D.Sublist B/\bC (eW gs B L n) e gs=1/\gP gs (eW gs B L n) B L k=k+n
 |[],L,st,n,k,S,hL,h=>by rw[S.nil he]at h;rcases oq (T:=L) he with⟨z,_⟩|⟨z,_⟩;{exact⟨[],by rw[Vm];rfl,List.Sublist.slnil,z,by rw[gP];lia⟩};lia
 |s::B,L,st,n,k,S,hL,h=>by
  have hs:=(S.all s).mp V1;rw[S.step nd hL]at h;rw[eW,gP];by_cases c:n<bC (L++[s]) (s+1) gs
  .rw[if_pos c];obtain⟨D,e1,e2,e3,e4⟩:=qw nd he (k:=k) S.next (λx hx=>by
    rcases V8.mp hx with z|z
    .have:=hL x z;lia
    .rw[VB.mp z];lia) c
   refine⟨s::D,by rw[e1,W5];rfl,e2.cons_cons s,e3,?_⟩;rw[if_pos (by rw[e1];simp)];exact e4
  rw[if_neg c];obtain⟨D,e1,e2,e3,e4⟩:=qw nd he (n:=n-bC (L++[s]) (s+1) gs) (k:=k+bC (L++[s]) (s+1) gs) S.next (λx hx=>by have:=hL x hx;lia) (by lia);refine⟨D,e1,e2.cons s,e3,?_⟩;rw[if_neg (by
   rw[e1];intro z;rcases V8.mp z with z|z
   .have:=hL s z;lia
   .have:=(WA.mp S.up).1 s (e2.subset z);lia),e4]
  lia
def NW{k:Nat}:gP gs T B L k=k+gP gs T B L 0:=by
 induction B generalizing L k with
 |nil=>rfl
 |cons s B ih=>rw[gP,gP];split;{exact ih};rw[ih,ih (k:=0+_)];lia
theorem Ay(nd:(av gs).Nodup)(he:∀x∈av gs,x<e)(hT:bC T e gs=1):∀{B L D:A03}{st:Nat},Suf gs st B->(∀x∈L,x<st)->T=L++D->D.Sublist B->gP gs T B L 0<bC L st gs/\eW gs B L (gP gs T B L 0)=T
 |[],L,D,st,S,hL,hD,sb=>by cases sb;rw[Vm]at hD;rw[gP,eW,S.nil he,<-hD,hT];exact⟨by lia,rfl⟩
 |s::B,L,D,st,S,hL,hD,sb=>by
  have hs:=(S.all s).mp V1;rw[S.step nd hL,gP];by_cases c:s∈T
  .rw[if_pos c];cases sb with
   |cons _ sb=>exfalso;rw[hD]at c;rcases V8.mp c with z|z;{have:=hL s z;lia};have:=(WA.mp S.up).1 s (sb.subset z);lia
   |@cons_cons D' _ _ sb=>
    obtain⟨h1,h2⟩:=Ay nd he hT (L:=L++[s]) (D:=D') S.next (λx hx=>by
     rcases V8.mp hx with z|z
     .have:=hL x z;lia
     .rw[VB.mp z];lia) (by rw[hD,W5];rfl) sb
    refine⟨by lia,?_⟩;rw[eW,if_pos h1];exact h2
  rw[if_neg c,NW];cases sb with
  |cons _ sb=>obtain⟨h1,h2⟩:=Ay nd he hT S.next (λx hx=>by have:=hL x hx;lia) hD sb;refine⟨by lia,?_⟩;rw[eW,if_neg (by lia),show 0+bC (L++[s]) (s+1) gs+gP gs T B L 0-bC (L++[s]) (s+1) gs=gP gs T B L 0 by lia];exact h2
  |cons_cons _ sb=>exfalso;exact c (by rw[hD];simp)
end
section
variable{m p:Nat}{es:Zr}
def fV:av (g::gs)=g.flatten++av gs:=by unfold av;rw[Wb,XG]
theorem kg:∀{l:A03},av (l.map λe=>[[e],[]])=l
 |[]=>rfl
 |a::l=>by rw[VH,fV,kg];rfl
theorem kj:∀{l:A03},av [l.map λe=>[e]]=l
 |[]=>rfl
 |a::l=>by have:=kj (l:=l);unfold av at this⊢;simp only[Wb,List.flatten_nil,Vm,VH]at this⊢;rw[this];rfl
theorem qX:∀{gs:List (Zo)},av (gs.filter λg=>decide (g≠[]))=av gs
 |[]=>rfl
 |g::gs=>by by_cases c:g=[];{rw[WR (by simp[c]),qX,fV,c];rfl};rw[WQ (by simpa using c),fV,fV,qX]
def lF:c∈gx m es p↔∃n,aB es p n/\c=pc m es p n/\∀y∈c,y∉cL m es:=by unfold gx;rw[VJ,V6];constructor;{rintro⟨⟨n,h1,rfl⟩,h2⟩;exact⟨n,bD.mp h1,rfl,λy hy z=>Vf h2 ⟨y,hy,z⟩⟩};rintro⟨n,h1,rfl,h2⟩;exact⟨⟨n,bD.mpr h1,rfl⟩,Ve λ⟨y,hy,z⟩=>h2 y hy z⟩
def wW(W:aY m es)(T:Tree m es)(hp:p<m):(gx m es p).flatten.Nodup:=by unfold gx;rw[Yy];have nd:((bQ es p).filter ((λc=>decide (¬ ∃y∈c,y∈cL m es))∘pc m es p)).Nodup:=WI Wk (W.gd.fN p);exact rJ T hp nd λn hn=>bD.mp (VJ.mp hn).1
def gr{q:Nat}:q∈cL m es↔q<m/\2<c9 es q:=by unfold cL;rw[VJ,VL,W2]
def Jk(T:Tree m es){p q x:Nat}(hp:p∈cL m es)(hq:q∈cL m es)(ne:p≠q)(hc:c∈gx m es p)(hd:d∈gx m es q)(xc:x∈c)(xd:x∈d):False:=by
 obtain⟨n,an,rfl,hn⟩:=lF.mp hc;obtain⟨k,ak,rfl,hk⟩:=lF.mp hd;have lp:=(gr.mp hp).1;have lq:=(gr.mp hq).1;obtain⟨lx,b1⟩:=b8.mp xc;have b2:=(b8.mp xd).2;have n1:¬aN es p n q:=λz=>hn q (b8.mpr ⟨lq,z⟩) hq;have n2:¬aN es q k p:=λz=>hk p (b8.mpr ⟨lp,z⟩) hp;have c1:=T.j6 lq lx an n1 b1;have c2:=T.j6 lp lx ak n2 b2;unfold aN at b1 b2;have z:ds es p q=0:=by lia
 exact ne (T.cn.zero lp lq z).symm
theorem sG(W:aY m es)(T:Tree m es):∀{ps:A03},ps.Nodup->(∀p∈ps,p∈cL m es)->(av (ps.map (gx m es))).Nodup
 |[],_,_=>W8
 |p::ps,nd,h=>by obtain⟨n1,n2⟩:=Vi.mp nd;have hp:=h p V1;rw[VH,fV];refine Vv.mpr ⟨wW W T (gr.mp hp).1,sG W T n2 λq hq=>h q (V5 _ hq),λx hx y hy e=>?_⟩;subst e;obtain⟨c,hc,xc⟩:=Wz.mp hx;obtain⟨g,hg,d,hd,xd⟩:=dZ.mp hy;obtain⟨q,hq,rfl⟩:=V6.mp hg;exact Jk T hp (h q (V5 _ hq)) (λz=>n1 (z▸hq)) hc hd xc xd
def fL(W:aY m es)(ht:es.length+1=m):(av (aF k m es)).Nodup/\∀x∈av (aF k m es),x<m:=by have T:Tree m es:=⟨W.gd,W.cn,ht⟩;have nr:∀f:Nat->Bool,((List.range m).filter f).Nodup:=λf=>WI Wk WC;have he:∀x∈ens m es,x<m:=λx hx=>VL.mp (VJ.mp hx).1;unfold aF;split;{exact⟨W8,λx hx=>absurd hx VE⟩};split;{rw[kg];exact⟨nr _,he⟩};split;{rw[kj];exact⟨nr _,he⟩};rw[qX];refine⟨sG W T (nr _) λp hp=>hp,λx hx=>?_⟩;obtain⟨g,hg,c,hc,xc⟩:=dZ.mp hx;obtain⟨p,hp,rfl⟩:=V6.mp hg;obtain⟨n,_,rfl,_⟩:=lF.mp hc;exact(b8.mp xc).1
def spS(m:Nat)(gs:List (Zo)):A03:=(List.range m).filter λx=>decide (x∈av gs)
def lG(h:∀x∈av gs,x<m){x:Nat}:x∈spS m gs↔x∈av gs:=by unfold spS;rw[VJ,VL,W2];exact⟨λz=>z.2,λz=>⟨h x z,z⟩⟩
def qJ:(spS m gs).Pairwise (·<·):=Xg _ XW
def vY(h:∀x∈av gs,x<m):Suf gs 0 (spS m gs):=⟨qJ,λx=>by rw[lG h];exact⟨λz=>⟨z,VW _⟩,λz=>z.1⟩⟩
def Bo(nd:(av gs).Nodup)(h:∀x∈av gs,x<m)(pm:S.Perm (av gs))(up:S.Pairwise (·<=·)):S=spS m gs:=by refine kh ?_ up (qJ.imp λh=>WX h);refine pm.trans ?_;exact(YM nd (qJ.imp λh=>VC h)).mpr λx=>(lG h).symm
def qW(W:aY m es)(ht:es.length+1=m):(av (aF k m es)).length<=60:=by obtain⟨nd,hl⟩:=fL W ht (k:=k);have:=Gr.dm m _ nd hl;have:=W.le;lia
def RG{st:Nat}:(cQ sp ls st).1<=sp.length/\(cQ sp ls st).2<=1:=by unfold cQ;have h1:=WO (λs=>decide (s∈ls)) sp;have h2:=WO (λs=>decide (st<=s)) sp;split;{split;{exact⟨by show 1<=_;lia,VW _⟩};exact⟨VW _,VW _⟩};exact⟨h2,V3 _⟩
theorem KU:∀{g:Zo},(∀sp∈g,(f sp).1<=(h sp).1/\(f sp).2<=(h sp).2)->(gp f g).1<=(gp h g).1/\(gp f g).2<=(gp h g).2
 |[],_=>⟨V3 _,V3 _⟩
 |sp::g,e=>by obtain⟨a,b⟩:=e sp V1;obtain⟨c,d⟩:=KU (g:=g) λs hs=>e s (V5 _ hs);exact⟨XF a c,Nat.add_le_add (XF b c) (XF a d)⟩
def OM{st:Nat}:(gi ls st g).2<=(gi [] 0 g).2:=by rw[gh,gh];refine(KU λsp _=>?_).2;rw[QL];exact RG
def r9(W:aY m es)(ht:es.length+1=m)(hk:dB k){st:Nat}:∀g∈aF k m es,(∀sp∈g,sp.length<=60)/\(gi ls st g).2<2^64:=λg hg=>by have h:=(vX W ht hk).2.2 g hg;exact⟨h.1,Nat.lt_of_le_of_lt OM h.2⟩
def Ou:∀{T:A03},T.Pairwise (·<·)->S.Pairwise (·<·)->(∀x∈T,x∈S)->T.Sublist S:=by
 induction S with
 |nil=>
  intro T _ _ h;cases T with
  |nil=>exact List.Sublist.slnil
  |cons a _=>exact absurd (h a V1) VE
 |cons s S ih=>
  intro T ut us h;obtain⟨u1,u2⟩:=WA.mp us;cases T with
  |nil=>exact List.nil_sublist _
  |cons a T=>
   obtain⟨t1,t2⟩:=WA.mp ut;rcases V7.mp (h a V1)with rfl|z
   .exact(ih t2 u2 λx hx=>by
     rcases V7.mp (h x (V5 _ hx))with y|y
     .have:=t1 x hx;lia
     .exact y).cons_cons a
   refine(ih ut u2 λx hx=>?_).cons s;rcases V7.mp (h x hx)with y|y;{have h1:=u1 a z;rcases V7.mp hx with w|w;{lia};have:=t1 x w;lia};exact y
structure ko(gs:List (Zo)) (m:Nat)(T:A03):Prop where
 up:T.Pairwise (·<·)
 sub:∀x∈T,x∈av gs
 one:bC T m gs=1
def n6(nd:(av gs).Nodup)(he:∀x∈av gs,x<m){n:Nat}(h:n<bC [] 0 gs):ko gs m (eW gs (spS m gs) [] n)/\gP gs (eW gs (spS m gs) [] n) (spS m gs) [] 0=n:=by obtain⟨D,e1,e2,e3,e4⟩:=qw nd he (k:=0) (vY he) (λx hx=>absurd hx VE) h;rw[Xz]at e1;rw[Xu]at e4;refine⟨⟨?_,λx hx=>?_,e3⟩,e4⟩;{rw[e1];exact qJ.sublist e2};rw[e1]at hx;exact(lG he).mp (e2.subset hx)
def N7(nd:(av gs).Nodup)(he:∀x∈av gs,x<m)(C:ko gs m T):gP gs T (spS m gs) [] 0<bC [] 0 gs/\eW gs (spS m gs) [] (gP gs T (spS m gs) [] 0)=T:=
 Ay nd he C.one (vY he) (λx hx=>absurd hx VE) rfl (Ou C.up qJ λx hx=>(lG he).mpr (C.sub x hx))
end
end PB
namespace Dv
open PySem
def KW{α:Type}{l:List α}{enc:α->PyData}{c:DT}{Q:Zw->En->Prop}(I:Nat->Zw->En->Prop)(h1:I 0 ys E1)(hs:∀(J:Zw->En->Prop) i a ys E,l[i]?=some a->(∀ys' E',I (i+1) ys' E'->J ys' E')->I i ys E->∃E2,cT tg (enc a) E=some E2/\c x E2 λE3 b=>if b=true then r x ys E3 J else J ys E3)(he:∀ys E,I l.length ys E->Q ys E):OW (l.map enc) tg c r x ys E1 Q:=by refine⟨I,h1,λi d ys E hd hi=>?_,by rw[V4];exact he⟩;rw[VQ]at hd;obtain⟨a,ha,rfl⟩:=Wd.mp hd;exact hs _ i a ys E ha (λ_ _ h=>h) hi
end Dv
namespace PB
open PySem L2 Dv Gr
def rF:bF:=λdd Q x=>∃gs,dd=[iK gs]/\(av gs).length<=60/\∀S:A03,S.Perm (av gs)->S.Pairwise (·<=·)->Q [] (.ow false) (nD S)
def vJ{gs:List (Zo)}{i:Nat}{g:Zo}(h:gs[i]?=some g):av (gs.take (i+1))=av (gs.take i)++g.flatten:=by rw[take_snoc h];unfold av;rw[XG,XG,List.flatten_singleton]
def G8{i:Nat}:(av (gs.take i)).length<=(av gs).length:=by
 have:av gs=av (gs.take i)++av (gs.drop i):=by unfold av;rw[<-XG,<-XG,ZZ]
 rw[this,VD];lia
def P1:∀dd Q x,rF dd Q x->pM (bg [false] Q x) (ini [false] dd++List.replicate 3 none):=by
 rintro _ Q x⟨gs,rfl,hl,q⟩;unfold pM;rfl';refine K0 _ (λi ys E=>ys=(av (gs.take i)).map iD/\∃o1 o2 o3:A08,E=[some (.sh,iK gs),o1,o2,o3]/\bH o1=true/\bH o2=true/\bH o3=true) rfl ⟨rfl,none,none,none,rfl,rfl,rfl,rfl⟩ ?_ ?_
 .rintro J i g _ _ hi hJ⟨rfl,o1,o2,o3,rfl,h1,h2,h3⟩;have l1:=G8 (gs:=gs) (i:=i+1);rw[vJ hi,VD]at l1;simp![h1];refine KW (λj ys E=>ys=(av (gs.take i)++(g.take j).flatten).map iD/\∃o2 o3:A08,E=[some (.sh,iK gs),some (.sh,gD g),o2,o3]/\bH o2=true/\bH o3=true) ⟨by simp,o2,o3,rfl,h2,h3⟩ ?_ ?_
  .rintro J j sp _ _ hj hJ⟨rfl,o2,o3,rfl,h2,h3⟩;have e1:(g.take (j+1)).flatten=(g.take j).flatten++sp:=by rw[take_snoc hj,XG,List.flatten_singleton]
   have l2:(g.take (j+1)).flatten.length<=g.flatten.length:=by
    have:g.flatten=(g.take (j+1)).flatten++(g.drop (j+1)).flatten:=by rw[<-XG,ZZ]
    rw[this,VD];lia
   rw[e1,VD]at l2;simp![h2];refine KW (λn ys E=>ys=(av (gs.take i)++(g.take j).flatten++sp.take n).map iD/\∃o3:A08,E=[some (.sh,iK gs),some (.sh,gD g),some (.sh,nD sp),o3]/\bH o3=true) ⟨by simp,o3,rfl,h3⟩ ?_ ?_
   .rintro J n s _ _ hn hJ⟨rfl,o3,rfl,h3⟩;have l3:=List.length_take_le n sp;have l4:(sp.take n).length<=sp.length:=by rw[WK];lia
    simp![h3];refine⟨by simp only[VD,V4];lia,hJ _ _ ⟨?_,_,rfl,rfl⟩⟩;rw[take_snoc hn];simp only[VT,W5];rfl
   rintro _ _⟨rfl,o3,rfl,h3⟩;refine hJ _ _ ⟨?_,_,_,rfl,rfl,h3⟩;rw[W9,e1,W5]
  rintro _ _⟨rfl,o2,o3,rfl,h2,h3⟩;refine hJ _ _ ⟨?_,_,_,_,rfl,rfl,h2,h3⟩;rw[W9,vJ hi]
 rintro _ _⟨rfl,o1,o2,o3,rfl,h1,h2,h3⟩;rw[W9];refine⟨[some (.sh,iK gs),none,none,none],?_,?_⟩;{show(if bN [some (.sh,iK gs),o1,o2,o3] 1=true then(if bN [some (.sh,iK gs),none,o2,o3] 2=true then(if bN [some (.sh,iK gs),none,none,o3] 3=true then _ else none)else none)else none)=_;rw[<-jV,<-jV,<-jV,if_pos (show gA [some (.sh,iK gs),o1,o2,o3] 1=true from h1),if_pos (show gA [some (.sh,iK gs),none,o2,o3] 2=true from h2),if_pos (show gA [some (.sh,iK gs),none,none,o3] 3=true from h3)];rfl};rfl';refine wJ (by lia) λS pm up=>?_;rfl';exact q S pm up
def wk:bF:=λdd Q x=>∃m es k,∃n:Int,dd=[wD m es,.str k,.int n]/\aY m es/\es.length+1=m/\dB k/\(∀j:Nat,n=j->j<bC [] 0 (aF k m es)->Q [] (.ow false) (nD (eW (aF k m es) (spS m (aF k m es)) [] j)))/\(¬(0<=n/\n<bC [] 0 (aF k m es))->x "NoSuch" .none)
def QX:∀dd Q x,wk dd Q x->nN nZ nF rF (bg [false,false,false] Q x) (ini [false,false,false] dd++List.replicate 5 none):=by
 rintro _ Q x⟨m,es,k,n,rfl,W,ht,hk,q1,q2⟩;obtain⟨nd,he⟩:=fL W ht (k:=k);have hsl:=qW W ht (k:=k);unfold nN;rfl';refine⟨m,es,k,rfl,W,ht,?_⟩;rfl';by_cases c:0<=n
 .rw[if_pos c];obtain⟨j,rfl⟩:=Int.eq_ofNat_of_zero_le c;refine⟨by lia,aF k m es,[],0,rfl,r9 W ht hk,?_⟩;rfl';by_cases c2:j<bC [] 0 (aF k m es)
  .rw[if_neg (by lia)];have q:=q1 j rfl c2;generalize hgs:aF k m es=gs at *;refine⟨by lia,gs,rfl,hsl,λS pm up=>?_⟩;have eS:=Bo nd he pm up;subst eS;have hl2:=pm.length_eq;rfl';refine je (λi E=>∃(L:A03) (a:Nat)(o6 o7:A08),E=[some (.sh,wD m es),some (.sh,.str k),some (.sh,iD j),some (.ow false,iK gs),some (.ow false,nD L),some (.sh,iD a),o6,o7]/\bH o6=true/\bH o7=true/\L.length<=i/\eW gs ((spS m gs).drop i) L a=eW gs (spS m gs) [] j) ⟨[],j,none,none,rfl,rfl,rfl,by simp,rfl⟩ ?_ ?_
   .rintro J i s _ hi hJ⟨L,a,o6,o7,rfl,h6,h7,hL,hu⟩;have li:=(Vz.mp hi).1;have ed:(spS m gs).drop i=s::(spS m gs).drop (i+1):=by rw[List.drop_eq_getElem_cons li,(Vz.mp hi).2]
    rw[ed,eW]at hu;simp![h6,h7];refine⟨by lia,by lia,gs,L++[s],s+1,by show _=[iK gs,PyData.list ((L++[s]).map iD),_];rw[VT];rfl,hgs▸r9 W ht hk,?_⟩;generalize hw:bC (L++[s]) (s+1) gs=w at hu;simp![h7];by_cases ca:a<w;{rw[if_pos ca]at hu⊢;rfl';refine⟨by lia,hJ _ ⟨L++[s],a,some (.sh,iD s),some (.sh,iD w),?_,rfl,rfl,by simp;lia,hu⟩⟩;show _=[_,_,_,_,some (Kd.ow false,PyData.list ((L++[s]).map iD)),_,_,_];rw[VT];rfl};rw[if_neg ca]at hu⊢;rfl';rw[show(a:Int)-(w:Int)=((a-w:Nat):Int)by lia];exact hJ _ ⟨L,a-w,_,_,rfl,rfl,rfl,by lia,hu⟩
   rintro _⟨L,a,o6,o7,rfl,h6,h7,hL,hu⟩;rw[Yv,eW]at hu;rw[hu];rfl';exact q
  rw[if_pos (by lia)];exact q2 λz=>c2 (by lia)
 rw[if_neg c];exact q2 λz=>c z.1
def up_eq{a b:A04}(ha:a.Pairwise (·<·))(hb:b.Pairwise (·<·))(h:∀x,x∈a↔x∈b):a=b:=
 List.Perm.eq_of_pairwise (le:=λx y:Int=>x<=y) (λx y _ _ h k=>by lia) (ha.imp λh=>by lia) (hb.imp λh=>by lia) ((YM (ha.imp λh=>by lia) (hb.imp λh=>by lia)).mpr h)
def Ci{T:A04}:dl 8 (.list (T.map .int))=true:=by show(T.map PyData.int).all (dl 7)=true;rw[XD];exact VN.mpr λ_ _=>rfl
def Br{a b:A04}:PyData.list (a.map .int)=PyData.list (b.map .int)↔a=b:=⟨λh=>map_inj (λ_ _ h=>PyData.int.inj h) (PyData.list.inj h),λh=>by rw[h]⟩
def KO(gs:List (Zo)) (m:Nat)(T:A04):Prop:=∃L:A03,T=L.map (λn:Nat=>(n:Int))/\ko gs m L
def EH:bF:=λdd Q x=>∃gs m,∃T:A04,dd=[iK gs,.list (T.map .int),iD m]/\T.length<=63/\(av gs).Nodup/\(∀x∈av gs,x<m)/\(av gs).length<=60/\(∀ls st,∀g∈gs,(∀sp∈g,sp.length<=60)/\(gi ls st g).2<2^64)/\(KO gs m T->Q [] .sh (.bool true))/\(¬KO gs m T->Q [] .sh (.bool false))
def O9:∀dd Q x,EH dd Q x->nA rF nF (bg [false,false,false] Q x) (ini [false,false,false] dd++List.replicate 2 none):=by
 rintro _ Q x⟨gs,m,T,rfl,hT,nd,he,hsl,hw,q1,q2⟩;unfold nA;rfl';refine⟨gs,rfl,hsl,λS pm up=>?_⟩;have eS:=Bo nd he pm up;subst eS;rfl';refine⟨T,rfl,hT,λms h1 h2=>?_⟩;rfl';refine⟨⟨Ci,Ci⟩,?_⟩;by_cases c:T=ms
 .rw[if_neg λz=>z (Br.mpr c)];refine eY (λt=>.bool (decide (PyData.int t∈(spS m gs).map iD))) rfl (λt htm I hI=>?_) ?_ (by lia);{rfl';exact⟨⟨yX,rfl⟩,hI _ rfl⟩};rw[show T.map (λt=>PyData.bool (decide (PyData.int t∈(spS m gs).map iD)))=(T.map λt=>decide (PyData.int t∈(spS m gs).map iD)).map PyData.bool by rw[VR];rfl];rfl';refine Ad ?_;rfl';have key:∀t:Int,PyData.int t∈(spS m gs).map iD↔∃s∈spS m gs,(s:Int)=t:=λt=>by rw[V6];exact⟨λ⟨s,h1,h2⟩=>⟨s,h1,PyData.int.inj h2⟩,λ⟨s,h1,h2⟩=>⟨s,h1,by rw[<-h2]⟩⟩
  by_cases ca:(T.all λa=>id (decide (PyData.int a∈(spS m gs).map iD)))=true
  .rw[ca,if_neg (by decide)];have hin:∀t∈T,∃s∈spS m gs,(s:Int)=t:=λt ht=>by exact(key t).mp (Vf (VN.mp ca t ht))
   have eT:T=(T.map Int.toNat).map (λn:Nat=>(n:Int)):=by
    rw[VR]
    conv=>lhs;rw[<-List.map_id T]
    refine W3 λt ht=>?_;obtain⟨s,_,rfl⟩:=hin t ht;rfl
   generalize hTn:T.map Int.toNat=L at eT;have hL:∀s∈L,s∈av gs:=λs hs=>by
    obtain⟨s',h1,h2⟩:=hin s (by rw[eT];exact V6.mpr ⟨s,hs,rfl⟩);have:s'=s:=by lia
    subst this;exact(lG he).mp h1
   have uL:L.Pairwise (·<·):=by rw[<-c,eT,Wh]at h2;exact h2.imp λh=>by lia
   have eD:PyData.list (T.map PyData.int)=nD L:=by rw[eT,VR];rfl
   rw[eD];refine⟨gs,L,m,rfl,hw L m,?_⟩;rfl';by_cases co:bC L m gs=1;{have:=q1 ⟨L,eT,uL,hL,co⟩;rw[co];exact this};have:=q2 λ⟨L',e',C⟩=>co (by
    have:L'=L:=map_inj (λa b h=>by lia) (e'.symm.trans eT)
    rw[<-this];exact C.one)
   rw[W4 (by lia)];exact this
  rw[Bool.eq_false_iff.mpr ca,if_pos rfl];have:=q2 λ⟨L,e,C⟩=>ca (VN.mpr λt ht=>by
   rw[e]at ht;obtain⟨s,hs,rfl⟩:=V6.mp ht;exact Ve ((key _).mpr ⟨s,(lG he).mpr (C.sub s hs),rfl⟩))
  exact this
 rw[if_pos λz=>c (Br.mp z)];refine q2 λ⟨L,e,C⟩=>c (up_eq ?_ h2 λx=>(h1 x).symm);rw[e,Wh];exact C.up.imp λh=>by lia
def wZ:bF:=λdd Q x=>∃m es k,∃T:A04,dd=[wD m es,.str k,.list (T.map .int)]/\aY m es/\es.length+1=m/\dB k/\T.length<=63/\(∀L:A03,T=L.map (λn:Nat=>(n:Int))->ko (aF k m es) m L->Q [] .sh (iD (gP (aF k m es) L (spS m (aF k m es)) [] 0)))/\(¬KO (aF k m es) m T->x "NotOne" .none)
def QF:∀dd Q x,wZ dd Q x->jh nZ EH rF nF (bg [false,false,false] Q x) (ini [false,false,false] dd++List.replicate 4 none):=by
 rintro _ Q x⟨m,es,k,T,rfl,W,ht,hk,hT,q1,q2⟩;obtain⟨nd,he⟩:=fL W ht (k:=k);have hsl:=qW W ht (k:=k);unfold jh;rfl';refine⟨m,es,k,rfl,W,ht,?_⟩;rfl';refine⟨aF k m es,m,T,rfl,hT,nd,he,hsl,λls st=>r9 W ht hk,λhC=>?_,λhC=>?_⟩
 .obtain⟨L,rfl,C⟩:=id hC;have q:=q1 L rfl C;generalize hgs:aF k m es=gs at *;rfl';rw[show PyData.list (List.map PyData.int (L.map λn:Nat=>(n:Int)))=nD L by rw[VR];rfl];rw[V4]at hT;refine⟨by lia,gs,rfl,hsl,λS pm up=>?_⟩;have eS:=Bo nd he pm up;subst eS;have hl2:=pm.length_eq;rfl';refine je (λi E=>∃(sh:A03) (a:Nat)(o6:A08),E=[some (.sh,wD m es),some (.sh,.str k),some (.sh,nD L),some (.ow false,iK gs),some (.sh,iD a),some (.ow false,nD sh),o6]/\bH o6=true/\sh.length<=i/\gP gs L ((spS m gs).drop i) sh a=gP gs L (spS m gs) [] 0) ⟨[],0,none,rfl,rfl,by simp,rfl⟩ ?_ ?_
  .rintro J i s _ hi hJ⟨sh,a,o6,rfl,h6,hL,hu⟩;have li:=(Vz.mp hi).1;have ed:(spS m gs).drop i=s::(spS m gs).drop (i+1):=by rw[List.drop_eq_getElem_cons li,(Vz.mp hi).2]
   rw[ed,gP]at hu;simp![h6];refine⟨⟨yX,rfl⟩,?_⟩;by_cases cs:s∈L;{rw[if_pos cs]at hu;rw[if_pos (yU.mpr cs)];rfl';refine⟨by lia,hJ _ ⟨sh++[s],a,some (.sh,iD s),?_,rfl,by simp;lia,hu⟩⟩;show _=[_,_,_,_,_,some (Kd.ow false,PyData.list ((sh++[s]).map iD)),_];rw[VT];rfl};rw[if_neg cs]at hu;rw[if_neg λz=>cs (yU.mp z)];rfl';refine⟨by lia,by lia,gs,sh++[s],s+1,by show _=[iK gs,PyData.list ((sh++[s]).map iD),_];rw[VT];rfl,hgs▸r9 W ht hk,?_⟩;generalize hw:bC (sh++[s]) (s+1) gs=w at hu;rfl';exact hJ _ ⟨sh,a+w,some (.sh,iD s),rfl,rfl,by lia,hu⟩
  rintro _⟨sh,a,o6,rfl,h6,hL,hu⟩;rw[Yv,gP]at hu;rw[hu];rfl';exact q
 rfl';exact q2 hC
section
variable{gs:List (Zo)}{T:A03}{m:Nat}
theorem Cn:∀{g:Zo},(∀s∈g,hl T s<=1)->(g.map (hl T)).sum<=g.length/\((g.map (hl T)).sum=g.length->∀s∈g,hl T s=1)
 |[],_=>⟨V3 _,λ_ s h=>absurd h VE⟩
 |s::g,h=>by obtain⟨i,j⟩:=Cn (g:=g) λx hx=>h x (V5 _ hx);have hs:=h s V1;rw[VH,Vu,VF];refine⟨by lia,λe x hx=>?_⟩;rcases V7.mp hx with rfl|z;{lia};exact j (by lia) x z
theorem wH:∀{g:Zo},(∀s∈g,hl T s=1)->(g.map (hl T)).sum=g.length
 |[],_=>rfl
 |s::g,h=>by rw[VH,Vu,VF,wH λx hx=>h x (V5 _ hx),h s V1];lia
def wg:∀{g:Zo},qu T g↔(∀s∈g,hl T s<=1)/\(g.map (hl T)).sum+1=g.length:=by
 intro g;constructor;{rintro⟨a,sp,b,rfl,h0,h1⟩;refine⟨λs hs=>?_,?_⟩;{rcases V8.mp hs with z|z;{exact Xx (h1 s (V8.mpr (.inl z)))};rcases V7.mp z with rfl|z;{lia};exact Xx (h1 s (V8.mpr (.inr z)))};rw[VT,VH,Yq,Vu,VD,VF,h0,wH λs hs=>h1 s (V8.mpr (.inl hs)),wH λs hs=>h1 s (V8.mpr (.inr hs))];lia};induction g with
 |nil=>rintro⟨_,e⟩;cases e
 |cons s g ih=>rintro⟨h,e⟩;have hs:=h s V1;have hg:∀x∈g,hl T x<=1:=λx hx=>h x (V5 _ hx);rw[VH,Vu,VF]at e;by_cases c:hl T s=0;{exact⟨[],s,g,rfl,c,(Cn hg).2 (by lia)⟩};obtain⟨a,sp,b,rfl,h0,h1⟩:=ih ⟨hg,by lia⟩;refine⟨s::a,sp,b,rfl,h0,λx hx=>?_⟩;rcases V7.mp hx with rfl|z;{lia};exact h1 x z
def ko.Lj(C:ko gs m T)(he:∀x∈av gs,x<m):∀g∈gs,qu T g:=by rcases oq (T:=T) he with⟨_,h⟩|⟨z,_⟩;{exact h};have:=C.one;lia
def ko.of(he:∀x∈av gs,x<m)(up:T.Pairwise (·<·))(sub:∀x∈T,x∈av gs)(h:∀g∈gs,qu T g):ko gs m T:=by rcases oq (T:=T) he with⟨z,_⟩|⟨_,g,hg,n⟩;{exact⟨up,sub,z⟩};exact absurd (h g hg) n
theorem we:∀{l:A03},(∀a∈l,0<a)->0<ez l
 |[],_=>Nat.one_pos
 |a::l,h=>Nat.mul_pos (h a V1) (we λx hx=>h x (V5 _ hx))
def Ma{a:Nat}(h:∀x∈l,0<x):0<but (a::l):=Vg (we h) (by show ez l<=ez l+a*but l;lia)
theorem Ck:∀{gs:List (Zo)},bC [] 0 gs<=2^(av gs).length
 |[]=>V3 1
 |g::gs=>by have i:=Ck (gs:=gs);have ew:bC [] 0 (g::gs)=(gi [] 0 g).2*bC [] 0 gs:=rfl;rw[ew,fV,VD,Nat.pow_add,zf];refine XF (VS wO ?_) i;rw[List.length_flatten];exact V3 _
def Cr(W:aY m es)(ht:es.length+1=m)(hk:dB k):0<bC [] 0 (aF k m es):=by
 have Tr:Tree m es:=⟨W.gd,W.cn,ht⟩;unfold bC;refine we λx hx=>?_;obtain⟨g,hg,rfl⟩:=V6.mp hx;rw[zf];have hne:=(vX W ht hk).2.1 g hg;unfold aF at hg;split at hg;{exact absurd hg VE};split at hg;{obtain⟨e,_,rfl⟩:=V6.mp hg;show 0<but [1,0];decide};have pos:∀c∈g,0<c.length:=by split at hg;{rw[VB.mp hg];intro c hc;obtain⟨e,_,rfl⟩:=V6.mp hc;exact Nat.one_pos};obtain⟨p,hp,rfl⟩:=V6.mp (VJ.mp hg).1;exact(Fw W Tr (VL.mp (VJ.mp hp).1)).pos
 cases g with
 |nil=>exact absurd rfl hne
 |cons s g=>refine Ma λx hx=>?_;obtain⟨c,hc,rfl⟩:=V6.mp hx;exact pos c (V5 _ hc)
end
abbrev zI(L:A03):A04:=L.map λn:Nat=>(n:Int)
def Ro:PyData.list ((zI L).map .int)=nD L:=by unfold zI;rw[VR];rfl
def zE(h:zI L=zI T):L=T:=map_inj (λa b h=>by lia) h
def RS{m:Nat}:KO gs m (zI L)↔ko gs m L:=⟨λ⟨T,e,C⟩=>zE e▸C,λC=>⟨L,rfl,C⟩⟩
section
variable{m:Nat}{es:Zr}
def AB(W:aY m es)(ht:es.length+1=m)(hk:dB k)(ka:k≠"all")(hf:cL m es≠[]):aF k m es=((cL m es).map (gx m es)).filter λg=>decide (g≠[]):=by
 have h3:3<=m:=by obtain⟨p,hp⟩:=Za _ hf;have h1:=(gr.mp hp).2;have h2:=W.gd.jD p;unfold c9 at h1;lia
 unfold aF;rw[if_neg (by
  rw[kind_len W ht hk];rcases hk with rfl|rfl|rfl
  .rw[if_pos rfl];lia
  .rw[if_neg (by decide),if_pos rfl];lia
  .exact absurd rfl ka),if_neg ka,if_neg hf]
end
section
variable{m:Nat}{es:Zr}{T:A03}
def NT:ko [] m T↔T=[]:=by
 constructor
 .intro C;cases T with
  |nil=>rfl
  |cons a _=>exact absurd (C.sub a V1) VE
 rintro rfl;exact⟨List.Pairwise.nil,λx h=>absurd h VE,rfl⟩
def vB{a b:A03}(ha:a.Pairwise (·<·))(hb:b.Pairwise (·<·))(h:∀x,x∈a↔x∈b):a=b:=
 kh ((YM (ha.imp λh=>VC h) (hb.imp λh=>VC h)).mpr h) (ha.imp λh=>WX h) (hb.imp λh=>WX h)
def hl1{x:Nat}:hl T [x]=if x∈T then 1 else 0:=by unfold hl;by_cases c:x∈T;{rw[WQ (by simpa using c),if_pos c];rfl};rw[WR (by simpa using c),if_neg c];rfl
def Cd{x:Nat}:qu T [[x],[]]↔x∈T:=by rw[wg];have h0:hl T []=0:=rfl;simp only[VH,Y8,Vu,List.sum_nil,VF,Yc,h0,hl1];by_cases c:x∈T;{rw[if_pos c];refine⟨λ_=>c,λ_=>⟨λs hs=>?_,rfl⟩⟩;rcases V7.mp hs with rfl|z;{rw[hl1,if_pos c];exact V3 _};rw[VB.mp z,h0];exact VW _};rw[if_neg c];exact⟨λh=>absurd h.2 (by lia),λh=>absurd h c⟩
def zH{l:A03}(up:l.Pairwise (·<·))(hm:∀x∈l,x<m):ko (l.map λe=>[[e],[]]) m T↔T=l:=by
 have he:∀x∈av (l.map λe=>[[e],[]]),x<m:=by rw[kg];exact hm
 constructor;{intro C;refine vB C.up up λx=>⟨λh=>?_,λh=>?_⟩;{have:=C.sub x h;rw[kg]at this;exact this};exact Cd.mp (C.Lj he _ (V6.mpr ⟨x,h,rfl⟩))};rintro rfl;refine .of he up (λx hx=>by rw[kg];exact hx) λg hg=>?_;obtain⟨e,h,rfl⟩:=V6.mp hg;exact Cd.mpr h
def Dc{a b:Nat}(hab:a<b)(hb:b<m):ko [[a,b].map λe=>[e]] m T↔T=[a]\/T=[b]:=by
 have he:∀x∈av [[a,b].map λe=>[e]],x<m:=by rw[kj];intro x hx;simp at hx;lia
 have key:qu T ([a,b].map λe=>[e])↔((if a∈T then 1 else 0)+(if b∈T then 1 else 0)=1):=by rw[wg];show(∀s∈[[a],[b]],hl T s<=1)/\hl T [a]+(hl T [b]+0)+1=2↔_;rw[hl1,hl1];constructor;{intro h;lia};intro h;refine⟨λs hs=>?_,by lia⟩;rcases V7.mp hs with rfl|z;{rw[hl1];split<;>lia};rw[VB.mp z,hl1];split<;>lia
 constructor
 .intro C;have h:=key.mp (C.Lj he _ V1);have sub:∀x∈T,x=a\/x=b:=λx hx=>by have:=C.sub x hx;rw[kj]at this;simpa using this
  by_cases ca:a∈T
  .rw[if_pos ca]at h;have cb:b∉T:=λz=>by rw[if_pos z]at h;lia
   refine .inl (vB C.up (YQ _ _) λx=>⟨λhx=>?_,λhx=>?_⟩);{rcases sub x hx with rfl|rfl;{exact V1};exact absurd hx cb};rw[VB.mp hx];exact ca
  rw[if_neg ca]at h;have cb:b∈T:=X8 λz=>by rw[if_neg z]at h;lia
  refine .inr (vB C.up (YQ _ _) λx=>⟨λhx=>?_,λhx=>?_⟩);{rcases sub x hx with rfl|rfl;{exact absurd hx ca};exact V1};rw[VB.mp hx];exact cb
 intro h;refine .of he ?_ (λx hx=>?_) λg hg=>?_;{rcases h with rfl|rfl<;>exact YQ _ _};{rw[kj];rcases h with rfl|rfl<;>simp at hx<;>simp[hx]};rw[VB.mp hg,key];rcases h with rfl|rfl;{rw[if_pos V1,if_neg (by simp;lia)]};rw[if_neg (by simp;lia),if_pos V1]
theorem Ar{p:Nat->Bool}:∀{g:Zo},(g.flatten.filter p).length=(g.map λs=>(s.filter p).length).sum
 |[]=>rfl
 |s::g=>by rw[Wb,Yz,VD,Ar,VH,Vu]
end
def UD:Sk x E Q=Q E (.st false) (.dict [(.none,.none)]):=rfl
def UH{p:Bool}:Kd.pin (.st p)=p:=rfl
abbrev tD(l:A03):PyData:=.tuple (l.map iD)
def xP(l:A03):A03:=l.mergeSort λa b=>decide (a<=b)
def tQ:(xP l).Perm l:=List.mergeSort_perm ..
def N2:(xP l).Pairwise (·<=·):=by have:=List.pairwise_mergeSort (le:=λa b:Nat=>decide (a<=b)) (λa b c h1 h2=>by simp at *;lia) (λa b=>by simp;lia) l;exact this.imp λh=>Vf h
def MW(h:ns.length<64)(q:P (.ow false) (nD (xP ns))):lX [nD ns] P:=wJ h λms p u=>by rw[kh (p.trans tQ.symm) u N2];exact q
abbrev sC(m:Nat)(es:Zr):PyData:=.list ((List.range m).map λp=>nD (xP (bQ es p)))
def Eo:bF:=λds Q x=>∃m es,ds=[wD m es]/\m<=60/\Gr.Good m es/\Q [] (.ow false) (sC m es)
def Q9:∀ds Q x,Eo ds Q x->ju (bg [false] Q x) (ini [false] ds++List.replicate 4 none):=by
 rintro _ Q x⟨m,es,rfl,hm,gd,q⟩;unfold ju;rfl';rw[if_pos (by lia)];refine cR rfl (F9 (λ_=>PyData.list []) rfl (λa ha I hI=>?_) ?_ (by rw[VI];lia));{rfl';exact⟨by lia,⟨false,rfl⟩,hI _ rfl⟩};rfl';refine je (λi E=>∃o4 o5:A08,E=[some (.sh,wD m es),some (.dp false,HR m (es.take i)),o4,o5,none]/\bH o4=true/\bH o5=true) ⟨none,none,rfl,rfl,rfl⟩ ?_ ?_
 .rintro J i⟨a,b⟩_ hi hJ⟨o4,o5,rfl,ho4,ho5⟩;have hab:=gd.lt _ (VZ hi);have hab:a<b/\b<m:=hab;simp![ho4,ho5,ve];have hn:∀k,(Gr.bQ (es.take i) k).length<1000:=λk=>by have g2:Gr.Good m (es.take i):=⟨λe he=>gd.lt e (ZV he),WI (YV _ _) gd.nd⟩;have:=g2.jD k;lia
  refine vC (g:=λk=>(Gr.bQ (es.take i) k).map iD) rfl rfl (by lia) (by lia) (by rw[V4];have:=hn a;lia) ?_;simp![ho4,ho5,ve];refine vC (g:=λk=>if k=a then(Gr.bQ (es.take i) k).map iD++[iD b]else(Gr.bQ (es.take i) k).map iD) rfl rfl (by lia) (by lia) (by rw[if_neg (by lia),V4];have:=hn b;lia) ?_;refine hJ _ ⟨some (.sh,iD a),some (.sh,iD b),?_,rfl,rfl⟩;simp only[List.set_cons_succ,List.set_cons_zero];have e:∀k,(if k=b then(if k=a then(Gr.bQ (es.take i) k).map iD++[iD b]else(Gr.bQ (es.take i) k).map iD)++[iD a]else if k=a then(Gr.bQ (es.take i) k).map iD++[iD b]else(Gr.bQ (es.take i) k).map iD)=(Gr.bQ (es.take (i+1)) k).map iD:=λk=>by rw[take_snoc hi,Gr.Cg,VT];unfold Gr.bQ;rw[Vy,List.filterMap_nil];unfold Gr.nb;simp only;by_cases c:k=a;{subst c;rw[if_neg (by lia),if_pos rfl,if_pos rfl];rfl};by_cases c2:k=b;{subst c2;rw[if_pos rfl,if_neg c,if_neg (Ne.symm c),if_pos rfl];rfl};rw[if_neg c2,if_neg c,if_neg (Ne.symm c),if_neg (Ne.symm c2)];exact(Vm _).symm
  rw[W3 λk _=>congrArg PyData.list (e k)]
 rintro _⟨o4,o5,rfl,ho4,ho5⟩;rw[W9];rfl';refine eY (λp=>nD (xP (bQ es p))) rfl (λp hp I hI=>?_) ?_ (by rw[VI];lia);{have:=gd.jD p;rfl';refine MW (by lia) ?_;rfl';exact hI _ rfl};rfl';exact q
def D4:bF:=λdd Q x=>∃m es k,dd=[wD m es,.str k]/\aY m es/\dB k/\Q [] .sh (.list ((aD k m es).map rD))
def Oz:∀dd Q x,D4 dd Q x->iw (bg [false,false] Q x) (ini [false,false] dd++List.replicate 1 none):=by
 rintro _ Q x⟨m,es,k,rfl,W,hk,q⟩;have hm:=W.le;have hes:=W.few;unfold iw;rfl';refine⟨⟨by lia,by lia⟩,by lia,?_⟩;rw[Nd (by decide) (by decide) (by decide)];refine⟨rfl,?_⟩;have e1:((List.range m).map Sum.inl).map rD=(List.range m).map iD:=by rw[VR];rfl
 have e2:(es.map Sum.inr).map rD=es.map gz:=by rw[VR];rfl
 refine⟨⟨rfl,rfl⟩,?_⟩;unfold aD at q;rcases hk with rfl|rfl|rfl;{refine⟨_,by simp[cJ];rfl,?_⟩;rw[if_neg (by decide),if_pos rfl,Vm,e1]at q;exact q};{refine⟨.list (es.map gz),?_,?_⟩;{unfold cJ;rw[Xb (by simp;decide),Y0 (by simp)];rfl};rw[if_pos rfl,if_neg (by decide),Xz,e2]at q;exact q};refine⟨.list ((List.range m).map iD++es.map gz),?_,?_⟩;{unfold cJ;rw[Xb (by simp;decide),Xb (by simp;decide),Y0 (by simp)];rfl};rw[if_neg (by decide),if_neg (by decide),VT,e1,e2]at q;exact q
def Sp(m:Nat)(es:Zr) (l:Nat)(d:PyData):Prop:=∃kvs,d=.dict kvs/\iL kvs=true/\∀x,x<m->cJ kvs (iD x)=some (iD (ds es l x))
def K6{y:Nat}:br [.dict kvs,iD y] P=((kG (iD y)=true/\iL kvs=true)/\∃d,cJ kvs (iD y)=some d/\P .sh d):=by
 cases kvs with
 |nil=>rfl
 |cons kv t=>
  obtain⟨a,b⟩:=kv;cases a with
  |none=>cases b<;>rfl
  |_=>rfl
def EE{m:Nat}{l y:Nat}(h:Sp m es l d)(hy:y<m)(q:P .sh (iD (ds es l y))):br [d,iD y] P:=by obtain⟨kvs,rfl,e2,e3⟩:=h;rw[K6];exact⟨⟨rfl,e2⟩,_,e3 y hy,q⟩
def Ez:bF:=λdd Q x=>∃(m:Nat)(es:Zr)(rs:List (Nat×PyData))(t:Th),dd=[.list (rs.map (·.2)),rD t]/\(∀r∈rs,Sp m es r.1 r.2)/\TV m t/\rs.length<=60/\Q [] .sh (tD (eO es (rs.map (·.1)) t))
def PC:∀dd Q x,Ez dd Q x->jc (bg [false,false] Q x) (ini [false,false] dd++List.replicate 1 none):=by
 rintro _ Q x⟨m,es,rs,t,rfl,hr,ht,hl,q⟩;unfold jc;rcases t with p|e
 .simp![rD];refine eY (λr=>iD (td es r.1 (.inl p))) rfl (λr h I hI=>?_) ?_ (by lia);{rfl';refine EE (hr r h) ht ?_;exact⟨rfl,hI _ rfl⟩};rfl';have e9:(rs.map λr=>iD (td es r.1 (.inl p)))=(eO es (rs.map (·.1)) (.inl p)).map iD:=by unfold eO;rw[VR,VR];rfl
  rw[e9];exact q
 simp![rD];refine eY (λr=>iD (td es r.1 (.inr e))) rfl (λr h I hI=>?_) ?_ (by lia);{rfl';refine EE (hr r h) ht.1 ?_;rfl';refine EE (hr r h) ht.2 ?_;rfl';exact hI _ rfl};rfl';have e9:(rs.map λr=>iD (td es r.1 (.inr e)))=(eO es (rs.map (·.1)) (.inr e)).map iD:=by unfold eO;rw[VR,VR];rfl
 rw[e9];exact q
abbrev kI(ps:Zr):Zi:=ps.map λe=>(iD e.1,iD e.2)
def dU(ps:Zr) (x:Nat):Option Nat:=(ps.find? λe=>decide (e.1=x)).map (·.2)
theorem uV{x:Nat}:∀{ps:Zr},cJ (kI ps) (iD x)=(dU ps x).map iD
 |[]=>rfl
 |e::ps=>by
  have ih:=uV (x:=x) (ps:=ps);unfold cJ dU kI at ih⊢;rw[VH,X6,X6];by_cases c:e.1=x
  .have c':iD e.1=iD x:=by rw[c]
   simp only[c,decide_true];rfl
  have c':¬iD e.1=iD x:=λz=>c (vR.mp z);simp only[c,c',decide_false];exact ih
def zW{x:Nat}:dU ps x=none↔∀e∈ps,e.1≠x:=by unfold dU;rw[Option.map_eq_none_iff,List.find?_eq_none];simp
def pJ{y d:Nat}(h:dU ps y=none):dU (ps++[(y,d)])=λx=>if x=y then some d else dU ps x:=by
 funext x;unfold dU;rw[List.find?_append];by_cases c:x=y
 .subst c;have h':(ps.find? λe=>decide (e.1=x))=none:=by unfold dU at h;exact Option.map_eq_none_iff.mp h
  rw[h',if_pos rfl];simp
 rw[if_neg c];cases e:ps.find? λe=>decide (e.1=x)with
 |some v=>rfl
 |none=>simp[Ne.symm c]
def Pf{y d:Nat}(h:dU ps y=none):putD (kI ps) (iD y) (iD d)=kI (ps++[(y,d)]):=by have no:=zW.mp h;unfold putD;rw[if_neg];{unfold kI;rw[VT];rfl};rw[YI];rintro⟨kv,h1,h2⟩;obtain⟨e,he,rfl⟩:=V6.mp h1;exact no e he (vR.mp (Vf h2))
def tW:∀{ps:Zr},iL (kI ps)=true
 |[]=>rfl
 |_::_=>rfl
def OC{y:Nat}:iA true [iD y,.dict kvs] P=((kG (iD y)=true/\iL kvs=true)/\P .sh (.bool !(cJ kvs (iD y)).isSome)):=by
 cases kvs with
 |nil=>rfl
 |cons kv t=>
  obtain⟨a,b⟩:=kv;cases a with
  |none=>cases b<;>rfl
  |_=>rfl
def S5{y d:Nat}(h:dU ps y=some d)(q:P .sh (iD d)):br [.dict (kI ps),iD y] P:=by rw[K6];exact⟨⟨rfl,tW⟩,_,by rw[uV,h];rfl,q⟩
def OD{y:Nat}:iA true [iD y,.dict (kI ps)] P=P .sh (.bool (dU ps y).isNone):=by rw[OC,uV];refine propext ⟨λh=>?_,λh=>⟨⟨rfl,tW⟩,?_⟩⟩;{have h:=h.2;cases e:dU ps y<;>rw[e]at h<;>exact h};cases e:dU ps y<;>rw[e]at h<;>exact h
def DK:bF:=λdd Q x=>∃m es p,dd=[sC m es,iD p]/\aY m es/\p<m/\∀d,Sp m es p d->Q [] (.dk false) d
structure Ks(m:Nat)(ps:Zr):Prop where
 nd:(ps.map (·.1)).Nodup
 lt:∀e∈ps,e.1<m
def Ks.len{m:Nat}(h:Ks m ps):ps.length<=m:=by
 have:=Gr.dm m _ h.nd λx hx=>by obtain⟨e,he,rfl⟩:=V6.mp hx;exact h.lt e he
 rw[V4]at this;exact this
def Ks.put{m y d:Nat}(h:Ks m ps)(hy:y<m)(n:dU ps y=none):Ks m (ps++[(y,d)]):=by refine⟨?_,λe he=>?_⟩;{rw[VT];refine Vv.mpr ⟨h.nd,Vi.mpr ⟨VE,W8⟩,λa ha b hb e=>?_⟩;obtain⟨f,hf,rfl⟩:=V6.mp ha;have hb':b=y:=VB.mp hb;exact zW.mp n f hf (e.trans hb')};rcases V8.mp he with z|z;{exact h.lt e z};rw[VB.mp z];exact hy
def PR:∀dd Q x,DK dd Q x->iW (bg [false,false] Q x) (ini [false,false] dd++List.replicate 5 none):=by
 rintro _ Q x⟨m,es,p,rfl,W,hp,q⟩;have hm:=W.le;have gd:=W.gd;unfold iW;simp![Ng];refine⟨rfl,by lia,?_⟩;refine SN (λn E=>∃(r:Nat)(ps:Zr)(ed:A03)(k3:Kd)(o4 o5 o6:A08),E=[some (.sh,sC m es),some (.sh,iD p),some (.dk false,.dict (kI ps)),some (k3,nD ed),o4,o5,o6]/\(k3=.ow false\/k3=.sh)/\bH o4=true/\bH o5=true/\bH o6=true/\n=2*Gr.cnt (dU ps) m+(if ed=[]then 0 else 1)/\Gr.qd (Gr.aB es) p r (dU ps) ed/\(∀x∈ed,x<m)/\Ks m ps) ?_ ?_
 .refine⟨_,0,[(p,0)],[p],_,none,none,none,rfl,.inl rfl,rfl,rfl,rfl,rfl,?_,λx hx=>by rw[VB.mp hx];exact hp,⟨Vi.mpr ⟨VE,W8⟩,λe he=>by rw[VB.mp he];exact hp⟩⟩;have:dU [(p,0)]=λx=>if x=p then some 0 else none:=pJ (ps:=[]) rfl
  rw[this];exact Gr.qd.start
 rintro J n _ hJ⟨r,ps,ed,k3,o4,o5,o6,rfl,hk3,h4,h5,h6,rfl,B,edm,ks⟩;have rd3:k3.rd=true:=by rcases hk3 with rfl|rfl<;>rfl
 have fz3:k3.fz=true:=by rcases hk3 with rfl|rfl<;>rfl
 simp![rd3];cases ed with
 |nil=>rw[if_neg (by simp)];refine q _ ⟨_,rfl,tW,λy hy=>?_⟩;obtain⟨d,hd⟩:=W.cn p hp y hy;rw[uV,B.val hd];rfl
 |cons e0 er=>
  rw[if_pos (by simp),if_pos fz3];refine⟨by lia,h4,cR rfl ?_⟩;have ne:e0::er≠[]:=XE _ _;generalize e0::er=ed at B edm ne hJ⊢;refine je (λi E=>∃(ps':Zr)(rc:A03)(o5 o6:A08),E=[some (.sh,sC m es),some (.sh,iD p),some (.dk false,.dict (kI ps')),some (.sh,nD ed),some (.ow false,nD rc),o5,o6]/\bH o5=true/\bH o6=true/\Gr.iM (Gr.aB es) r (dU ps) ed (dU ps') rc/\(∀j h,j<i->ed[j]?=some h->∀x,Gr.aB es h x->dU ps' x≠none)/\rc.Nodup/\(∀x∈rc,x<m)/\Ks m ps') ⟨ps,[],o5,o6,rfl,h5,h6,.start,λj h hj=>by lia,W8,λ_ h=>absurd h VE,ks⟩ ?_ ?_
  .rintro J i h _ hi hJ⟨ps',rc,o5,o6,rfl,h5,h6,BI,don,rcn,rcm,ks'⟩;have mh:h∈ed:=VZ hi;have hm':=edm h mh;simp![h5,W7 hm'];refine je (λi' E=>∃(ps':Zr)(rc:A03)(o6:A08),E=[some (.sh,sC m es),some (.sh,iD p),some (.dk false,.dict (kI ps')),some (.sh,nD ed),some (.ow false,nD rc),some (.sh,iD h),o6]/\bH o6=true/\Gr.iM (Gr.aB es) r (dU ps) ed (dU ps') rc/\(∀j h,j<i->ed[j]?=some h->∀x,Gr.aB es h x->dU ps' x≠none)/\(∀j y,j<i'->(xP (Gr.bQ es h))[j]?=some y->dU ps' y≠none)/\rc.Nodup/\(∀x∈rc,x<m)/\Ks m ps') ⟨ps',rc,o6,rfl,h6,BI,don,λj y hj=>by lia,rcn,rcm,ks'⟩ ?_ ?_
   .rintro J i' y _ hy hJ⟨ps',rc,o6,rfl,h6,BI,don,dni,rcn,rcm,ks'⟩;have hyE:Gr.aB es h y:=Gr.bD.mp (tQ.mem_iff.mp (VZ hy));have ym:y<m:=(gd.bT hyE).2;have eh:=BI.at B mh;have hkl:=ks'.len;simp![h6,OD];cases gy:dU ps' y with
    |some d=>simp only[dw,Option.isNone_some];refine hJ _ ⟨ps',rc,some (.sh,iD y),rfl,rfl,BI,don,λj z hj hz=>?_,rcn,rcm,ks'⟩;by_cases c:j=i';{subst c;rw[hy]at hz;cases hz;rw[gy];simp};exact dni j z (by lia) hz
    |none=>
     simp![Option.isNone_none];refine S5 eh ?_;have e2:(r:Int)+1=((r+1:Nat):Int):=rfl;simp![e2];have yrc:y∉rc:=λh'=>by have:=((BI.got y).mp h').2;rw[gy]at this;cases this
     have rcl:=Gr.dm m rc rcn rcm;rw[show PyData.int ((r+1:Nat):Int)=iD (r+1)from rfl,Pf gy];have BI':=BI.put mh hyE gy;rw[<-pJ gy]at BI';refine⟨⟨rfl,by lia⟩,by lia,hJ _ ⟨ps'++[(y,r+1)],rc++[y],some (.sh,iD y),by rw[wR],rfl,BI',λj h' hj he x hx=>?_,λj z hj hz=>?_,?_,λx hx=>?_,ks'.put ym gy⟩⟩;{rw[pJ gy];show(if x=y then some (r+1)else dU ps' x)≠none;split;{exact λh=>(nomatch h)};exact don j h' hj he x hx};{rw[pJ gy];show(if z=y then some (r+1)else dU ps' z)≠none;split;{exact λh=>(nomatch h)};rename_i c;by_cases c2:j=i';{subst c2;rw[hy]at hz;cases hz;exact absurd rfl c};exact dni j z (by lia) hz}
     .exact Vv.mpr ⟨rcn,Vi.mpr ⟨VE,W8⟩,λa ha b hb e=>by
       cases VB.mp hb;exact yrc (e▸ha)⟩
     rcases V8.mp hx with h'|h';{exact rcm x h'};rw[VB.mp h'];exact ym
   rintro _⟨ps',rc,o6,rfl,h6,BI,don,dni,rcn,rcm,ks'⟩;refine hJ _ ⟨ps',rc,_,o6,rfl,rfl,h6,BI,λj h' hj hh x hx=>?_,rcn,rcm,ks'⟩;by_cases c:j=i;{subst c;rw[hi]at hh;cases hh;obtain⟨l,hl⟩:=ZY.mp (tQ.mem_iff.mpr (Gr.bD.mpr hx));exact dni l x (cX hl) hl};exact don j h' (by lia) hh x hx
  rintro _⟨ps',rc,o5,o6,rfl,h5,h6,BI,don,rcn,rcm,ks'⟩;rfl';have all:∀h,h∈ed->∀x,Gr.aB es h x->dU ps' x≠none:=λh hh=>by obtain⟨j,hj⟩:=ZY.mp hh;exact don j h (cX hj) hj
  refine hJ _ _ ?_ ⟨r+1,ps',rc,.sh,some (.sh,nD rc),o5,o6,rfl,.inr rfl,rfl,h5,h6,rfl,B.next BI all,rcm,ks'⟩;rw[if_neg ne];cases rc with
  |nil=>have:=Gr.Bf (f:=dU ps) (g:=dU ps') (λx h=>BI.none h) m;rw[if_pos rfl];lia
  |cons y rc=>obtain⟨h1,h2⟩:=(BI.got y).mp (V1 ..);have:=Gr.FW (f:=dU ps) (g:=dU ps') (λx h=>BI.none h) h1 (by rw[h2];exact λh=>(nomatch h)) m (rcm y (V1 ..));rw[if_neg (XE _ _)];lia
def Vb{a b:Zw}{P:A09}:l6 [.tuple a,.tuple b] P=((dl 8 (.tuple a)=true/\dl 8 (.tuple b)=true)/\P .sh (.bool !(decide (PyData.tuple a=.tuple b)))):=rfl
def EO:bF:=λdd Q x=>∃n:Nat,dd=[iD n]/\Q [] .sh (.bool true)
def Pg:∀dd Q x,EO dd Q x->iU (bg [false] Q x) (ini [false] dd++List.replicate 0 none):=by rintro _ Q x⟨n,rfl,q⟩;unfold iU;rfl';exact q
def Vc:l6 [.none,.none] P=P .sh (.bool false):=rfl
section
variable{es:Zr}{ls:A03}{ts:List Th}
def Q3(h:0<pt es ls t u):∃l∈ls,td es l t≠td es l u:=by obtain⟨l,hl⟩:=List.exists_mem_of_length_pos h;obtain⟨h1,h2⟩:=VJ.mp hl;exact⟨l,h1,Vf h2⟩
end
section
variable{m:Nat}{es:Zr}{R:A03}
def xW(es:Zr)(R:A03)(ts:List Th):Prop:=∀t u,t∈ts->u∈ts->t≠u->0<pt es R t u
def oJ{w a:Nat}:0<cb es R w a↔∃l∈R,aN es w a l:=by unfold cb;rw[Zh];constructor;{rintro⟨l,h⟩;exact⟨l,(VJ.mp h).1,bd (VJ.mp h).2⟩};rintro⟨l,h1,h2⟩;exact⟨l,VJ.mpr ⟨h1,Ve h2⟩⟩
def Io(T:Tree m es)(hR:∀l∈R,l<m){k:Str}(hk:k="places"\/k="ties")(h2:2<=(aD k m es).length):xW es R (aD k m es)↔R≠[]/\∀w a b,aB es w a->aB es w b->a≠b->∃l∈R,aN es w a l\/aN es w b l:=by
 constructor
 .intro K;refine⟨λz=>?_,λw a b ha hb ne=>?_⟩
  .obtain⟨t,u,ht,hu,n⟩:=Qu (BA T.gd) h2;have:=K t u ht hu n;have:=RM (es:=es) (ls:=R) (t:=t) (u:=u);have hz:R.length=0:=by rw[z];rfl
   lia
  obtain⟨t,u,ht,hu,n,le⟩:=G1 (ls:=R) T hk ha hb ne hR;have:=K t u ht hu n;by_cases c:0<cb es R w a;{obtain⟨l,h1,h2⟩:=oJ.mp c;exact⟨l,h1,.inl h2⟩};obtain⟨l,h1,h2⟩:=oJ.mp (show 0<cb es R w b by lia);exact⟨l,h1,.inr h2⟩
 rintro⟨h0,h⟩t u ht hu n;rcases KJ T hR hk ht hu n with e|⟨w,a,b,ha,hb,ne,le⟩;{rw[e];exact Z0.mpr h0};obtain⟨l,h1,z⟩:=h w a b ha hb ne;rcases z with z|z;{have:=oJ.mpr ⟨l,h1,z⟩;lia};have:=oJ.mpr ⟨l,h1,z⟩;lia
def CZ(T:Tree m es)(hR:∀l∈R,l<m)(h2:2<=m):xW es R (aD "all" m es)↔R≠[]/\∀w a,aB es w a->∃l∈R,aN es w a l:=by
 constructor
 .intro K;have one:∀w a,aB es w a->∃l∈R,aN es w a l:=λw a ha=>by
   have hw:=(T.gd.bT ha).1;have t1:(Sum.inl w:Th)∈aD "all" m es:=by unfold aD;rw[if_neg (by decide),if_neg (by decide)];exact V8.mpr (.inl (V6.mpr ⟨w,VL.mpr hw,rfl⟩))
   have t2:(Sum.inr (jz w a):Th)∈aD "all" m es:=by unfold aD;rw[if_neg (by decide),if_neg (by decide)];exact V8.mpr (.inr (V6.mpr ⟨_,pF T.gd ha,rfl⟩))
   have:=K _ _ t1 t2 (by intro z;cases z);have:=Oj T hR ha;exact oJ.mp (by lia)
  refine⟨λz=>?_,one⟩;obtain⟨n,hn,_⟩:=T.some (p:=0) (x:=1) (by lia) (by lia) (by lia);obtain⟨l,hl,_⟩:=one 0 n hn;rw[z]at hl;exact absurd hl VE
 rintro⟨h0,h⟩t u ht hu n;rcases Ni T hR ht hu n with e|⟨w,a,ha,le⟩;{rw[e];exact Z0.mpr h0};have:=oJ.mpr (h w a ha);lia
def za(T:Tree m es){w a f n x:Nat}(hx:x<m)(ha:aB es w a)(bf:aN es w a f)(an:aB es f n)(up:ds es w n=ds es w f+1)(bx:aN es f n x):aN es w a x/\ds es w f<ds es w x:=by
 have lw:=(T.gd.bT ha).1;have la:=(T.gd.bT ha).2;have lf:=(T.gd.bT an).1;have ln:=(T.gd.bT an).2;have n1:¬aN es f n w:=λz=>by unfold aN at z;rw[T.cn.sy ln lw,T.cn.sy lf lw]at z;lia
 have c1:=T.j6 lw hx an n1 bx;have d1:=T.dn lw ha;have n2:¬aN es f n a:=λz=>by unfold aN at z bf;rw[T.cn.sy ln la,T.cn.sy lf la]at z;have:=T.cn.fB lw la ln;lia
 have c2:=T.j6 la hx an n2 bx;unfold aN at bf⊢;exact⟨by lia,by lia⟩
theorem Co{α:Type}{p:α->Bool}:∀{l:List α},l.length=(l.filter p).length+(l.filter λx=>!(p x)).length
 |[]=>rfl
 |a::l=>by
  have:=Co (p:=p) (l:=l);cases h:p a with
  |true=>rw[WQ h,WR (by simp[h]),VF,VF];lia
  |false=>rw[WR (by simp[h]),WQ (by simp[h]),VF,VF];lia
def ups(T:Tree m es)(W:aY m es){w f:Nat}(lw:w<m){j:Nat}(hd:j+1<=c9 es f):∃ns:A03,ns.length=j/\ns.Nodup/\∀n∈ns,aB es f n/\ds es w n=ds es w f+1:=by
 have nn:=W.gd.fN f;have hb:((bQ es f).filter λn=>decide (ds es w f=ds es w n+1)).length<=1:=by
  generalize e:(bQ es f).filter (λn=>decide (ds es w f=ds es w n+1))=l;have nl:l.Nodup:=e▸WI Wk nn
  match l,nl with
  |[],_=>exact VW _
  |[_],_=>exact V3 _
  |y::z::l,nl=>
   exfalso;have hy:y∈(bQ es f).filter (λn=>decide (ds es w f=ds es w n+1)):=by rw[e];simp
   have hz:z∈(bQ es f).filter (λn=>decide (ds es w f=ds es w n+1)):=by rw[e];simp
   have:=T.one lw (bD.mp (VJ.mp hy).1) (bD.mp (VJ.mp hz).1) (Vf (VJ.mp hy).2) (Vf (VJ.mp hz).2);subst this;simp at nl
 have hs:=Co (l:=bQ es f) (p:=λn=>decide (ds es w f=ds es w n+1));have hl:j<=((bQ es f).filter λn=>!(decide (ds es w f=ds es w n+1))).length:=by unfold c9 at hd;lia
 refine⟨((bQ es f).filter λn=>!(decide (ds es w f=ds es w n+1))).take j,by rw[WK];lia,WI (YV _ _) (WI Wk nn),λn hn=>?_⟩;obtain⟨h1,h2⟩:=VJ.mp (ZV hn);have h1:=bD.mp h1;refine⟨h1,?_⟩;rcases T.near lw h1 with h|h;{rw[Xa,Ys]at h2;exact absurd h h2};exact h
end
section
variable{m:Nat}{es:Zr}{R:A03}
theorem Bb{φ:Nat->Nat}:∀{l:A03},l≠[]->∃x∈l,∀y∈l,φ y<=φ x
 |[],h=>absurd rfl h
 |[a],_=>⟨a,V1,λy hy=>by rw[VB.mp hy];exact V3 _⟩
 |a::b::l,_=>by
  obtain⟨x,hx,h⟩:=Bb (φ:=φ) (l:=b::l) (XE _ _);by_cases c:φ a<=φ x
  .exact⟨x,V5 _ hx,λy hy=>by
    rcases V7.mp hy with rfl|z
    .exact c
    .exact h y z⟩
  refine⟨a,V1,λy hy=>?_⟩;rcases V7.mp hy with rfl|z;{exact V3 _};have:=h y z;lia
def HL(m:Nat)(es:Zr)(R:A03):Prop:=∀f n1 n2,f∈cL m es->aB es f n1->aB es f n2->n1≠n2->pc m es f n1∈gx m es f->pc m es f n2∈gx m es f->∃l∈R,aN es f n1 l\/aN es f n2 l
def A1(W:aY m es)(T:Tree m es)(hR:∀l∈R,l<m)(H:HL m es R){w a f0:Nat}(ha:aB es w a)(h0:f0∈cL m es)(b0:aN es w a f0):∃l∈R,aN es w a l:=by
 have lw:=(T.gd.bT ha).1;have mem:∀{y},y∈(cL m es).filter (λf=>decide (ds es a f+1=ds es w f))↔y∈cL m es/\aN es w a y:=λ{y}=>by rw[VJ,W2];exact Iff.rfl
 obtain⟨f,hf,mx⟩:=Bb (φ:=ds es w) (l:=(cL m es).filter λf=>decide (ds es a f+1=ds es w f)) (Z1 (mem.mpr ⟨h0,b0⟩));obtain⟨f1,bf⟩:=mem.mp hf;obtain⟨lf,df⟩:=gr.mp f1;obtain⟨ns,nl,nn,hn⟩:=ups T W lw (f:=f) (j:=2) (by lia)
 match ns,nl,nn,hn with
 |[n1,n2],_,nn,hn=>
  obtain⟨a1,u1⟩:=hn n1 (by simp);obtain⟨a2,u2⟩:=hn n2 (by simp);have lg:∀n,aB es f n->ds es w n=ds es w f+1->pc m es f n∈gx m es f:=λn an un=>lF.mpr ⟨n,an,rfl,λy hy z=>by
   obtain⟨ly,by'⟩:=b8.mp hy;obtain⟨g1,g2⟩:=za T ly ha bf an un by';have:=mx y (mem.mpr ⟨z,g1⟩);lia⟩
  obtain⟨l,hl,z⟩:=H f n1 n2 f1 a1 a2 (by simp at nn;exact nn) (lg n1 a1 u1) (lg n2 a2 u2);rcases z with z|z;{exact⟨l,hl,(za T (hR l hl) ha bf a1 u1 z).1⟩};exact⟨l,hl,(za T (hR l hl) ha bf a2 u2 z).1⟩
def Cu(W:aY m es){w a b n:Nat}(hd:c9 es w<=2)(ha:aB es w a)(hb:aB es w b)(ne:a≠b)(hn:aB es w n):n=a\/n=b:=by
 refine X8 λz=>?_;have nn:=W.gd.fN w;have:([n,a,b]:A03).length<=(bQ es w).length:=sub_len' (by
  simp only[Vi,V7,VE,WN,not_false_eq_true,W8,and_true];exact⟨z,ne⟩) λx hx=>by
  simp only[V7,VE,WN]at hx;rcases hx with rfl|rfl|rfl
  .exact bD.mpr hn
  .exact bD.mpr ha
  .exact bD.mpr hb
 unfold c9 at hd;simp at this;lia
def Oq(W:aY m es)(T:Tree m es)(hR:∀l∈R,l<m)(H:HL m es R)(hf:cL m es≠[]):∀w a b,aB es w a->aB es w b->a≠b->∃l∈R,aN es w a l\/aN es w b l:=by intro w a b ha hb ne;have lw:=(T.gd.bT ha).1;by_cases ca:∃f∈cL m es,aN es w a f;{obtain⟨f,h1,h2⟩:=ca;obtain⟨l,h3,h4⟩:=A1 W T hR H ha h1 h2;exact⟨l,h3,.inl h4⟩};by_cases cb:∃f∈cL m es,aN es w b f;{obtain⟨f,h1,h2⟩:=cb;obtain⟨l,h3,h4⟩:=A1 W T hR H hb h1 h2;exact⟨l,h3,.inr h4⟩};by_cases cw:w∈cL m es;{exact H w a b cw ha hb ne (lF.mpr ⟨a,ha,rfl,λy hy z=>ca ⟨y,z,(b8.mp hy).2⟩⟩) (lF.mpr ⟨b,hb,rfl,λy hy z=>cb ⟨y,z,(b8.mp hy).2⟩⟩)};exfalso;obtain⟨f,h1⟩:=Za _ hf;have nw:f≠w:=λz=>cw (z▸h1);obtain⟨n,hn,bn⟩:=T.some lw (gr.mp h1).1 nw;have hd:c9 es w<=2:=Ye λz=>cw (gr.mpr ⟨lw,z⟩);rcases Cu W hd ha hb ne hn with rfl|rfl;{exact ca ⟨f,h1,bn⟩};exact cb ⟨f,h1,bn⟩
def Df(h:hl R s≠0):∃l∈R,l∈s:=by unfold hl at h;obtain⟨x,hx⟩:=Zh.mp (Nat.pos_of_ne_zero h);exact⟨x,Vf (VJ.mp hx).2,(VJ.mp hx).1⟩
def Nv(h:qu R g)(hs:s∈g)(ht:t∈g)(ne:s≠t):hl R s≠0\/hl R t≠0:=by
 obtain⟨a,sp,b,rfl,h0,h1⟩:=h;have one:∀x∈a++sp::b,x≠sp->hl R x≠0:=λx hx n=>by
  have:x∈a++b:=by rcases V8.mp hx with z|z;{exact V8.mpr (.inl z)};rcases V7.mp z with z|z;{exact absurd z n};exact V8.mpr (.inr z)
  rw[h1 x this];decide
 by_cases c:s=sp;{exact .inr (one t ht λz=>ne (c.trans z.symm))};exact .inl (one s hs c)
def SQ(T:Tree m es){f a b:Nat}(lf:f<m)(ha:aB es f a)(hb:aB es f b)(ne:a≠b):pc m es f a≠pc m es f b:=λz=>by have la:=(T.gd.bT ha).2;have h1:a∈pc m es f a:=b8.mpr ⟨la,fX T lf ha⟩;rw[z]at h1;exact ne (T.kR la ha hb (fX T lf ha) (b8.mp h1).2)
def zq(W:aY m es)(T:Tree m es)(h2:2<=m){w a:Nat}(ha:aB es w a):∃e∈ens m es,aN es w a e:=by
 have lw:=(T.gd.bT ha).1;have la:=(T.gd.bT ha).2;obtain⟨x,hx,mx⟩:=Bb (φ:=ds es w) (l:=pc m es w a) (Z1 (b8.mpr ⟨la,fX T lw ha⟩));obtain⟨lx,bx⟩:=b8.mp hx;refine⟨x,VJ.mpr ⟨VL.mpr lx,Ve (X8 λz=>?_)⟩,bx⟩;have:=Tree.xA T h2 lx;obtain⟨ns,nl,_,hn⟩:=ups T W lw (f:=x) (j:=1) (by lia)
 match ns,nl,hn with
 |[n],_,hn=>obtain⟨an,un⟩:=hn n (by simp);have ln:=(T.gd.bT an).2;obtain⟨g1,g2⟩:=za T ln ha bx an un (fX T lx an);have:=mx n (b8.mpr ⟨ln,g1⟩);lia
def jR{e:Nat}:e∈ens m es↔e<m/\c9 es e=1:=by unfold ens;rw[VJ,VL,W2]
def MK(W:aY m es)(ht:es.length+1=m)(hk:dB k)(C:ko (aF k m es) m R):xW es R (aD k m es):=by
 have T:Tree m es:=⟨W.gd,W.cn,ht⟩;obtain⟨nd,he⟩:=fL W ht (k:=k);have hR:∀l∈R,l<m:=λl hl=>he l (C.sub l hl);by_cases c0:(aD k m es).length<2;{intro t u ht' hu n;obtain⟨i,hi,e1⟩:=ZN ht';obtain⟨j,hj,e2⟩:=ZN hu;exact absurd (by rw[<-e1,<-e2];congr 1;lia) n};have hl2:2<=(aD k m es).length:=by lia
 have ue:(ens m es).Pairwise (·<·):=Xg _ XW;have h2:2<=m:=by rw[kind_len W ht hk]at hl2;rcases hk with rfl|rfl|rfl;{rw[if_pos rfl]at hl2;lia};{rw[if_neg (by decide),if_pos rfl]at hl2;lia};rw[if_neg (by decide),if_neg (by decide)]at hl2;lia
 by_cases ka:k="all"
 .subst ka;have eg:aF "all" m es=(ens m es).map λe=>[[e],[]]:=by unfold aF;rw[if_neg c0,if_pos rfl]
  rw[eg,zH ue λx hx=>(jR.mp hx).1]at C;subst C;refine(CZ T hR h2).mpr ⟨λz=>?_,λw a ha=>zq W T h2 ha⟩;obtain⟨n,hn,_⟩:=T.some (p:=0) (x:=1) (by lia) (by lia) (by lia);obtain⟨e,h,_⟩:=zq W T h2 hn;rw[z]at h;exact absurd h VE
 have hk2:k="places"\/k="ties":=by rcases hk with z|z|z;{exact .inl z};{exact .inr z};exact absurd z ka
 rw[Io T hR hk2 hl2];by_cases cf:cL m es=[]
 .have eg:aF k m es=[(ens m es).map λe=>[e]]:=by unfold aF;rw[if_neg c0,if_neg ka,if_pos cf]
  have h3:=Tree.tZ T h2 cf;have low:∀w,w<m->c9 es w<=2:=λw lw=>Ye λz=>by have:w∈cL m es:=gr.mpr ⟨lw,z⟩;rw[cf]at this;exact absurd this VE
  obtain⟨e,hee,rfl⟩:∃e∈ens m es,R=[e]:=by
   rw[eg]at C
   match hh:ens m es,h3 with
   |[u,v],_=>rw[hh]at C ue;have lv:v<m:=(jR.mp (by rw[hh];simp:v∈ens m es)).1;rcases(Dc ((WA.mp ue).1 v V1) lv).mp C with z|z;{exact⟨u,by simp,z⟩};exact⟨v,by simp,z⟩
  refine⟨XE _ _,λw a b ha hb ne=>⟨e,V1,?_⟩⟩;obtain⟨le,de⟩:=jR.mp hee;have lw:=(T.gd.bT ha).1;have nw:e≠w:=λz=>by
   subst z;have:([a,b]:A03).length<=(bQ es e).length:=sub_len' (by simp[ne]) λx hx=>by simp only[V7,VE,WN]at hx;rcases hx with rfl|rfl;{exact bD.mpr ha};exact bD.mpr hb
   unfold c9 at de;simp at this;lia
  obtain⟨n,hn,bn⟩:=T.some lw le nw;rcases Cu W (low w lw) ha hb ne hn with rfl|rfl;{exact .inl bn};exact .inr bn
 have eg:=AB W ht hk ka cf;have H:HL m es R:=λf n1 n2 hf a1 a2 ne l1 l2=>by
  have lf:=(gr.mp hf).1;have hg:gx m es f∈aF k m es:=by rw[eg];exact VJ.mpr ⟨V6.mpr ⟨f,hf,rfl⟩,Ve (Z1 l1)⟩
  rcases Nv (C.Lj he _ hg) l1 l2 (SQ T lf a1 a2 ne)with z|z;{obtain⟨l,h1,h2⟩:=Df z;exact⟨l,h1,.inl (b8.mp h2).2⟩};obtain⟨l,h1,h2⟩:=Df z;exact⟨l,h1,.inr (b8.mp h2).2⟩
 have P:=Oq W T hR H cf;refine⟨λz=>?_,P⟩;obtain⟨f,hf⟩:=Za _ cf;obtain⟨lf,df⟩:=gr.mp hf;obtain⟨ns,nl,nn,hn⟩:=ups T W lf (f:=f) (j:=2) (by lia)
 match ns,nl,nn,hn with
 |[n1,n2],_,nn,hn=>obtain⟨l,hl,_⟩:=P f n1 n2 (hn n1 (by simp)).1 (hn n2 (by simp)).1 (by simp at nn;exact nn);rw[z]at hl;exact absurd hl VE
end
def k9(gs:List (Zo)):Nat:=(gs.map λg=>g.length-1).sum
section
variable{m:Nat}{es:Zr}{R:A03}{gs:List (Zo)}
theorem yw{p:Nat->Bool}:∀{gs:List (Zo)},((av gs).filter p).length=(gs.map λg=>(g.map λs=>(s.filter p).length).sum).sum
 |[]=>rfl
 |g::gs=>by rw[fV,Yz,VD,Ar,yw,VH,Vu]
def ux:((av gs).filter λx=>decide (x∈R)).length=(gs.map λg=>(g.map (hl R)).sum).sum:=yw
def Gw(nd:(av gs).Nodup):((av gs).filter λx=>decide (x∈R)).length<=R.length:=sub_len' (WI Wk nd) λx hx=>Vf (VJ.mp hx).2
def O1(nd:(av gs).Nodup)(h:R.length<=((av gs).filter λx=>decide (x∈R)).length):∀x∈R,x∈av gs:=λx hx=>
 (VJ.mp (Bq (WI Wk nd) (λx hx=>Vf (VJ.mp hx).2) h x hx)).1
theorem Dr{φ ψ:Zo->Nat}:∀{gs:List (Zo)},(∀g∈gs,φ g<=ψ g)->(gs.map φ).sum<=(gs.map ψ).sum/\((gs.map φ).sum=(gs.map ψ).sum->∀g∈gs,φ g=ψ g)
 |[],_=>⟨V3 _,λ_ g h=>absurd h VE⟩
 |g::gs,h=>by obtain⟨i,j⟩:=Dr (gs:=gs) λx hx=>h x (V5 _ hx);have hg:=h g V1;rw[VH,VH,Vu,Vu];refine⟨by lia,λe x hx=>?_⟩;rcases V7.mp hx with rfl|z;{lia};exact j (by lia) x z
def pB(nd:(av gs).Nodup)(he:∀x∈av gs,x<m)(C:ko gs m R):R.length=k9 gs:=by
 have nR:R.Nodup:=C.up.imp λh=>VC h;have h1:((av gs).filter λx=>decide (x∈R)).length=R.length:=by refine Nat.le_antisymm (Gw nd) (sub_len' nR λx hx=>VJ.mpr ⟨C.sub x hx,Ve hx⟩)
 rw[<-h1,ux];unfold k9;congr 1;refine W3 λg hg=>?_;have:=(wg.mp (C.Lj he g hg)).2;lia
theorem xw:∀{g:Zo},g.Pairwise (λs t=>hl R s≠0\/hl R t≠0)->g.length<=(g.map (hl R)).sum+1/\((g.map (hl R)).sum+1=g.length->qu R g)
 |[],_=>⟨VW _,λe=>by cases e⟩
 |s::g,h=>by
  obtain⟨h1,h2⟩:=WA.mp h;obtain⟨i,j⟩:=xw h2;rw[VH,Vu,VF];by_cases c:hl R s=0
  .have ge:∀l:Zo,(∀t∈l,hl R t≠0)->l.length<=(l.map (hl R)).sum/\((l.map (hl R)).sum=l.length->∀t∈l,hl R t=1):=λl=>by
    induction l with
    |nil=>exact λ_=>⟨V3 _,λ_ t h=>absurd h VE⟩
    |cons a l ih=>intro h;obtain⟨i1,i2⟩:=ih λt ht=>h t (V5 _ ht);have ha:=h a V1;rw[VH,Vu,VF];refine⟨by lia,λe t ht=>?_⟩;rcases V7.mp ht with rfl|z;{lia};exact i2 (by lia) t z
   obtain⟨g1,g2⟩:=ge g λt ht=>(h1 t ht).resolve_left λz=>z c;exact⟨by lia,λe=>⟨[],s,g,rfl,c,g2 (by lia)⟩⟩
  refine⟨by lia,λe=>?_⟩;obtain⟨a,sp,b,rfl,h0,h3⟩:=j (by lia);refine⟨s::a,sp,b,rfl,h0,λx hx=>?_⟩;rcases V7.mp hx with rfl|z;{lia};exact h3 x z
def GF{l:Nat}(h1:l∈R)(h2:l∈s):hl R s≠0:=by unfold hl;exact X3 (Xc (VJ.mpr ⟨h2,Ve h1⟩))
def FQ(W:aY m es)(ht:es.length+1=m){k:Str}(hk:dB k)(up:R.Pairwise (·<·))(hR:∀l∈R,l<m)(K:xW es R (aD k m es)):k9 (aF k m es)<=R.length/\(R.length=k9 (aF k m es)->ko (aF k m es) m R):=by
 have T:Tree m es:=⟨W.gd,W.cn,ht⟩;have nR:R.Nodup:=up.imp λh=>VC h;obtain⟨nd,he⟩:=fL W ht (k:=k);by_cases c0:(aD k m es).length<2
 .have eg:aF k m es=[]:=by unfold aF;rw[if_pos c0]
  rw[eg];exact⟨VW _,λe=>NT.mpr (YH.mp e)⟩
 have hl2:2<=(aD k m es).length:=by lia
 have ue:(ens m es).Pairwise (·<·):=Xg _ XW;have h2:2<=m:=by rw[kind_len W ht hk]at hl2;rcases hk with rfl|rfl|rfl;{rw[if_pos rfl]at hl2;lia};{rw[if_neg (by decide),if_pos rfl]at hl2;lia};rw[if_neg (by decide),if_neg (by decide)]at hl2;lia
 by_cases ka:k="all"
 .subst ka;have eg:aF "all" m es=(ens m es).map λe=>[[e],[]]:=by unfold aF;rw[if_neg c0,if_pos rfl]
  have fe:k9 (aF "all" m es)=(ens m es).length:=by
   unfold k9;rw[eg,VR];have:∀l:A03,(l.map ((λg:Zo=>g.length-1)∘λe=>[[e],[]])).sum=l.length:=λl=>by
    induction l with
    |nil=>rfl
    |cons a l ih=>rw[VH,Vu,ih,VF];show 1+l.length=_;lia
   exact this _
  have P:=((CZ T hR h2).mp K).2;have sub:∀e∈ens m es,e∈R:=λe hee=>by obtain⟨le,de⟩:=jR.mp hee;unfold c9 at de;obtain⟨n,en⟩:=List.length_eq_one_iff.mp de;have an:aB es e n:=bD.mp (by rw[en];exact V1);have ln:=(T.gd.bT an).2;obtain⟨l,hl,bl⟩:=P n e an.symm;by_cases c:l=e;{exact c▸hl};obtain⟨n',an',bn'⟩:=T.some le (hR l hl) c;have:n'∈bQ es e:=bD.mpr an';rw[en]at this;rw[VB.mp this]at bn';unfold aN at bl bn';lia
  have nE:(ens m es).Nodup:=ue.imp λh=>VC h;rw[fe];refine⟨sub_len' nE sub,λe=>?_⟩;rw[eg,zH ue λx hx=>(jR.mp hx).1];exact vB up ue λx=>⟨Bq nE sub (by lia) x,sub x⟩
 have hk2:k="places"\/k="ties":=by rcases hk with z|z|z;{exact .inl z};{exact .inr z};exact absurd z ka
 obtain⟨h0,P⟩:=(Io T hR hk2 hl2).mp K;by_cases cf:cL m es=[]
 .have eg:aF k m es=[(ens m es).map λe=>[e]]:=by unfold aF;rw[if_neg c0,if_neg ka,if_pos cf]
  have h3:=Tree.tZ T h2 cf;have fe:k9 (aF k m es)=1:=by unfold k9;rw[eg];show((ens m es).map λe=>[e]).length-1+0=1;rw[V4,h3]
  rw[fe];refine⟨Z0.mpr h0,λe=>?_⟩;obtain⟨r,rfl⟩:=List.length_eq_one_iff.mp e;have lr:=hR r V1;have re:r∈ens m es:=X8 λz=>by
   have h4:=Tree.xA T h2 lr;have h5:2<=(bQ es r).length:=by have:c9 es r≠1:=λy=>z (jR.mpr ⟨lr,y⟩);unfold c9 at this h4;lia
   have nn:=W.gd.fN r
   match hn:bQ es r,h5,nn with
   |a::b::t,_,nn=>
    have ha:aB es r a:=bD.mp (by rw[hn];simp);have hb:aB es r b:=bD.mp (by rw[hn];simp);have ne:a≠b:=λy=>by simp[y]at nn
    obtain⟨l,hl,y⟩:=P r a b ha hb ne;rw[VB.mp hl]at y;exact y.elim Gq Gq
  rw[eg]
  match hh:ens m es,h3 with
  |[u,v],_=>rw[hh]at re ue;have lv:v<m:=(jR.mp (by rw[hh];simp:v∈ens m es)).1;refine(Dc ((WA.mp ue).1 v V1) lv).mpr ?_;simp only[V7,VE,WN]at re;rcases re with rfl|rfl;{exact .inl rfl};exact .inr rfl
 have eg:=AB W ht hk ka cf;have pw:∀g∈aF k m es,g.Pairwise (λs t=>hl R s≠0\/hl R t≠0):=λg hg=>by rw[eg]at hg;obtain⟨f,hf,rfl⟩:=V6.mp (VJ.mp hg).1;unfold gx;refine Xg _ (Wh.mpr ?_);refine Xf (λ{a b} ha hb ne=>?_) (W.gd.fN f);obtain⟨l,hl',z⟩:=P f a b (bD.mp ha) (bD.mp hb) ne;rcases z with z|z;{exact .inl (GF hl' (b8.mpr ⟨hR l hl',z⟩))};exact .inr (GF hl' (b8.mpr ⟨hR l hl',z⟩))
 have gl:=Dr (φ:=λg=>g.length-1) (ψ:=λg=>(g.map (hl R)).sum) (gs:=aF k m es) λg hg=>by have:=(xw (pw g hg)).1;lia
 have fl:=Gw (R:=R) nd;rw[ux]at fl;refine⟨VS gl.1 fl,λe=>?_⟩;have e1:((aF k m es).map λg=>g.length-1).sum=((aF k m es).map λg=>(g.map (hl R)).sum).sum:=Nat.le_antisymm gl.1 (by unfold k9 at e;lia);refine .of he up (O1 nd (by rw[ux];unfold k9 at e;lia)) λg hg=>(xw (pw g hg)).2 ?_;have h5:=gl.2 e1 g hg;have h6:g≠[]:=(vX W ht hk).2.1 g hg;have:=Z0.mpr h6;lia
end
def kF:A03->A03->Prop
 |[],[]=>False
 |[],_::_=>True
 |_::_,[]=>False
 |a::l,b::k=>a<b\/(a=b/\kF l k)
theorem qN:∀{a b:A03},kF a b->kF b a->False
 |[],[],h,_=>h
 |[],_::_,_,h=>h
 |_::_,[],h,_=>h
 |a::l,b::k,h,g=>by rcases h with h|⟨rfl,h⟩;{rcases g with g|⟨e,_⟩;{lia};lia};rcases g with g|⟨_,g⟩;{lia};exact qN h g
theorem wN:∀{p a b:A03},kF a b->kF (p++a) (p++b)
 |[],_,_,h=>h
 |_::_,_,_,h=>.inr ⟨rfl,wN h⟩
theorem AH:∀{a b:A03}{x y:Nat},a.length=b.length->kF a b->kF (a++[x]) (b++[y])
 |[],[],_,_,_,h=>h.elim
 |[],_::_,_,_,e,_=>by cases e
 |_::_,[],_,_,e,_=>by cases e
 |_::_,_::_,_,_,e,h=>h.imp id λ⟨h1,h2⟩=>⟨h1,AH (Nat.succ.inj e) h2⟩
def Og{l k:Zo}(hl:l.Pairwise kF)(hk:k.Pairwise kF)(h:∀x,x∈l↔x∈k):l=k:=by
 have nd:∀{l:Zo},l.Pairwise kF->l.Nodup:=λh=>h.imp λ{a b} z e=>by subst e;exact qN z z
 exact List.Perm.eq_of_pairwise (le:=kF) (λx y _ _ h k=>(qN h k).elim) hl hk ((YM (nd hl) (nd hk)).mpr h)
section
variable{gs:List (Zo)}{e m:Nat}
theorem zu(nd:(av gs).Nodup)(he:∀x∈av gs,x<e):∀{B L:A03}{st n k:Nat},Suf gs st B->(∀x∈L,x<st)->n<k->k<bC L st gs->(eW gs B L n).length=(eW gs B L k).length->kF (eW gs B L n) (eW gs B L k)
 |[],L,st,n,k,S,hL,nk,h,_=>by rw[S.nil he]at h;rcases oq (T:=L) he with⟨z,_⟩|⟨z,_⟩<;>lia
 |s::B,L,st,n,k,S,hL,nk,h,hlen=>by
  have hs:=(S.all s).mp V1;rw[S.step nd hL]at h;have hL1:∀x∈L++[s],x<s+1:=λx hx=>by rcases V8.mp hx with z|z;{have:=hL x z;lia};rw[VB.mp z];lia
  have hL2:∀x∈L,x<s+1:=λx hx=>by have:=hL x hx;lia
  rw[eW,eW]at hlen⊢;by_cases c1:k<bC (L++[s]) (s+1) gs;{rw[if_pos c1,if_pos (by lia)]at hlen⊢;exact zu nd he S.next hL1 nk c1 hlen};rw[if_neg c1]at hlen⊢;by_cases c2:n<bC (L++[s]) (s+1) gs
  .rw[if_pos c2]at hlen⊢;obtain⟨D,e1,e2,_,_⟩:=qw nd he (k:=0) S.next hL1 c2;obtain⟨D',f1,f2,_,_⟩:=qw nd he (n:=k-bC (L++[s]) (s+1) gs) (k:=0) S.next hL2 (by lia);rw[e1,f1]at hlen⊢;rw[W5]at hlen⊢;cases D' with
   |nil=>simp at hlen
   |cons t D'=>refine wN (.inl ?_);exact(WA.mp S.up).1 t (f2.subset V1)
  rw[if_neg c2]at hlen⊢;exact zu nd he S.next hL2 (by lia) (by lia) hlen
def gO(m:Nat)(gs:List (Zo)):Zo:=(List.range (bC [] 0 gs)).map λn=>eW gs (spS m gs) [] n
def OT(nd:(av gs).Nodup)(he:∀x∈av gs,x<m):(gO m gs).Pairwise kF:=by unfold gO;refine Wh.mpr (Xf (λ{a b} ha hb h=>?_) XW);have la:=VL.mp ha;have lb:=VL.mp hb;refine zu nd he (vY he) (λx hx=>absurd hx VE) h lb ?_;rw[pB nd he (n6 nd he la).1,pB nd he (n6 nd he lb).1]
def wF(nd:(av gs).Nodup)(he:∀x∈av gs,x<m):T∈gO m gs↔ko gs m T:=by unfold gO;rw[V6];constructor;{rintro⟨n,hn,rfl⟩;exact(n6 nd he (VL.mp hn)).1};intro C;obtain⟨h1,h2⟩:=N7 nd he C;exact⟨_,VL.mpr h1,h2⟩
def qR(m:Nat)(s:A03):Zo:=((List.range m).filter λp=>decide (s=[]\/s.getLastD 0<p)).map λp=>s++[p]
def sets(m:Nat):Nat->List (A03)
 |0=>[[]]
 |k+1=>(sets m k).flatMap (qR m)
def C9{p:Nat}:(s++[p]).Pairwise (·<·)↔s.Pairwise (·<·)/\(s=[]\/s.getLastD 0<p):=by
 rw[Zb];constructor
 .rintro⟨h1,_,h2⟩;refine⟨h1,?_⟩;cases s with
  |nil=>exact .inl rfl
  |cons a s=>refine .inr ?_;rw[Zc,List.getLast?_eq_some_getLast (XE _ _)];exact h2 _ (List.getLast_mem _) p V1
 rintro⟨h1,h2⟩;refine⟨h1,YQ _ _,λx hx y hy=>?_⟩;rw[VB.mp hy];rcases h2 with rfl|h2;{exact absurd hx VE};obtain⟨q,z,rfl⟩:∃q z,s=q++[z]:=⟨s.dropLast,s.getLast (Z1 hx),(Zd _).symm⟩;rw[Zc,List.getLast?_concat]at h2;have h2:z<p:=h2;rcases V8.mp hx with w|w;{have:=(Zb.mp h1).2.2 x w z V1;lia};rw[VB.mp w];exact h2
theorem gQ:∀{k:Nat}{T:A03},T∈sets m k↔T.length=k/\T.Pairwise (·<·)/\∀x∈T,x<m
 |0,T=>by rw[sets,VB];exact⟨λh=>by rw[h];exact⟨rfl,List.Pairwise.nil,λx hx=>absurd hx VE⟩,λh=>YH.mp h.1⟩
 |k+1,T=>by
  rw[sets,Vq];constructor;{rintro⟨s,hs,h⟩;obtain⟨h1,h2,h3⟩:=gQ.mp hs;obtain⟨p,hp,rfl⟩:=V6.mp h;obtain⟨g1,g2⟩:=VJ.mp hp;refine⟨by rw[VD,h1];rfl,C9.mpr ⟨h2,Vf g2⟩,λx hx=>?_⟩;rcases V8.mp hx with z|z;{exact h3 x z};rw[VB.mp z];exact VL.mp g1};rintro⟨h1,h2,h3⟩;have ne:T≠[]:=λz=>by rw[z]at h1;cases h1
  obtain⟨s,p,rfl⟩:∃s p,T=s++[p]:=⟨T.dropLast,T.getLast ne,(Zd ne).symm⟩;obtain⟨g1,g2⟩:=C9.mp h2;refine⟨s,gQ.mpr ⟨by rw[VD]at h1;exact Nat.succ.inj h1,g1,λx hx=>h3 x (V8.mpr (.inl hx))⟩,V6.mpr ⟨p,VJ.mpr ⟨VL.mpr (h3 p (by simp)),Ve g2⟩,rfl⟩⟩
theorem Dd:∀{k:Nat},(sets m k).Pairwise kF
 |0=>YQ _ _
 |k+1=>by
  rw[sets];have go:∀l:Zo,(∀s∈l,s.length=k)->l.Pairwise kF->(l.flatMap (qR m)).Pairwise kF:=λl=>by
   induction l with
   |nil=>exact λ_ _=>List.Pairwise.nil
   |cons s l ih=>intro hl hp;obtain⟨p1,p2⟩:=WA.mp hp;rw[List.flatMap_cons];refine Zb.mpr ⟨?_,ih (λs hs=>hl s (V5 _ hs)) p2,λa ha b hb=>?_⟩;{refine Wh.mpr ((Xg _ XW).imp λ{a b} h=>wN (show kF [a] [b]from Or.inl h))};obtain⟨x,_,rfl⟩:=V6.mp ha;obtain⟨t,ht,hb⟩:=Vq.mp hb;obtain⟨y,_,rfl⟩:=V6.mp hb;exact AH (by rw[hl s V1,hl t (V5 _ ht)]) (p1 t ht)
  exact go _ (λs hs=>(gQ.mp hs).1) Dd
end
def mG{L:A03}:dl 8 (PyData.list (L.map iD))=true:=by show(L.map iD).all (dl 7)=true;rw[XD];exact VN.mpr λ_ _=>rfl
def L8{m:Nat}:(qR m s).length<=m:=by unfold qR;rw[V4];have:=WO (λp=>decide (s=[]\/s.getLastD 0<p)) (List.range m);rw[VI]at this;exact this
theorem zz{m:Nat}:∀{l:Zo},(l.flatMap (qR m)).length<=l.length*m
 |[]=>by simp
 |s::l=>by have:=L8 (m:=m) (s:=s);have:=zz (m:=m) (l:=l);rw[List.flatMap_cons,VD,VF,Nat.succ_mul];lia
theorem Bd{m:Nat}:∀{k:Nat},(sets m k).length<=m^k
 |0=>V3 1
 |k+1=>VS zz (Nat.mul_le_mul_right m Bd)
def tR{m k:Nat}(hm:m<=8)(hk:k<=8):(sets m k).length<=16777216:=by refine VS Bd ?_;by_cases c:m=0;{subst c;rcases Nat.eq_zero_or_pos k with rfl|h;{decide};rw[Nat.zero_pow h];lia};exact VS (Nat.pow_le_pow_left hm k) (VS (ZA (by lia) hk) (by decide))
def MR:∀{s:A03},s≠[]->eZ (s.map iD) (-1)=some (iD (s.getLastD 0)):=by intro s h;obtain⟨q,z,rfl⟩:∃q z,s=q++[z]:=⟨s.dropLast,s.getLast h,(Zd h).symm⟩;rw[Zc,List.getLast?_concat];unfold eZ oA;rw[V4,VD,Wc,if_neg (by lia),if_pos (by lia),VT];show(q.map iD++[iD z])[((-1:Int)+((q.length+1:Nat):Int)).toNat]?=_;rw[show((-1:Int)+((q.length+1:Nat):Int)).toNat=(q.map iD).length by rw[V4];lia,List.getElem?_concat_length];rfl
def vG(s:A03) (p:Nat):Zo:=((List.range p).filter λp=>decide (s=[]\/s.getLastD 0<p)).map λp=>s++[p]
def Am{p:Nat}:vG s (p+1)=vG s p++(if s=[]\/s.getLastD 0<p then [s++[p]]else []):=by unfold vG;rw[YB,Yz,VT];congr 1;split;{rename_i c;rw[WQ (by simpa using c)];rfl};rename_i c;rw[WR (by simpa using c)];rfl
def QE{m:Nat}:∀{p:Nat},p<=m->(vG s p).length<=(qR m s).length:=λ{p} h=>by
 induction m with
 |zero=>rw[Nat.le_zero.mp h];exact V3 _
 |succ m ih=>by_cases c:p=m+1;{rw[c];exact V3 _};refine VS (ih (by lia)) ?_;show(vG s m).length<=(vG s (m+1)).length;rw[Am,VD];lia
def rO:bF:=λdd Q x=>∃m k,dd=[nD (List.range m),iD k]/\m<=8/\k<=8/\∀kd,(kd=.ow false\/kd=.sh)->Q [] kd (gD (sets m k))
def NI:∀dd Q x,rO dd Q x->jq (bg [false,false] Q x) (ini [false,false] dd++List.replicate 5 none):=by
 rintro _ Q x⟨m,k,rfl,hm,hk,q⟩;unfold jq;rfl';refine⟨by lia,by lia,?_⟩;rw[if_pos ⟨by lia,by lia⟩];refine cR rfl ?_;refine vf (λi E=>∃(kd:Kd)(o3 o4 o5 o6:A08),(kd=.ow false\/kd=.sh)/\E=[some (.sh,nD (List.range m)),some (.sh,iD k),some (kd,gD (sets m i)),o3,o4,o5,o6]/\bH o3=true/\bH o4=true/\bH o5=true/\bH o6=true) ⟨.ow false,none,none,none,none,.inl rfl,rfl,rfl,rfl,rfl,rfl⟩ ?_ ?_
 .rintro J i _ hi hJ⟨kd,o3,o4,o5,o6,hkd,rfl,h3,h4,h5,h6⟩;have sl:=tR hm (show i+1<=8 by lia);rw[sets]at sl;have fl:∀j,(((sets m i).take j).flatMap (qR m)).length<=((sets m i).flatMap (qR m)).length:=λj=>by
   conv=>rhs;rw[<-ZZ j (sets m i),Ze,VD]
   lia
  rcases hkd with rfl|rfl;all_goals
   simp![h3,h4];refine⟨by lia,je (λj E=>∃o5 o6:A08,E=[some (.sh,nD (List.range m)),some (.sh,iD k),some (.sh,gD (sets m i)),some (.sh,iD i),some (.ow false,gD (((sets m i).take j).flatMap (qR m))),o5,o6]/\bH o5=true/\bH o6=true) ⟨o5,o6,rfl,h5,h6⟩ ?_ ?_⟩
   .clear h3 h4 h5 h6 o3 o4 o5 o6;rintro J j s _ hj hJ⟨o5,o6,rfl,h5,h6⟩;have f1:=fl (j+1);rw[take_snoc hj,Ze,List.flatMap_singleton,VD]at f1;generalize hpre:((sets m i).take j).flatMap (qR m)=pre at f1;simp![h5];refine vf (λp E=>∃o6:A08,E=[some (.sh,nD (List.range m)),some (.sh,iD k),some (.sh,gD (sets m i)),some (.sh,iD i),some (.ow false,gD (pre++vG s p)),some (.sh,nD s),o6]/\bH o6=true) ⟨o6,by unfold vG;simp,h6⟩ ?_ ?_
    .clear h5 h6 o5 o6;rintro J p _ hp hJ⟨o6,rfl,h6⟩;have pl:=QE (s:=s) (show p+1<=m by lia)
     have ex:=Am (s:=s) (p:=p);rw[ex,VD]at pl;rw[ex]at hJ;generalize vG s p=np at pl hJ;have sl1:=(gQ.mp (VZ hj)).1;have go:(s=[]\/s.getLastD 0<p)->0+1<=16777216/\s.length+(0+1)<=16777216/\(pre++np).length<16777216/\J [some (.sh,nD (List.range m)),some (.sh,iD k),some (.sh,gD (sets m i)),some (.sh,iD i),some (.ow false,.list ((pre++np).map nD++[.list (s.map iD++[iD p])])),some (.sh,nD s),some (.sh,iD p)]:=λc=>by
      rw[if_pos c]at pl hJ;refine⟨by lia,by lia,by rw[VD];simp at pl;lia,hJ _ ⟨some (.sh,iD p),?_,rfl⟩⟩
      rw[<-wR,<-W5];show _=[_,_,_,_,some (Kd.ow false,PyData.list ((pre++np++[s++[p]]).map nD)),_,_];rw[VT (l₁:=pre++np) (l₂:=[s++[p]])];rfl
     simp![h6];refine⟨by lia,⟨mG,rfl⟩,?_⟩
     by_cases cs:s=[]
     .rw[if_pos (by rw[cs];rfl)]
      exact go (.inl cs)
     .rw[if_neg λz=>cs (Yt.mp (PyData.list.inj z))]
      refine cR (MR cs) ?_;rfl'
      by_cases cl:s.getLastD 0<p
      .rw[if_pos cl];rfl';exact go (.inr cl)
      .rw[if_neg cl];rw[if_neg λz=>z.elim cs cl,Vm]at hJ
       exact hJ _ ⟨some (.sh,iD p),rfl,rfl⟩
    .rintro _⟨o6,rfl,h6⟩;refine hJ _ ⟨some (.sh,nD s),o6,?_,rfl,h6⟩;rw[take_snoc hj,Ze,List.flatMap_singleton,hpre];rfl
   .rintro _⟨o5,o6,rfl,h5,h6⟩;rw[W9];rfl';exact hJ _ ⟨.sh,some (.sh,iD i),some (.sh,gD ((sets m i).flatMap (qR m))),o5,o6,.inr rfl,rfl,rfl,rfl,h5,h6⟩
 rintro _⟨kd,o3,o4,o5,o6,hkd,rfl,h3,h4,h5,h6⟩;have:=q kd hkd;rcases hkd with rfl|rfl;all_goals
  rfl';exact this
end PB
namespace PB
open PySem L2 Dv Gr
open Classical in
def Cw(es:Zr)(ts:List Th)(s:A03):Bool:=decide (xW es s ts)
open Classical in
def oQ:Cw es ts s=true↔xW es s ts:=by unfold Cw;exact decide_eq_true_iff
def p8(es:Zr)(ts:List Th)(l:Zo):Zo:=l.filter (Cw es ts)
def Ik(nd:ts.Nodup):(ts.map (eO es s)).Nodup↔xW es s ts:=by
 constructor
 .intro h t u ht hu ne;have h':ts.Pairwise λt u=>eO es s t≠eO es s u:=Wh.mp h;have sy:eO es s t≠eO es s u:=by obtain⟨i,hi,rfl⟩:=List.mem_iff_getElem.mp ht;obtain⟨j,hj,rfl⟩:=List.mem_iff_getElem.mp hu;have P:=XX.mp h';rcases XT i j with z|rfl|z;{exact P i j hi hj z};{exact absurd rfl ne};exact λe=>P j i hj hi z e.symm
  refine Nat.pos_of_ne_zero λz=>sy ?_;unfold eO;refine W3 λl hl=>?_;refine ZF.mp λc=>?_;have:l∈s.filter λl=>decide (td es l t≠td es l u):=VJ.mpr ⟨hl,Ve c⟩;have:=Xc this;have z:(s.filter λl=>decide (td es l t≠td es l u)).length=0:=z;lia
 intro K;refine Wh.mpr (Xf (R:=(·≠·)) (λ{a b} ha hb ne e=>?_) nd);obtain⟨l,hl,d⟩:=Q3 (K a b ha hb ne);unfold eO at e;exact d (List.map_inj_left.mp e l hl)
def L6{m:Nat}(W:aY m es)(ht:es.length+1=m)(hk:dB k):p8 es (aD k m es) (sets m (k9 (aF k m es)))=gO m (aF k m es):=by obtain⟨nd,he⟩:=fL W ht (k:=k);refine Og (Xg _ Dd) (OT nd he) λT=>?_;unfold p8;rw[VJ,wF nd he,gQ];constructor;{rintro⟨⟨h1,h2,h3⟩,h4⟩;exact(FQ W ht hk h2 h3 (oQ.mp h4)).2 h1};intro C;exact⟨⟨pB nd he C,C.up,λx hx=>he x (C.sub x hx)⟩,oQ.mpr (MK W ht hk C)⟩
def N1{m:Nat}{i:Nat}(W:aY m es)(ht:es.length+1=m)(hk:dB k)(hi:i<k9 (aF k m es)):p8 es (aD k m es) (sets m i)=[]:=by unfold p8;refine Yx.mpr λs hs K=>?_;obtain⟨h1,h2,h3⟩:=gQ.mp hs;have:=(FQ W ht hk h2 h3 (oQ.mp K)).1;lia
def GS{m:Nat}(W:aY m es)(ht:es.length+1=m)(hk:dB k):k9 (aF k m es)<=m/\gO m (aF k m es)≠[]:=by obtain⟨nd,he⟩:=fL W ht (k:=k);have hp:=Cr W ht hk;have C:=(n6 nd he hp).1;refine⟨?_,λz=>?_⟩;{rw[<-pB nd he C];have:=Gr.dm m _ (C.up.imp λh=>VC h) λx hx=>he x (C.sub x hx);exact this};have:=(wF nd he).mpr C;rw[z]at this;exact absurd this VE
def aY.Ud{m:Nat}(W:aY m es)(m8:m<=8)(ht:es.length+1=m):(aD k m es).length<=16:=by
 unfold aD;rw[VD];have h1:(if k="ties" then []else(List.range m).map Sum.inl:List Th).length<=m:=by split;{exact VW _};rw[V4,VI];exact V3 _
 have h2:(if k="places" then []else es.map Sum.inr:List Th).length<=es.length:=by split;{exact VW _};rw[V4];exact V3 _
 lia
def EB:bF:=λdd Q x=>∃m es k,dd=[wD m es,.str k]/\aY m es/\es.length+1=m/\m<=8/\dB k/\Q [] (.ow false) (gD (gO m (aF k m es)))
abbrev Hq(m:Nat)(es:Zr) (k:Str)(k2 k3:Kd)(dF:Nat->PyData)(r:En):En:=some (.sh,wD m es)::some (.sh,.str k)::some (k2,sC m es)::some (k3,.list ((List.range m).map dF))::some (.sh,.list ((aD k m es).map rD))::r
def N6:∀dd Q x,EB dd Q x->iB Eo DK D4 rO Ez (bg [false,false] Q x) (ini [false,false] dd++List.replicate 8 none):=by
 rintro _ Q x⟨m,es,k,rfl,W,ht,m8,hk,q⟩;obtain⟨fm,cn⟩:=GS W ht hk;unfold iB;rfl';refine⟨m,es,rfl,by lia,W.gd,?_⟩;rfl';rw[if_pos ⟨by lia,by lia⟩];refine cR rfl ?_;refine K0 _ (λi ys E=>∃(dF:Nat->PyData)(k2:Kd)(o8:A08),ys=(List.range i).map dF/\(∀j,j<i->Sp m es j (dF j))/\(k2=.ow false\/k2=.sh)/\bH o8=true/\E=[some (.sh,wD m es),some (.sh,.str k),some (k2,sC m es),none,none,none,none,none,o8,none]) rfl ⟨λ_=>.none,_,none,rfl,λj h=>absurd h (by lia),.inl rfl,rfl,rfl⟩ ?_ ?_
 .rintro J i l _ _ hi hJ⟨dF,k2,o8,rfl,sp,hk2,h8,rfl⟩;have el:l=i/\l<m:=by have:=cX hi;rw[VX this,ZE]at hi;rw[VI]at this;have:=Option.some.inj hi;lia
  obtain⟨rfl,hl⟩:=el;have rd3:k2.rd=true:=by rcases hk2 with rfl|rfl<;>rfl
  have fz3:k2.fz=true:=by rcases hk2 with rfl|rfl<;>rfl
  simp![rd3,fz3,h8];refine⟨m,es,l,rfl,W,hl,λd hd=>?_⟩;have hJ':∀k2:Kd,(k2=.ow false\/k2=.sh)->J ((List.range l).map dF++[d]) [some (.sh,wD m es),some (.sh,.str k),some (k2,sC m es),none,none,none,none,none,some (.sh,iD l),none]:=λk2 hk2=>hJ _ _ ⟨λj=>if j=l then d else dF j,k2,_,by
    rw[YB,VT,ZX,if_pos rfl];congr 1;exact W3 λj hj=>(if_neg (by have:=VL.mp hj;lia)).symm,λj hj=>by
    by_cases c:j=l
    .subst c;show Sp m es j (if j=j then d else dF j);rw[if_pos rfl];exact hd
    .show Sp m es j (if j=l then d else dF j);rw[if_neg c];exact sp j (by lia),hk2,rfl,rfl⟩
  rcases hk2 with rfl|rfl
  .rfl';have hll:((List.range l).map dF).length<16777216:=by rw[V4,VI];lia
   split;{exact cR rfl ⟨by simpa using hll,hJ' _ (.inl rfl)⟩};exact cR rfl ⟨by simpa using hll,hJ' _ (.inr rfl)⟩
  rfl';exact⟨by lia,hJ' _ (.inr rfl)⟩
 rintro _ _⟨dF,k2,o8,rfl,sp,hk2,h8,rfl⟩;rw[VI]at sp⊢;simp![h8];refine⟨m,es,k,rfl,W,hk,?_⟩;rfl';rw[if_pos ⟨by lia,by lia⟩];refine cR rfl ?_;rw[show((m:Int)+1).toNat=m+1 by lia];refine vf (λi E=>∃(k3:Kd)(o5 o6 o7:A08),i<=k9 (aF k m es)/\(k3=.ow false\/k3=.sh)/\E=Hq m es k k2 k3 dF [o5,o6,o7,none,none]/\bH o5=true/\bH o6=true/\bH o7=true) ⟨.ow false,none,none,none,VW _,.inl rfl,rfl,rfl,rfl,rfl⟩ ?_ ?_
 .rintro J i _ hi hJ⟨k3,o5,o6,o7,hf,hk3,rfl,h5,h6,h7⟩;simp![h5,h6];refine⟨by lia,⟨by lia,by lia⟩,m,i,rfl,m8,by lia,λkd hkd=>?_⟩;rcases hkd with rfl|rfl;all_goals
   rfl';refine je (λj E=>∃(k3:Kd)(o7:A08),(k3=.ow false\/k3=.sh)/\E=Hq m es k k2 k3 dF [some (.sh,iD i),some (.ow false,gD (p8 es (aD k m es) ((sets m i).take j))),o7,none,none]/\bH o7=true) ⟨k3,o7,hk3,rfl,h7⟩ ?_ ?_
   .clear hk3 h7 k3 o7;rintro J j s _ hj hJ⟨k3,o7,hk3,rfl,h7⟩;obtain⟨sl,sup,slt⟩:=gQ.mp (VZ hj);have sl60:s.length<=60:=by lia
    simp![h7];refine wm (λE=>∃k3:Kd,(k3=.ow false\/k3=.sh)/\E=Hq m es k k2 k3 dF [some (.sh,iD i),some (.ow false,gD (p8 es (aD k m es) ((sets m i).take j))),some (.sh,nD s),none,none]) (λt=>tD (eO es s t)) rfl ⟨k3,hk3,rfl⟩ (λt ht=>?_) ?_ ?_
    .rintro _⟨k3,hk3,rfl⟩I hI;refine⟨_,rfl,?_⟩;rfl';refine wm (λE=>∃k3:Kd,(k3=.ow false\/k3=.sh)/\E=Hq m es k k2 k3 dF [some (.sh,iD i),some (.ow false,gD (p8 es (aD k m es) ((sets m i).take j))),some (.sh,nD s),some (.sh,rD t),none]) dF rfl ⟨k3,hk3,rfl⟩ (λl hl=>?_) ?_ ?_
     .rintro _⟨k3,hk3,rfl⟩I hI;refine⟨_,rfl,?_⟩;have hlm:=slt l hl;rcases hk3 with rfl|rfl
      all_goals
       rfl';refine cR (by rw[W7 hlm]) ?_
      .split
       .exact cR rfl (hI _ _ rfl ⟨_,.inl rfl,rfl⟩)
       .exact cR rfl (hI _ _ rfl ⟨_,.inr rfl,rfl⟩)
      .exact hI _ _ rfl ⟨_,.inr rfl,rfl⟩
     .rintro _⟨k3,hk3,rfl⟩;rfl';refine⟨m,es,s.map λl=>(l,dF l),t,by rw[VR];rfl,λr hr=>?_,Kc W.gd t ht,by rw[V4];lia,?_⟩
      .obtain⟨l,hl,rfl⟩:=V6.mp hr;exact sp l (slt l hl)
      .rw[VR,show s.map ((λr:Nat×PyData=>r.1)∘λl=>(l,dF l))=s from List.map_id' s]
       rfl';exact hI _ _ rfl ⟨k3,hk3,rfl⟩
     .lia
    .rintro _⟨k3,hk3,rfl⟩;rfl';refine⟨(aD k m es).map λt=>(eO es s t).map λn:Nat=>(n:Int),?_,?_,λn n1 n2=>?_⟩
     .rw[VR];refine congrArg (λl=>[PyData.list l]) (W3 λt _=>?_)
      show tD (eO es s t)=PyData.tuple (((eO es s t).map λn:Nat=>(n:Int)).map .int)
      rw[VR];rfl
     .rw[V4];have h1:=W.Ud m8 ht (k:=k);lia
     .rw[V4]at n2;have n2':n=(aD k m es).length↔xW es s (aD k m es):=by
       rw[n2,<-Ik (BA W.gd)];rw[show((aD k m es).map λt=>(eO es s t).map λn:Nat=>(n:Int))=((aD k m es).map (eO es s)).map (λc=>c.map λn:Nat=>(n:Int))by rw[VR];rfl]
       exact⟨λh=>(Wh.mp h).imp λh e=>h (by rw[e]),λh=>Wh.mpr (h.imp λh e=>h (map_inj (λa b h=>by lia) e))⟩
      have fl:(p8 es (aD k m es) ((sets m i).take j)).length<16777216:=by
       have h1:=WO (Cw es (aD k m es)) ((sets m i).take j);have h2:=List.length_take_le j (sets m i);have h3:=cX hj;have h4:=tR m8 (show i<=8 by lia)
       rw[WK]at h1;unfold p8;lia
      rw[take_snoc hj]at hJ;have ek:p8 es (aD k m es) ((sets m i).take j++[s])=p8 es (aD k m es) ((sets m i).take j)++if Cw es (aD k m es) s=true then [s]else []:=by
       unfold p8;rw[Yz];congr 1
       by_cases c:Cw es (aD k m es) s=true
       .rw[if_pos c,WQ c];rfl
       .rw[if_neg c,WR c];rfl
      rw[ek]at hJ;refine⟨rfl,?_⟩;rfl'
      by_cases c:n=(aD k m es).length
      .rw[if_pos (by lia)]
       rw[if_pos (oQ.mpr (n2'.mp c))]at hJ;refine⟨fl,hJ _ ⟨k3,some (.sh,nD s),hk3,?_,rfl⟩⟩;show _=Hq m es k k2 k3 dF [_,some (Kd.ow false,PyData.list ((_++[s]).map nD)),_,_,_];rw[VT];rfl
      .rw[if_neg (by lia)]
       rw[if_neg λz=>c (n2'.mpr (oQ.mp z)),Vm]at hJ
       exact hJ _ ⟨k3,some (.sh,nD s),hk3,rfl,rfl⟩
    .have:=Hl (k:=k) W;lia
   .clear hk3 h7 k3 o7;rintro _⟨k3,o7,hk3,rfl,h7⟩;rw[W9];rfl';refine⟨by lia,⟨SY,rfl⟩,?_⟩
    by_cases c:i=k9 (aF k m es)
    .rw[c,L6 W ht hk,if_pos λz=>cn (Yt.mp (PyData.list.inj z))]
     exact q
    .rw[N1 W ht hk (by lia),if_neg λz=>z rfl]
     exact hJ _ ⟨k3,_,_,o7,by lia,hk3,rfl,rfl,rfl,h7⟩
 rintro _⟨k3,o5,o6,o7,hf,_⟩;lia
def uU{a b:Bool}(h:a=b)(p:P .sh (.bool true)):gB [.bool a,.bool b] P:=by subst h;have e:gB [.bool a,.bool a] P=P .sh (.bool (decide (a=a))):=rfl;rw[e,Ve rfl];exact p
def qq(h:∀B:A0B,(∀E',B E'=b D E')->a { D with nx:=B } E):au a b D E:=h (b D) λ_=>rfl
def U4{u v:Nat}:[u,v].map (λ_=>PyData.bool true)=[true,true].map PyData.bool:=rfl
def yZ:bF:=λdd Q x=>∃m es k,aY m es/\es.length+1=m/\dB k/\((∃n:Int,dd=[iD 0,wD m es,.str k,.int n]/\¬(0<=n/\n<bC [] 0 (aF k m es)))\/∃T:A03,dd=[iD 1,wD m es,.str k,nD T]/\T.length<=63/\¬ko (aF k m es) m T)/\Q [] .sh (.bool true)
def MY:∀dd Q x,yZ dd Q x->eV wk wZ (bg [false,false,false,false] Q x) (ini [false,false,false,false] dd++List.replicate 2 none):=by rintro _ Q x⟨m,es,k,W,ht,hk,⟨n,rfl,nC⟩|⟨T,rfl,hT,nC⟩,q⟩;{unfold eV;rfl';refine⟨m,es,k,n,rfl,W,ht,hk,λj e hj=>absurd ⟨by lia,by lia⟩ nC,λ_=>?_⟩;rfl';refine⟨by decide,by decide,?_⟩;rw[if_neg (by decide)];refine⟨by decide,?_⟩;rw[if_neg (by decide)];refine⟨by decide,uU (by decide) ?_⟩;rfl';exact⟨by decide,uU (by decide) q⟩};unfold eV;rfl';refine⟨m,es,k,zI T,by rw[Ro],W,ht,hk,by unfold zI;rw[V4];exact hT,λL e C=>absurd (zE e▸C) nC,λ_=>?_⟩;rfl';refine⟨by decide,by decide,?_⟩;rw[if_neg (by decide)];refine⟨by decide,?_⟩;rw[if_neg (by decide)];refine⟨by decide,uU (by decide) ?_⟩;rfl';exact⟨by decide,uU (by decide) q⟩
def yV:bF:=λdd Q x=>∃(a b:Int),∃m es k,dd=[kK a b,wD m es,.str k]/\aY m es/\es.length+1=m/\m<=8/\dB k/\0<=b/\b<2147483647/\∀a' b',0<=b'->b'<2147483647->Q [kK a' b'] .sh (.bool true)
def Nz:∀dd Q x,yV dd Q x->iV EB DX Ek EO wk wZ mX yZ rO (bg [true,false,false] Q x) (ini [true,false,false] dd++List.replicate 7 none):=by
 rintro _ Q x⟨a,b,m,es,k,rfl,W,ht,m8,hk,b0,b1,q⟩;obtain⟨nd,he⟩:=fL W ht (k:=k);obtain⟨QO,ok2,ok⟩:=vX W ht hk;have wp:=Cr W ht hk;have wb:=Ck (gs:=aF k m es);have sl:=qW W ht (k:=k);have wc:bC [] 0 (aF k m es)<=2^60:=VS wb (ZA (by lia) sl);unfold iV;refine qq λB hB=>?_;rfl';refine⟨m,es,k,rfl,W,ht,m8,hk,?_⟩;rfl';rw[hB];clear hB B;refine qq λB hB=>?_;rfl';refine⟨m,es,k,rfl,W,ht,QO,ok2,?_⟩;rfl';refine⟨m,es,k,rfl,W,ht,ok,?_⟩;rfl';refine⟨by lia,?_⟩;rw[hB];clear hB B;refine qq λB hB=>?_;rfl';have c0:(gO m (aF k m es))[0]?=some (eW (aF k m es) (spS m (aF k m es)) [] 0):=by unfold gO;rw[VQ,W7 wp];rfl
 have cl:(gO m (aF k m es)).length=bC [] 0 (aF k m es):=by unfold gO;rw[V4,VI]
 have l0:(eW (aF k m es) (spS m (aF k m es)) [] 0).length=(List.map (λg=>g.length-1) (aF k m es)).sum:=pB nd he (n6 nd he wp).1;have l8:(List.map (λg=>g.length-1) (aF k m es)).sum<=8:=VS (GS W ht hk).1 m8;have ef:k9 (aF k m es)=(List.map (λg=>g.length-1) (aF k m es)).sum:=rfl;have cb:=λn (h:n<bC [] 0 (aF k m es))=>n6 nd he h;have cg:∀n,n<bC [] 0 (aF k m es)->(gO m (aF k m es))[n]?=some (eW (aF k m es) (spS m (aF k m es)) [] n):=λn h=>by unfold gO;rw[VQ,W7 h];rfl
 refine cR c0 ⟨by lia,?_⟩;generalize (List.map (λg=>g.length-1) (aF k m es)).sum=u at l0 l8 ef⊢;generalize hw:bC [] 0 (aF k m es)=w at wp wc cl cb cg⊢;rw[cl,l0,if_neg λz=>z rfl,show [iD u,iD w]=[u,w].map iD from rfl];refine⟨⟨rfl,rfl⟩,?_⟩;refine eY (λ_=>.bool true) rfl (λn hn I hI=>?_) ?_ (by simp);{rfl';refine⟨n,rfl,?_⟩;rfl';exact hI _ rfl};rw[U4];rfl';refine Ad ?_;rfl';rw[if_neg (by decide),hB];clear hB B;generalize PyData.list ([u,w].map iD)=told;refine qq λB hB=>?_;rfl';rw[cl,if_pos ⟨by lia,by lia⟩];refine cR rfl ?_;refine vf (λi E=>∃o5 o6 o7:A08,E=[some (.ow true,kK a b),some (.sh,wD m es),some (.sh,.str k),some (.sh,gD (gO m (aF k m es))),some (.sh,told),o5,o6,o7,none,none]/\bH o5=true/\bH o6=true/\bH o7=true) ⟨none,none,none,rfl,rfl,rfl,rfl⟩ ?_ ?_
 .rintro J i _ hi hJ⟨o5,o6,o7,rfl,h5,h6,h7⟩;obtain⟨C,er⟩:=cb i hi;have ci:=cg i hi;generalize hu:eW (aF k m es) (spS m (aF k m es)) [] i=T at C er ci;have hT:T.length<=60:=by have h1:=sub_len' (C.up.imp λh=>VC h) C.sub;lia
  simp![h5,h6,h7];refine⟨m,es,k,(i:Int),rfl,W,ht,hk,λj e hj=>?_,λz=>absurd ⟨by lia,by lia⟩ z⟩;have ej:j=i:=by lia
  subst ej;rw[hu];simp![h5,h6,h7];refine cR ci ?_;refine⟨m,es,k,zI T,by rw[Ro],W,ht,hk,by unfold zI;rw[V4];lia,λL eL C'=>?_,λz=>absurd (RS.mpr C) z⟩;have eL:=zE eL;subst eL;rw[er];simp![h5,h6,h7];refine cR ci ⟨⟨mG,mG⟩,?_⟩;rw[if_neg λz=>z rfl];refine⟨j,rfl,?_⟩;simp![h5,h6,h7];refine⟨by lia,m,es,k,(j:Int),rfl,W,ht,hk,λi e hj=>?_,λz=>absurd ⟨by lia,by lia⟩ z⟩;have ej:i=j:=by lia
  subst ej;rw[hu];simp![h5,h6,h7];refine cR ci ⟨⟨mG,mG⟩,?_⟩;rw[if_neg λz=>z rfl];exact hJ _ ⟨_,_,_,rfl,rfl,rfl,rfl⟩
 rintro _⟨o5,o6,o7,rfl,h5,h6,h7⟩;show B _;rw[hB];clear hB B;refine qq λB hB=>?_;have h30:BB 10 30:=⟨by decide,by decide,by decide⟩;have h9:BB 10 9:=⟨by decide,by decide,by decide⟩;simp![h5,h6,h7];refine⟨h9,a,b,10^9,rfl,by lia,by lia,b0,b1,λr1 a b hr1 b0 b1=>?_⟩;simp![h5,h6,h7];refine⟨h30,a,b,10^30,rfl,by lia,by lia,b0,b1,λr2 a b hr2 b0 b1=>?_⟩;simp![h5,h6,h7];rw[cl];refine⟨by lia,?_⟩;rw[show [PyData.int (-1),PyData.int w,PyData.int (-1-r1),PyData.int (w+r2)]=[(-1:Int),(w:Int),-1-(r1:Int),(w:Int)+(r2:Int)].map PyData.int from rfl];refine je (λ_ E=>∃o5:A08,E=[some (.ow true,kK a b),some (.sh,wD m es),some (.sh,.str k),some (.sh,gD (gO m (aF k m es))),some (.sh,told),o5,o6,o7,none,none]/\bH o5=true) ⟨o5,rfl,h5⟩ ?_ ?_
 .clear h5 o5;rintro J i n _ hi hJ⟨o5,rfl,h5⟩;have nC:¬(0<=n/\n<bC [] 0 (aF k m es)):=by have:=VZ hi;rw[hw];simp only[V7,VE,WN]at this;lia
  simp![h5];refine⟨m,es,k,W,ht,hk,.inl ⟨n,rfl,nC⟩,?_⟩;rfl';exact hJ _ ⟨_,rfl,rfl⟩
 rintro _⟨o5,rfl,h5⟩;show B _;rw[hB];clear hB B;have hp:∀s:A03,nD s∈(gO m (aF k m es)).map nD↔s∈gO m (aF k m es):=λs=>by rw[V6];exact⟨λ⟨t,h1,h2⟩=>QC.mp h2▸h1,λh=>⟨s,h,rfl⟩⟩
 have sl8:=tR m8 l8;have fl:=WO (λs=>decide (¬s∈gO m (aF k m es))) (sets m u);rfl';refine⟨⟨by lia,by lia⟩,cR c0 ?_⟩;refine⟨m,u,by rw[l0],m8,l8,λkd hkd=>?_⟩;rcases hkd with rfl|rfl;all_goals
  rfl';refine kr (λs=>if decide (¬s∈gO m (aF k m es))=true then some (nD s)else none) rfl (λs hs I hI=>?_) ?_ (by lia)
  .simp only[dv,dw,dx,dy,dz,Nat.reduceBEq]at hI⊢;refine⟨⟨VN.mpr λ_ _=>mG,mG⟩,?_⟩
   by_cases c:s∈gO m (aF k m es)
   .rw[if_neg λz=>z ((hp s).mpr c)]
    rw[if_neg λz=>z c]at hI
    exact hI _ rfl
   .rw[if_pos λz=>c ((hp s).mp z)]
    rw[if_pos c]at hI;exact hI _ rfl
  rw[fc];rfl';refine eY (λ_=>.bool true) rfl (λs hs I hI=>?_) ?_ (by lia)
  .obtain⟨h1,h2⟩:=VJ.mp hs;have h2:=Vf h2;have h3:=(gQ.mp h1).1;rfl';refine⟨m,es,k,W,ht,hk,.inr ⟨s,rfl,by lia,λC=>h2 ((wF nd he).mpr C)⟩,?_⟩
   rfl';exact hI _ rfl
  .rw[show((sets m u).filter λs=>decide (¬s∈gO m (aF k m es))).map (λ_=>PyData.bool true)=(((sets m u).filter λs=>decide (¬s∈gO m (aF k m es))).map λ_=>true).map PyData.bool by rw[VR];rfl]
   rfl';refine Ad ?_;rw[XD,show(((sets m u).filter λs=>decide (¬s∈gO m (aF k m es))).all (id∘λ_=>true))=true from VN.mpr λ_ _=>rfl]
   exact q a b b0 b1
def Jj:∀dd Q x,wM dd Q x->pZ vh zb yY yV (bg [false] Q x) (ini [false] dd++List.replicate 5 none):=by
 rintro _ Q x⟨ns,rfl,hn,q⟩;unfold pZ;rfl';refine⟨ns,3,rfl,by lia,by lia,λcs hcs=>?_⟩;rfl';have e1:(if(cs.length:Int)>1 then(cs.length:Int)else 1)=((max 1 cs.length:Nat):Int):=by split<;>lia
 rw[e1,if_pos (by lia)];refine cR rfl ?_;simp only[dz];refine vf (λi E=>∃o2 o3 o4 o5:A08,E=[some (.sh,.list (ns.map .int)),some (.ow false,.list (cs.map .int)),o2,o3,o4,o5]/\bH o2=true/\bH o3=true/\bH o4=true/\bH o5=true) ⟨none,none,none,none,rfl,rfl,rfl,rfl,rfl⟩ ?_ ?_
 .rintro J k _ hk hJ⟨o2,o3,o4,o5,rfl,h2,h3,h4,h5⟩;simp![h2];refine⟨cs,k,rfl,by lia,by lia,λa b b0 b1=>?_⟩;simp![h3];refine⟨a,b,8,rfl,by lia,by lia,b0,b1,λm es a b hm W ht b0 b1=>?_⟩;simp![h4];refine⟨by lia,?_⟩;rw[show [PyData.str "places",PyData.str "ties",PyData.str "all"]=([("places":Str),"ties","all"]:A05).map PyData.str from rfl];refine je (λi E=>∃(a b:Int)(o5:A08),E=[some (.sh,.list (ns.map .int)),some (.ow false,.list (cs.map .int)),some (.sh,iD k),some (.ow false,kK a b),some (.sh,wD m es),o5]/\bH o5=true/\0<=b/\b<2147483647) ⟨a,b,o5,rfl,h5,b0,b1⟩ ?_ ?_
  .clear b0 b1 a b h5 o5;rintro J i kd _ hi hJ⟨a,b,o5,rfl,h5,b0,b1⟩;have hk:dB kd:=by have:=VZ hi;simp only[V7,VE,WN]at this;exact this
   simp![h5];refine⟨a,b,m,es,kd,rfl,W,ht,by lia,hk,b0,b1,λa b b0 b1=>?_⟩;rfl';exact hJ _ ⟨a,b,some (.sh,.str kd),rfl,rfl,b0,b1⟩
  rintro _⟨a,b,o5,rfl,h5,b0,b1⟩;exact hJ _ ⟨some (.sh,iD k),some (.ow false,kK a b),some (.sh,wD m es),o5,rfl,rfl,rfl,rfl,h5⟩
 rintro _⟨o2,o3,o4,o5,rfl,h2,h3,h4,h5⟩;rfl';exact q
end PB
namespace QS
open PySem L2 PySem.W Dv PB
def top(i:Nat):Stmt:=PySem.Challenge.pw_farhail_k24_all_choices_by_trying.main.body.getD i (.Pass ⟨0,0,0,0⟩)
structure Txt(K:Frag)(mg:Zm):Prop where
 abs:mg "abs"=none
 all:mg "all"=none
 any:mg "any"=none
 bool:mg "bool"=none
 enumerate:mg "enumerate"=none
 int:mg "int"=none
 isinstance:mg "isinstance"=none
 len:mg "len"=none
 list:mg "list"=none
 max:mg "max"=none
 min:mg "min"=none
 range:mg "range"=none
 set:mg "set"=none
 sorted:mg "sorted"=none
 sum:mg "sum"=none
 tuple:mg "tuple"=none
 MV:∃C,mg "NoPlace"=some (.ref C)/\iJ K C oK "ValueError.__new__" none=true
 OU:∃C,mg "NoSuch"=some (.ref C)/\iJ K C oK "ValueError.__new__" none=true
 Rc:∃C,mg "NoTree"=some (.ref C)/\iJ K C oK "ValueError.__new__" none=true
 Qw:∃C,mg "NotOne"=some (.ref C)/\iJ K C oK "ValueError.__new__" none=true
 kit:AM K ["bool","int","list","tuple"]=true
 kx:G3 K ["NoPlace","NoSuch","NoTree","NotOne"] ["NoLooks","NoSuch","NotOne","ValueError"]=true
 kc:HV K ["NoLooks","NoSuch","NotOne","ValueError"]=true
 BY:G7 K ["NoPlace","NoSuch","NoTree","NotOne"] "HailError"=true
 ns:∃h:Heap,K.In h/\h.Ns mainGlobals mg
def uc{us:Zy}{n:Nat}(h:us.length=n+1):∃a t,t.length=n/\us=a::t:=by
 cases us with
 |nil=>cases h
 |cons a t=>exact⟨a,t,Nat.succ.inj h,rfl⟩
def U8{us:Zy}(h0:us.length=1):∃a0,us=[a0]:=by obtain⟨a0,t0,h1,rfl⟩:=uc h0;cases YO h1;exact⟨a0,rfl⟩
def UP{us:Zy}(h0:us.length=2):∃a0 a1,us=[a0,a1]:=by obtain⟨a0,t0,h1,rfl⟩:=uc h0;obtain⟨a1,t1,h2,rfl⟩:=uc h1;cases YO h2;exact⟨a0,a1,rfl⟩
def U0{us:Zy}(h0:us.length=3):∃a0 a1 a2,us=[a0,a1,a2]:=by obtain⟨a0,t0,h1,rfl⟩:=uc h0;obtain⟨a1,t1,h2,rfl⟩:=uc h1;obtain⟨a2,t2,h3,rfl⟩:=uc h2;cases YO h3;exact⟨a0,a1,a2,rfl⟩
def UI{us:Zy}(h0:us.length=4):∃a0 a1 a2 a3,us=[a0,a1,a2,a3]:=by obtain⟨a0,t0,h1,rfl⟩:=uc h0;obtain⟨a1,t1,h2,rfl⟩:=uc h1;obtain⟨a2,t2,h3,rfl⟩:=uc h2;obtain⟨a3,t3,h4,rfl⟩:=uc h3;cases YO h4;exact⟨a0,a1,a2,a3,rfl⟩
local macro_rules | `(tactic| ac_nf) => `(tactic| (intro _ _ _ _ _ _ us hl; first | (obtain⟨_, e⟩ := U8 hl; subst e; rfl) | (obtain⟨_, _, e⟩ := UP hl; subst e; rfl) | (obtain⟨_, _, _, e⟩ := U0 hl; subst e; rfl) | (obtain⟨_, _, _, _, e⟩ := UI hl; subst e; rfl)))
section
variable(P:Program)(w:World)(K:Frag)(mg:Zm)(base:Heap)
abbrev qB:Prop:=bV P w K mg base 1 "_law_cells" ["script","many"] (cC mg K [false,false] vh)
abbrev tw:Prop:=bV P w K mg base 1 "_law_pool" ["cells","k"] (cC mg K [false,false] zb)
abbrev j5:Prop:=bV P w K mg base 1 "_law_take" ["pool","many"] (cC mg K [true,false] mX)
abbrev sP:Prop:=bV P w K mg base 2 "_law_some" ["pool","menu","many"] (cC mg K [true,false,false] yT)
abbrev qT:Prop:=bV P w K mg base 3 "_law_named" ["pool","many","ties"] (cC mg K [true,false,false] vH)
abbrev sZ:Prop:=bV P w K mg base 4 "_law_tree" ["pool","most"] (cC mg K [true,false] yY)
abbrev sV:Prop:=bV P w K mg base 1 "_law_near" ["web"] (cC mg K [false] Eo)
abbrev ql:Prop:=bV P w K mg base 1 "_law_things" ["web","kind"] (cC mg K [false,false] D4)
abbrev qP:Prop:=bV P w K mg base 1 "_law_steps" ["near","place"] (cC mg K [false,false] DK)
abbrev nJ:Prop:=bV P w K mg base 1 "_law_sets" ["places","size"] (cC mg K [false,false] rO)
abbrev sQ:Prop:=bV P w K mg base 1 "_law_code" ["steps","thing"] (cC mg K [false,false] Ez)
abbrev p7:Prop:=bV P w K mg base 2 "_law_fewest" ["web","kind"] (cC mg K [false,false] EB)
abbrev vK:Prop:=bV P w K mg base 1 "is_tree" ["web"] (cC mg K [false] DN)
abbrev iy:Prop:=bV P w K mg base 2 "refuse_no_tree" ["web"] (cC mg K [false] w4)
abbrev kD:Prop:=bV P w K mg base 1 "refuse_no_place" ["web","place"] (cC mg K [false,false] ES)
abbrev gG:Prop:=bV P w K mg base 1 "neighbour_lists" ["web"] (cC mg K [false] xq)
abbrev m6:Prop:=bV P w K mg base 1 "piece_behind" ["lists","place","neighbour"] (cC mg K [false,false,false] Es)
abbrev qH:Prop:=bV P w K mg base 3 "pieces_at" ["web","place"] (cC mg K [false,false] Ew)
abbrev vc:Prop:=bV P w K mg base 4 "legs_at" ["web","fork","forks"] (cC mg K [false,false,false] DU)
abbrev rA:Prop:=bV P w K mg base 1 "things_of" ["web","kind"] (cC mg K [false,false] D9)
abbrev fD:Prop:=bV P w K mg base 5 "spot_groups" ["web","kind"] (cC mg K [false,false] nZ)
abbrev n9:Prop:=bV P w K mg base 6 "tree_fewest" ["web","kind"] (cC mg K [false,false] DX)
abbrev rC:Prop:=bV P w K mg base 1 "spot_ways" ["spots","looks","start"] (cC mg K [false,false,false] E7)
abbrev qa:Prop:=bV P w K mg base 2 "group_ways" ["group","looks","start"] (cC mg K [false,false,false] EX)
abbrev gF:Prop:=bV P w K mg base 3 "ways_from" ["groups","looks","start"] (cC mg K [false,false,false] nF)
abbrev m9:Prop:=bV P w K mg base 6 "tree_choices" ["web","kind"] (cC mg K [false,false] Ek)
abbrev j4:Prop:=bV P w K mg base 1 "spots_of" ["groups"] (cC mg K [false] rF)
abbrev l7:Prop:=bV P w K mg base 6 "choice_by" ["web","kind","number"] (cC mg K [false,false,false] wk)
abbrev qM:Prop:=bV P w K mg base 4 "is_choice" ["groups","looks","many"] (cC mg K [false,false,false] EH)
abbrev iP:Prop:=bV P w K mg base 6 "choice_number" ["web","kind","looks"] (cC mg K [false,false,false] wZ)
abbrev oO:Prop:=bV P w K mg base 7 "_law_refused" ["way","web","kind","thing"] (cC mg K [false,false,false,false] yZ)
abbrev qS:Prop:=bV P w K mg base 1 "_law_whole" ["thing"] (cC mg K [false] EO)
abbrev qK:Prop:=bV P w K mg base 8 "_law_right" ["pool","web","kind"] (cC mg K [true,false,false] yV)
end
section
variable{P:Program}{w:World}{K:Frag}{mg:Zm}{base:Heap}
abbrev mw:Stmt:=top 30
def lY:aL ["script","many","cells","k","cell"] ["script","many"] (ay mw):=by ac_rfl
def AU(T:Txt K mg)(r:Rec K "_law_cells" mw):qB P w K mg base:=
 aZ T.ns r (by ac_nf) λF=>bL (m:=3) F lY rfl (by decide) (d:=iN) (λcdv A outer s H Ex hr=>have hu:=hr.units;ai (aX 2 lY.nd (rT T.list (aE (Oa (aP 0 (aP 1 a0))) a0))) (ai (f6 Vn lY.nd (Jo T.enumerate (PK (aP 0 (aP 1 (aE (xI) a0))))) (gT (gC 3 (gC 4 g0))) (ao (Ed 2 hu (fU (aE (mH (aE (cM hu (aP 2 (aE (nV (aP 3 (aP 1 a0))) a0))) (aE (xI) a0))) (aP 4 a0))) (nV (aP 3 (aP 1 a0)))))) (ao (jY 2)))) PB.Jp
abbrev nH:Stmt:=top 31
def iI:aL ["cells","k","cell","rest"] ["cells","k"] (ay nH):=by ac_rfl
def B7(T:Txt K mg)(r:Rec K "_law_pool" nH):tw P w K mg base:=
 aZ T.ns r (by ac_nf) λF=>bL (m:=2) F iI rfl (by decide) (d:=jd) (λcdv A outer s H Ex hr=>have hu:=hr.units;ai (aX 2 iI.nd (xI)) (FL (gc (bO.st (Cp (aE (fW T.len (aP 0 a0)) (aE (xI) a0)))) (ao (aX 2 iI.nd (fU (aE (cM hu (aP 0 (aE (nV (aP 1 (aE (fW T.len (aP 0 a0)) a0))) a0))) (aE (ED (aP 1 (aE (fW T.len (aP 0 a0)) a0))) a0))))) (cy)) (ai (aX 3 iI.nd (xI)) (FL (gc (bO.st (rE.yj (kH (Py (aP 2 (aE (xI) a0))) (lK (Tw (aP 2 (aE (Jg (aE (xI) (aE (xI) a0))) a0))))))) (ao (aX 3 iI.nd (Ul T.abs (aP 2 a0)))) (cy)) (ao (cj (cA (aP 3 (aE (nV (aE (fU (aE (mH (aE (nV (aP 2 (aE (xI) a0))) (aE (xI) a0))) (aE (mH (aE (mH (aE (xI) (aE (fU (aP 1 (aE (xI) a0))) a0))) (aE (fU (aP 1 (aE (xI) a0))) a0))) a0))) (aE (xI) a0))) a0))))))))) PB.MS
abbrev nh:Stmt:=top 32
def sW:aL ["pool","many","found"] ["pool","many"] (ay nh):=by ac_rfl
def BQ(T:Txt K mg)(r:Rec K "_law_take" nh):j5 P w K mg base:=
 aZ T.ns r (by ac_nf) λF=>bL (m:=1) F sW rfl (by decide) (d:=jj) (λcdv A outer s H Ex hr=>have hu:=hr.units;ai (gc (bO.st (Cp (aE (cM hu (aP 0 (aE (xI) a0))) (aE (xI) a0)))) (ai (aX 2 sW.nd (nV (aE (cM hu (aP 0 (aE (xI) a0))) (aP 1 a0)))) (ai (Ed 0 hu (ED (aE (cM hu (aP 0 (aE (xI) a0))) (aP 1 a0))) (xI)) (ao (jY 2)))) (cy)) (ai (Ed 0 hu (nV (aE (fU (aE (mH (aE (cM hu (aP 0 (aE (xI) a0))) (aE (xI) a0))) (aE (xI) a0))) (aE (xI) a0))) (xI)) (ao (cj (nV (aE (ED (aE (nV (aE (mH (aE (nV (aE (mH (aE (cM hu (aP 0 (aE (xI) a0))) (aE (cM hu (aP 0 (aE (xI) a0))) a0))) (aE (xI) a0))) (aE (xI) a0))) (aE (xI) a0))) (aE (xI) a0))) (aP 1 a0))))))) PB.Mj
abbrev nq:Stmt:=top 33
def tE:aL ["pool","menu","many","rest"] ["pool","menu","many"] (ay nq):=by ac_rfl
def B0(T:Txt K mg)(h0:j5 P w K mg base)(r:Rec K "_law_some" nq):sP P w K mg base:=
 aZ T.ns r (by ac_nf) λF=>bL (m:=2) F tE rfl (by decide) (d:=jr mX) (λcdv A outer s H Ex hr=>ai (aX 3 tE.nd (rT T.list (aP 1 a0))) (ao (cj (eF (vs:=["k"]) (NB:=["k","rest","pool"]) (ix:=[3,0]) (by rfl) (yx T.range (aP 2 a0)) (λ_ _ _ _=>gN 0) (λ_ _ _ _=>.nil) (λ_ _ _ _ _=>cB (xM 1 CT C6 PySem.F.slot_list_pop PySem.F.type_list_pop (eC (aJ h0 pL hr (aP 2 (aE (fW T.len (aP 1 a0)) a0))) e0))))))) PB.Nj
abbrev mE:Stmt:=top 34
def qt:aL ["pool","many","ties","names"] ["pool","many","ties"] (ay mE):=by ac_rfl
def Ak(T:Txt K mg)(h0:sP P w K mg base)(r:Rec K "_law_named" mE):qT P w K mg base:=
 aZ T.ns r (by ac_nf) λF=>bL (m:=3) F qt rfl (by decide) (d:=iC yT) (λcdv A outer s H Ex hr=>have hu:=hr.units;ai (aX 3 qt.nd (aJ h0 aR hr (aP 0 (aE (qV T.list T.range (aP 1 a0)) (aP 1 a0))))) (ao (cj (t8 (aP 1 (aE (ze T.tuple (aE (Pa T.sorted (aE (eF (vs:=["a","b"]) (NB:=["a","b","names"]) (ix:=[3]) (by rfl) (bZ (xV 2)) (λ_ _ _ _=>gT (gC 0 (gC 1 g0))) (λ_ _ _ _=>.nil) (λ_ _ _ _ _=>cB (t8 (aE (JX T.min (aE (cM hu (aP 2 (aP 0 a0))) (aE (cM hu (aP 2 (aP 1 a0))) a0))) (aE (JS T.max (aE (cM hu (aP 2 (aP 0 a0))) (aE (cM hu (aP 2 (aP 1 a0))) a0))) a0))))) a0)) a0)) a0)))))) PB.JJ
abbrev nX:Stmt:=top 35
def gq:aL ["pool","most","many","shape","ties","k","ahead"] ["pool","most"] (ay nX):=by ac_rfl
def BL(T:Txt K mg)(h0:j5 P w K mg base)(h1:qT P w K mg base)(r:Rec K "_law_tree" nX):sZ P w K mg base:=
 aZ T.ns r (by ac_nf) λF=>bL (m:=5) F gq rfl (by decide) (d:=jo mX vH) (λcdv A outer s H Ex hr=>have hu:=hr.units;ai (aX 2 gq.nd (fU (aE (xI) (aE (aJ h0 aR hr (aP 0 (aP 1 a0))) a0)))) (ai (aX 3 gq.nd (aJ h0 aR hr (aP 0 (aE (xI) a0)))) (ai (aX 4 gq.nd (cA a0)) (ai (f6 Vn gq.nd (UG T.range (aE (xI) (aP 2 a0))) (gN 5) (ai (aX 6 gq.nd (cA (aE (uh (aP 5 (aE (xI) a0))) (aE (xI) (aE (aJ h0 aR hr (aP 0 (aP 5 a0))) (aE (JS T.max (aE (xI) (aE (uh (aE (uh (aP 5 (aE (xI) a0))) (aE (aJ h0 aR hr (aP 0 (aE (xI) a0))) a0))) a0))) (aE (aJ h0 aR hr (aP 0 (aE (JX T.min (aP 5 (aE (xI) a0))) a0))) a0))))))) (ao (fQ (xM 4 cW cH WU WV (eC (t8 (aE (cM hu (aE (fU (aP 6 (aE (cA (aE (ED (aE (uh (aP 5 (aE (xI) a0))) (aE (xI) a0))) a0)) a0))) (aP 3 a0))) (aP 5 a0))) e0)))))) (ao (cj (aJ h1 aR hr (aP 0 (aP 2 (aP 4 a0)))))))))) PB.L5
abbrev nY:Stmt:=top 36
def nG:aL ["web","found","a","b"] ["web"] (ay nY):=by ac_rfl
def BZ(T:Txt K mg)(r:Rec K "_law_near" nY):sV P w K mg base:=
 aZ T.ns r (by ac_nf) λF=>bL (m:=4) F nG rfl (by decide) (d:=ju) (λcdv A outer s H Ex hr=>have hu:=hr.units;ai (Pp (j:=1) nG.nd (vs:=["place"]) (NB:=["place"]) (ix:=[]) (by rfl) (yx T.range (aE (cM hu (aP 0 (aE (xI) a0))) a0)) (λ_ _ _ _=>gN 0) (λ_ _ _ _=>.nil) (λ_ _ _ _=>cA a0)) (ai (f6 Vn nG.nd (bZ (cM hu (aP 0 (aE (xI) a0)))) (gT (gC 2 (gC 3 g0))) (ai (fQ (KZ 1 3 cW cH WU WV (xV 2))) (ao (fQ (KZ 1 2 cW cH WU WV (xV 3)))))) (ao (cj (eF (vs:=["row"]) (NB:=["row"]) (ix:=[]) (by rfl) (bZ (xV 1)) (λ_ _ _ _=>gN 0) (λ_ _ _ _=>.nil) (λ_ _ _ _ _=>cB (z8 T.sorted (aP 0 a0)))))))) PB.Q9
abbrev kW:Stmt:=top 38
def p9:aL ["web","kind","places"] ["web","kind"] (ay kW):=by ac_rfl
def yO(T:Txt K mg)(r:Rec K "_law_things" kW):ql P w K mg base:=
 aZ T.ns r (by ac_nf) λF=>bL (m:=1) F p9 rfl (by decide) (d:=iw) (λcdv A outer s H Ex hr=>have hu:=hr.units;ai (aX 2 p9.nd (qV T.list T.range (aE (cM hu (aP 0 (aE (xI) a0))) a0))) (ao (cj (cM hu (aE (OG (aE (xS) (aE (xV 2) (aE (xS) (aE (rT T.list (aE (cM hu (aP 0 (aE (xI) a0))) a0)) (aE (xS) (aE (fU (aP 2 (aE (rT T.list (aE (cM hu (aP 0 (aE (xI) a0))) a0)) a0))) a0))))))) (aP 1 a0)))))) PB.Oz
abbrev lS:Stmt:=top 37
def eK:aL ["near","place","found","edge","beyond","one","other"] ["near","place"] (ay lS):=by ac_rfl
def zy(T:Txt K mg)(r:Rec K "_law_steps" lS):qP P w K mg base:=
 aZ T.ns r (by ac_nf) λF=>bL (m:=5) F eK rfl (by decide) (d:=iW) (λcdv A outer s H Ex hr=>have hu:=hr.units;ai (aX 2 eK.nd (Pz (aE (xV 1) (aE (xI) a0)))) (ai (aX 3 eK.nd (cA (aP 1 a0))) (ai (Ih Vn (bO.st (Cp (aE (fW T.len (aP 3 a0)) (aE (xI) a0)))) (ai (aX 4 eK.nd (cA a0)) (ai (f6 Vn eK.nd (bZ (xV 3)) (gN 5) (ao (f6 Vn eK.nd (bZ (cM hu (aP 0 (aP 5 a0)))) (gN 6) (ao (gc (bO.st (Ob hu (aP 6 (aP 2 a0)))) (ai (Ed 2 hu (fU (aE (cM hu (aP 2 (aP 5 a0))) (aE (xI) a0))) (xV 6)) (ao (fQ (xM 4 cW cH WU WV (eC (xV 6) e0))))) (cy)))))) (ao (aX 3 eK.nd (xV 4)))))) (ao (jY 2))))) PB.PR
abbrev nK:Stmt:=top 40
def e8:aL ["places","size","found","turn","longer","some","place"] ["places","size"] (ay nK):=by ac_rfl
def BR(T:Txt K mg)(r:Rec K "_law_sets" nK):nJ P w K mg base:=
 aZ T.ns r (by ac_nf) λF=>bL (m:=5) F e8 rfl (by decide) (d:=jq) (λcdv A outer s H Ex hr=>have hu:=hr.units;ai (aX 2 e8.nd (cA (aE (cA a0) a0))) (ai (f6 Vn e8.nd (yx T.range (aP 1 a0)) (gN 3) (ai (aX 4 e8.nd (cA a0)) (ai (f6 Vn e8.nd (bZ (xV 2)) (gN 5) (ao (f6 Vn e8.nd (bZ (xV 0)) (gN 6) (ao (gc (bO.st (rE.yj (kH (yG hu (aP 5 (aE (cA a0) a0))) (lK (Cp (aP 6 (aE (cM hu (aP 5 (aE (I0 (aE (xI) a0)) a0))) a0))))))) (ao (fQ (xM 4 cW cH WU WV (eC (fU (aP 5 (aE (cA (aP 6 a0)) a0))) e0)))) (cy)))))) (ao (aX 2 e8.nd (xV 4)))))) (ao (jY 2)))) PB.NI
abbrev nQ:Stmt:=top 39
def BH:aL ["steps","thing"] ["steps","thing"] (ay nQ):=by ac_rfl
def B9(T:Txt K mg)(r:Rec K "_law_code" nQ):sQ P w K mg base:=
 aZ T.ns r (by ac_nf) λF=>bL (m:=1) F BH rfl (by decide) (d:=jc) (λcdv A outer s H Ex hr=>have hu:=hr.units;ai (gc (bO.st (qj (Eh T.kit T.isinstance T.tuple PyProof.Rows.boot_tuple (aP 1 a0)))) (ao (cj (ze T.tuple (aE (eF (vs:=["row"]) (NB:=["row","thing"]) (ix:=[1]) (by rfl) (bZ (xV 0)) (λ_ _ _ _=>gN 0) (λ_ _ _ _=>.nil) (λ_ _ _ _ _=>cB (JX T.min (aE (cM hu (aP 0 (aE (cM hu (aP 1 (aE (xI) a0))) a0))) (aE (cM hu (aP 0 (aE (cM hu (aP 1 (aE (xI) a0))) a0))) a0))))) a0)))) (cy)) (ao (cj (ze T.tuple (aE (eF (vs:=["row"]) (NB:=["row","thing"]) (ix:=[1]) (by rfl) (bZ (xV 0)) (λ_ _ _ _=>gN 0) (λ_ _ _ _=>.nil) (λ_ _ _ _ _=>cB (cM hu (aP 0 (aP 1 a0))))) a0))))) PB.PC
abbrev kZ:Stmt:=top 41
def dN:aL ["web","kind","near","steps","things","size","found","some"] ["web","kind"] (ay kZ):=by ac_rfl
def yP(T:Txt K mg)(h0:sV P w K mg base)(h1:qP P w K mg base)(h2:ql P w K mg base)(h3:nJ P w K mg base)(h4:sQ P w K mg base)(r:Rec K "_law_fewest" kZ):p7 P w K mg base:=
 aZ T.ns r (by ac_nf) λF=>bL (m:=8) F dN rfl (by decide) (d:=iB Eo DK D4 rO Ez) (λcdv A outer s H Ex hr=>have hu:=hr.units;ai (aX 2 dN.nd (aJ h0 aR hr (aP 0 a0))) (ai (aX 3 dN.nd (eF (vs:=["place"]) (NB:=["place","near"]) (ix:=[2]) (by rfl) (yx T.range (aE (cM hu (aP 0 (aE (xI) a0))) a0)) (λ_ _ _ _=>gN 0) (λ_ _ _ _=>.nil) (λ_ _ _ _ _=>cB (aJ h1 pL hr (aP 1 (aP 0 a0)))))) (ai (aX 4 dN.nd (aJ h2 aR hr (aP 0 (aP 1 a0)))) (ai (f6 Vn dN.nd (yx T.range (aE (fU (aE (cM hu (aP 0 (aE (xI) a0))) (aE (xI) a0))) a0)) (gN 5) (ai (aX 6 dN.nd (cA a0)) (ai (f6 Vn dN.nd (bZ (aJ h3 aR hr (aE (qV T.list T.range (aE (cM hu (aP 0 (aE (xI) a0))) a0)) (aP 5 a0)))) (gN 7) (ao (gc (bO.st (yG hu (aE (Po hu T.len T.set (aE (eF (vs:=["thing"]) (NB:=["thing","some","steps"]) (ix:=[7,3]) (by rfl) (bZ (xV 4)) (λ_ _ _ _=>gN 0) (λ_ _ _ _=>.nil) (λ_ _ _ _ _=>cB (aJ h4 pL hr (aE (eF (vs:=["look"]) (NB:=["look","steps"]) (ix:=[2]) (by rfl) (bZ (xV 1)) (λ_ _ _ _=>gN 0) (λ_ _ _ _=>.nil) (λ_ _ _ _ _=>cB (cM hu (aP 1 (aP 0 a0))))) (aP 0 a0))))) a0)) (aE (fW T.len (aP 4 a0)) a0)))) (ao (fQ (xM 6 cW cH WU WV (eC (xV 7) e0)))) (cy)))) (ao (gc (bO.st (zU hu (aP 6 (aE (cA a0) a0)))) (ao (jY 6)) (cy)))))) (ao (cj (xN))))))) PB.N6
abbrev pX:Stmt:=top 13
def uS:aL ["web","many","ties"] ["web"] (ay pX):=by ac_rfl
def D7(T:Txt K mg)(r:Rec K "is_tree" pX):vK P w K mg base:=
 aZ T.ns r (by ac_nf) λF=>bL (m:=2) F uS rfl (by decide) (d:=qQ) (λcdv A outer s H Ex hr=>have hu:=hr.units;ai (zS uS.nd (gC 1 (gC 2 g0)) (xV 0)) (ao (cj (CH hu (aE (fW T.len (aP 2 a0)) (aE (uh (aP 1 (aE (xI) a0))) a0)))))) PB.Q0
abbrev iz:Stmt:=top 14
def sA:aL ["web"] ["web"] (ay iz):=by ac_rfl
def sr(T:Txt K mg)(h0:vK P w K mg base)(r:Rec K "refuse_no_tree" iz):iy P w K mg base:=
 aZ T.ns r (by ac_nf) λF=>bL (m:=0) F sA rfl (by decide) (d:=iT DN) (λcdv A outer s H Ex hr=>ao (gc (rB (bO.st (qj (aJ h0 aR hr (aP 0 a0))))) (ao (sf T.Rc)) (cy))) PB.Pu
abbrev gE:Stmt:=top 9
def qA:aL ["web","place"] ["web","place"] (ay gE):=by ac_rfl
def qo(T:Txt K mg)(r:Rec K "refuse_no_place" gE):kD P w K mg base:=
 aZ T.ns r (by ac_nf) λF=>bL (m:=0) F qA rfl (by decide) (d:=iu) (λcdv A outer s H Ex hr=>have hu:=hr.units;ao (gc (rB (bO.st (ye LC Ep rfl (xI) (xV 1) (cM hu (aP 0 (aE (xI) a0)))))) (ao (sf T.MV)) (cy))) PB.PU
abbrev gI:Stmt:=top 8
def eU:aL ["web","many","ties","lists","one","other"] ["web"] (ay gI):=by ac_rfl
def rH(T:Txt K mg)(r:Rec K "neighbour_lists" gI):gG P w K mg base:=
 aZ T.ns r (by ac_nf) λF=>bL (m:=6) F eU rfl (by decide) (d:=ic) (λcdv A outer s H Ex hr=>ai (zS eU.nd (gC 1 (gC 2 g0)) (xV 0)) (ai (Pp (j:=3) eU.nd (vs:=["place"]) (NB:=["place"]) (ix:=[]) (by rfl) (yx T.range (aP 1 a0)) (λ_ _ _ _=>gN 0) (λ_ _ _ _=>.nil) (λ_ _ _ _=>cA a0)) (ai (f6 Vn eU.nd (bZ (xV 2)) (gT (gC 4 (gC 5 g0))) (ai (fQ (KZ 3 5 cW cH WU WV (xV 4))) (ao (fQ (KZ 3 4 cW cH WU WV (xV 5)))))) (ao (jY 3))))) PB.Px
abbrev i9:Stmt:=top 15
def eX:aL ["lists","place","neighbour","piece","steps","last","here"] ["lists","place","neighbour"] (ay i9):=by ac_rfl
def uF(T:Txt K mg)(r:Rec K "piece_behind" i9):m6 P w K mg base:=
 aZ T.ns r (by ac_nf) λF=>bL (m:=5) F eX rfl (by decide) (d:=jK) (λcdv A outer s H Ex hr=>have hu:=hr.units;ai (aX 3 eX.nd (cA a0)) (ai (aX 4 eX.nd (cA (aE (t8 (aP 1 (aP 2 a0))) a0))) (ai (Ih Vn (tV 4) (ai (zS eX.nd (gC 5 (gC 6 g0)) (xM 4 CT C6 PySem.F.slot_list_pop PySem.F.type_list_pop (e0))) (ai (fQ (xM 3 cW cH WU WV (eC (xV 6) e0))) (ao (Uq 4 eX.nd (eF (vs:=["there"]) (NB:=["there","here","last"]) (ix:=[6,5]) (by rfl) (bZ (cM hu (aP 0 (aP 6 a0)))) (λ_ _ _ _=>gN 0) (λ_ _ _ _=>.one (bO.st (zU hu (aP 0 (aP 2 a0))))) (λ_ _ _ _ _=>cB (t8 (aP 1 (aP 0 a0)))))))))) (ao (cj (z8 T.sorted (aP 3 a0))))))) PB.Q4
abbrev mq:Stmt:=top 16
def qO:aL ["web","place","lists"] ["web","place"] (ay mq):=by ac_rfl
def A7(T:Txt K mg)(h0:iy P w K mg base)(h1:kD P w K mg base)(h2:gG P w K mg base)(h3:m6 P w K mg base)(r:Rec K "pieces_at" mq):qH P w K mg base:=
 aZ T.ns r (by ac_nf) λF=>bL (m:=2) F qO rfl (by decide) (d:=nS w4 ES xq Es) (λcdv A outer s H Ex hr=>have hu:=hr.units;ai (fQ (aJ h0 aR hr (aP 0 a0))) (ai (fQ (aJ h1 aR hr (aP 0 (aP 1 a0)))) (ai (aX 2 qO.nd (aJ h2 aR hr (aP 0 a0))) (ao (cj (eF (vs:=["neighbour"]) (NB:=["neighbour","lists","place"]) (ix:=[2,1]) (by rfl) (bZ (cM hu (aP 2 (aP 1 a0)))) (λ_ _ _ _=>gN 0) (λ_ _ _ _=>.nil) (λ_ _ _ _ _=>cB (aJ h3 pL hr (aP 1 (aP 2 (aP 0 a0))))))))))) PB.OV
abbrev pU:Stmt:=top 18
def D8:aL ["web","fork","forks"] ["web","fork","forks"] (ay pU):=by ac_rfl
def EA(T:Txt K mg)(h0:qH P w K mg base)(r:Rec K "legs_at" pU):vc P w K mg base:=
 aZ T.ns r (by ac_nf) λF=>bL (m:=2) F D8 rfl (by decide) (d:=qU Ew) (λcdv A outer s H Ex hr=>have hu:=hr.units;ao (cj (eF (vs:=["piece"]) (NB:=["piece","forks"]) (ix:=[2]) (by rfl) (bZ (aJ h0 aR hr (aP 0 (aP 1 a0)))) (λ_ _ _ _=>gN 0) (λ_ _ _ _=>.one (rB (bO.st (qj (Uu T.any (aE (eF (vs:=["place"]) (NB:=["place","forks"]) (ix:=[1]) (by rfl) (bZ (xV 0)) (λ_ _ _ _=>gN 0) (λ_ _ _ _=>.nil) (λ_ _ _ _ _=>cB (Tn hu (aP 0 (aP 1 a0))))) a0)))))) (λ_ _ _ _ _=>cB (xV 0))))) PB.Rj
abbrev lN:Stmt:=top 11
def jt:aL ["web","kind","many","ties","places","joins"] ["web","kind"] (ay lN):=by ac_rfl
def Au(T:Txt K mg)(r:Rec K "things_of" lN):rA P w K mg base:=
 aZ T.ns r (by ac_nf) λF=>bL (m:=4) F jt rfl (by decide) (d:=nW) (λcdv A outer s H Ex hr=>have hu:=hr.units;ai (zS jt.nd (gC 2 (gC 3 g0)) (xV 0)) (ai (aX 4 jt.nd (EJ (bO.st (yG hu (aP 1 (aE (xS) a0)))) (cA a0) (qV T.list T.range (aP 2 a0)))) (ai (aX 5 jt.nd (EJ (bO.st (yG hu (aP 1 (aE (xS) a0)))) (cA a0) (rT T.list (aP 3 a0)))) (ao (cj (fU (aP 4 (aP 5 a0)))))))) PB.Oc
abbrev jO:Stmt:=top 19
def fF:aL ["web","kind","degrees","ends","forks","groups"] ["web","kind"] (ay jO):=by ac_rfl
def w6(T:Txt K mg)(h0:iy P w K mg base)(h1:rA P w K mg base)(h2:gG P w K mg base)(h3:vc P w K mg base)(r:Rec K "spot_groups" jO):fD P w K mg base:=
 aZ T.ns r (by ac_nf) λF=>bL (m:=6) F fF rfl (by decide) (d:=kT w4 D9 xq DU) (λcdv A outer s H Ex hr=>have hu:=hr.units;ai (fQ (aJ h0 aR hr (aP 0 a0))) (ai (gc (bO.st (Py (aE (fW T.len (aE (aJ h1 aR hr (aP 0 (aP 1 a0))) a0)) (aE (xI) a0)))) (ao (cj (cA a0))) (cy)) (ai (DJ (j:=2) fF.nd (vs:=["places"]) (NB:=["places"]) (ix:=[]) (by rfl) (bZ (aJ h2 aR hr (aP 0 a0))) (λ_ _ _ _=>gN 0) (λ_ _ _ _=>.nil) (λ_ _ _ _ _=>cB (fW T.len (aP 0 a0)))) (ai (DJ (j:=3) fF.nd (vs:=["place","degree"]) (NB:=["place","degree"]) (ix:=[]) (by rfl) (Jo T.enumerate (xV 2)) (λ_ _ _ _=>gT (gC 0 (gC 1 g0))) (λ_ _ _ _=>.one (bO.st (yG hu (aP 1 (aE (xI) a0))))) (λ_ _ _ _ _=>cB (xV 0))) (ai (gc (bO.st (yG hu (aP 1 (aE (xS) a0)))) (ao (cj (eF (vs:=["end"]) (NB:=["end"]) (ix:=[]) (by rfl) (bZ (xV 3)) (λ_ _ _ _=>gN 0) (λ_ _ _ _=>.nil) (λ_ _ _ _ _=>cB (cA (aE (cA (aP 0 a0)) (aE (cA a0) a0))))))) (cy)) (ai (aX 4 fF.nd (eF (vs:=["place","degree"]) (NB:=["place","degree"]) (ix:=[]) (by rfl) (Jo T.enumerate (xV 2)) (λ_ _ _ _=>gT (gC 0 (gC 1 g0))) (λ_ _ _ _=>.one (bO.st (Cp (aP 1 (aE (xI) a0))))) (λ_ _ _ _ _=>cB (xV 0)))) (ai (gc (rB (tV 4)) (ao (cj (cA (aE (eF (vs:=["end"]) (NB:=["end"]) (ix:=[]) (by rfl) (bZ (xV 3)) (λ_ _ _ _=>gN 0) (λ_ _ _ _=>.nil) (λ_ _ _ _ _=>cB (cA (aP 0 a0)))) a0)))) (cy)) (ai (DJ (j:=5) fF.nd (vs:=["fork"]) (NB:=["fork","web","forks"]) (ix:=[0,4]) (by rfl) (bZ (xV 4)) (λ_ _ _ _=>gN 0) (λ_ _ _ _=>.nil) (λ_ _ _ _ _=>cB (aJ h3 pL hr (aP 1 (aP 0 (aP 2 a0)))))) (ao (cj (eF (vs:=["legs"]) (NB:=["legs"]) (ix:=[]) (by rfl) (bZ (xV 5)) (λ_ _ _ _=>gN 0) (λ_ _ _ _=>.one (tV 0)) (λ_ _ _ _ _=>cB (xV 0))))))))))))) PB.Qn
abbrev jS:Stmt:=top 24
def w5:aL ["web","kind"] ["web","kind"] (ay jS):=by ac_rfl
def xC(T:Txt K mg)(h0:fD P w K mg base)(r:Rec K "tree_fewest" jS):n9 P w K mg base:=
 aZ T.ns r (by ac_nf) λF=>bL (m:=1) F w5 rfl (by decide) (d:=kU nZ) (λcdv A outer s H Ex hr=>ao (cj (T5 T.sum (aE (eF (vs:=["group"]) (NB:=["group"]) (ix:=[]) (by rfl) (bZ (aJ h0 aR hr (aP 0 (aP 1 a0)))) (λ_ _ _ _=>gN 0) (λ_ _ _ _=>.nil) (λ_ _ _ _ _=>cB (uh (aE (fW T.len (aP 0 a0)) (aE (xI) a0))))) a0)))) PB.QY
abbrev mR:Stmt:=top 20
def qL:aL ["spots","looks","start","held"] ["spots","looks","start"] (ay mR):=by ac_rfl
def AS(T:Txt K mg)(r:Rec K "spot_ways" mR):rC P w K mg base:=
 aZ T.ns r (by ac_nf) λF=>bL (m:=2) F qL rfl (by decide) (d:=nP) (λcdv A outer s H Ex hr=>have hu:=hr.units;ai (aX 3 qL.nd (fW T.len (aE (eF (vs:=["spot"]) (NB:=["spot","looks"]) (ix:=[1]) (by rfl) (bZ (xV 0)) (λ_ _ _ _=>gN 0) (λ_ _ _ _=>.one (bO.st (TF hu (aP 0 (aP 1 a0))))) (λ_ _ _ _ _=>cB (xV 0))) a0))) (ai (gc (bO.st (Cp (aP 3 (aE (xI) a0)))) (ao (cj (t8 (aE (EJ (bO.st (yG hu (aP 3 (aE (xI) a0)))) (xI) (xI)) (aE (xI) a0))))) (cy)) (ao (cj (t8 (aE (fW T.len (aE (eF (vs:=["spot"]) (NB:=["spot","start"]) (ix:=[2]) (by rfl) (bZ (xV 0)) (λ_ _ _ _=>gN 0) (λ_ _ _ _=>.one (bO.st (Tw (aP 0 (aP 1 a0))))) (λ_ _ _ _ _=>cB (xV 0))) a0)) (aE (xI) a0))))))) PB.OR
abbrev kX:Stmt:=top 21
def dO:aL ["group","looks","start","ways_full","ways_but_one","spots","one","none"] ["group","looks","start"] (ay kX):=by ac_rfl
def yK(T:Txt K mg)(h0:rC P w K mg base)(r:Rec K "group_ways" kX):qa P w K mg base:=
 aZ T.ns r (by ac_nf) λF=>bL (m:=5) F dO rfl (by decide) (d:=l9 E7) (λcdv A outer s H Ex hr=>ai (aX 3 dO.nd (xI)) (ai (aX 4 dO.nd (xI)) (ai (f6 Vn dO.nd (bZ (xV 0)) (gN 5) (ai (zS dO.nd (gC 6 (gC 7 g0)) (aJ h0 aR hr (aP 5 (aP 1 (aP 2 a0))))) (ai (aX 4 dO.nd (fU (aE (mH (aP 4 (aP 6 a0))) (aE (mH (aP 3 (aP 7 a0))) a0)))) (ao (aX 3 dO.nd (mH (aP 3 (aP 6 a0)))))))) (ao (jY 4))))) PB.OO
abbrev lU:Stmt:=top 22
def jf:aL ["groups","looks","start","ways","group"] ["groups","looks","start"] (ay lU):=by ac_rfl
def BE(T:Txt K mg)(h0:qa P w K mg base)(r:Rec K "ways_from" lU):gF P w K mg base:=
 aZ T.ns r (by ac_nf) λF=>bL (m:=2) F jf rfl (by decide) (d:=nj EX) (λcdv A outer s H Ex hr=>ai (aX 3 jf.nd (xI)) (ai (f6 Vn jf.nd (bZ (xV 0)) (gN 4) (ao (aX 3 jf.nd (mH (aP 3 (aE (aJ h0 aR hr (aP 4 (aP 1 (aP 2 a0)))) a0)))))) (ao (jY 3)))) PB.QU
abbrev ji:Stmt:=top 25
def vO:aL ["web","kind"] ["web","kind"] (ay ji):=by ac_rfl
def vt(T:Txt K mg)(h0:gF P w K mg base)(h1:fD P w K mg base)(r:Rec K "tree_choices" ji):m9 P w K mg base:=
 aZ T.ns r (by ac_nf) λF=>bL (m:=0) F vO rfl (by decide) (d:=jP nF nZ) (λcdv A outer s H Ex hr=>ao (cj (aJ h0 aR hr (aE (aJ h1 aR hr (aP 0 (aP 1 a0))) (aE (cA a0) (aE (xI) a0)))))) PB.PJ
abbrev nU:Stmt:=top 23
def BF:aL ["groups"] ["groups"] (ay nU):=by ac_rfl
def BV(T:Txt K mg)(r:Rec K "spots_of" nU):j4 P w K mg base:=
 aZ T.ns r (by ac_nf) λF=>bL (m:=3) F BF rfl (by decide) (d:=pM) (λcdv A outer s H Ex hr=>ao (cj (z8 T.sorted (aE (eF (vs:=["group","spots","spot"]) (NB:=["group","spots","spot"]) (ix:=[]) (by rfl) (bZ (xV 0)) (λ_ _ _ _=>gN 0) (λ_ _ _ _=>.nil) (λ_ _ _ _ _=>QW (bZ (xV 0)) (gN 1) (.nil) (QW (bZ (xV 1)) (gN 2) (.nil) (cB (xV 2))))) a0)))) PB.P1
abbrev lP:Stmt:=top 26
def d8:aL ["web","kind","number","groups","looks","ahead","spot","ways"] ["web","kind","number"] (ay lP):=by ac_rfl
def AA(T:Txt K mg)(h0:fD P w K mg base)(h1:gF P w K mg base)(h2:j4 P w K mg base)(r:Rec K "choice_by" lP):l7 P w K mg base:=
 aZ T.ns r (by ac_nf) λF=>bL (m:=5) F d8 rfl (by decide) (d:=nN nZ nF rF) (λcdv A outer s H Ex hr=>ai (aX 3 d8.nd (aJ h0 aR hr (aP 0 (aP 1 a0)))) (ai (gc (rB (bO.st (ye LC Ep rfl (xI) (xV 2) (aJ h1 aR hr (aP 3 (aE (cA a0) (aE (xI) a0))))))) (ao (sf T.OU)) (cy)) (ai (aX 4 d8.nd (cA a0)) (ai (aX 5 d8.nd (xV 2)) (ai (f6 Vn d8.nd (bZ (aJ h2 aR hr (aP 3 a0))) (gN 6) (ai (aX 7 d8.nd (aJ h1 aR hr (aP 3 (aE (fU (aP 4 (aE (cA (aP 6 a0)) a0))) (aE (fU (aP 6 (aE (xI) a0))) a0))))) (ao (gc (bO.st (Py (aP 5 (aP 7 a0)))) (ao (fQ (xM 4 cW cH WU WV (eC (xV 6) e0)))) (ao (NC 5 d8.nd (xV 7))))))) (ao (jY 4))))))) PB.QX
abbrev lW:Stmt:=top 27
def rG:aL ["groups","looks","many","spots"] ["groups","looks","many"] (ay lW):=by ac_rfl
def zC(T:Txt K mg)(h0:j4 P w K mg base)(h1:gF P w K mg base)(r:Rec K "is_choice" lW):qM P w K mg base:=
 aZ T.ns r (by ac_nf) λF=>bL (m:=2) F rG rfl (by decide) (d:=nA rF nF) (λcdv A outer s H Ex hr=>have hu:=hr.units;ai (aX 3 rG.nd (aJ h0 aR hr (aP 0 a0))) (ai (gc (bO.st (rE.yj (kH (zU hu (aP 1 (aE (PV T.sorted T.set (aP 1 a0)) a0))) (lK (oW (qj (Jb T.all (aE (eF (vs:=["look"]) (NB:=["look","spots"]) (ix:=[3]) (by rfl) (bZ (xV 1)) (λ_ _ _ _=>gN 0) (λ_ _ _ _=>.nil) (λ_ _ _ _ _=>cB (Tn hu (aP 0 (aP 1 a0))))) a0)))))))) (ao (cj (xB))) (cy)) (ao (cj (CH hu (aE (aJ h1 aR hr (aP 0 (aP 1 (aP 2 a0)))) (aE (xI) a0))))))) PB.O9
abbrev iQ:Stmt:=top 28
def c8:aL ["web","kind","looks","groups","number","shared","spot"] ["web","kind","looks"] (ay iQ):=by ac_rfl
def uA(T:Txt K mg)(h0:fD P w K mg base)(h1:qM P w K mg base)(h2:j4 P w K mg base)(h3:gF P w K mg base)(r:Rec K "choice_number" iQ):iP P w K mg base:=
 aZ T.ns r (by ac_nf) λF=>bL (m:=4) F c8 rfl (by decide) (d:=jh nZ EH rF nF) (λcdv A outer s H Ex hr=>have hu:=hr.units;ai (aX 3 c8.nd (aJ h0 aR hr (aP 0 (aP 1 a0)))) (ai (gc (rB (bO.st (qj (aJ h1 aR hr (aP 3 (aP 2 (aE (cM hu (aP 0 (aE (xI) a0))) a0))))))) (ao (sf T.Qw)) (cy)) (ai (aX 4 c8.nd (xI)) (ai (aX 5 c8.nd (cA a0)) (ai (f6 Vn c8.nd (bZ (aJ h2 aR hr (aP 3 a0))) (gN 6) (ao (gc (bO.st (TF hu (aP 6 (aP 2 a0)))) (ao (fQ (xM 5 cW cH WU WV (eC (xV 6) e0)))) (ao (MA 4 c8.nd (aJ h3 aR hr (aP 3 (aE (fU (aP 5 (aE (cA (aP 6 a0)) a0))) (aE (fU (aP 6 (aE (xI) a0))) a0))))))))) (ao (jY 4))))))) PB.QF
abbrev jU:Stmt:=top 43
def gY:aL ["way","web","kind","thing","caught","e"] ["way","web","kind","thing"] (ay jU):=by ac_rfl
def wL(T:Txt K mg)(h0:l7 P w K mg base)(h1:iP P w K mg base)(r:Rec K "_law_refused" jU):oO P w K mg base:=
 aZ T.ns r (by ac_nf) λF=>bL (m:=2) F gY rfl (by decide) (d:=eV wk wZ) (λcdv A outer s H Ex hr=>have hu:=hr.units;ai (aX 4 gY.nd (xN)) (ai (RX T.ns T.BY gY.nd (S2 (λ_ _=>bO.st (yG hu (aP 0 (aE (xI) a0)))) (Dj h0 hr (λ_ _=>aP 1 (aP 2 (aP 3 a0)))) (Dj h1 hr (λ_ _=>aP 1 (aP 2 (aP 3 a0))))) (λ_=>ao (aX 4 gY.nd (xV 5)))) (ai (gc (bO.st (rE.yj (kH (oW (qj (DP T.ns T.kx T.kc T.isinstance (aP 4 a0)))) (lK (qj (DP T.ns T.kx T.kc T.isinstance (aP 4 a0))))))) (ao (cj (xB))) (cy)) (ao (cj (Ib (CH hu (aE (DP T.ns T.kx T.kc T.isinstance (aP 4 a0)) (aE (CH hu (aP 0 (aE (xI) a0))) a0))) (GU (CH hu (aE (DP T.ns T.kx T.kc T.isinstance (aP 4 a0)) (aE (CH hu (aP 0 (aE (xI) a0))) a0)))))))))) PB.MY
abbrev mJ:Stmt:=top 42
def AE:aL ["thing"] ["thing"] (ay mJ):=by ac_rfl
def An(T:Txt K mg)(r:Rec K "_law_whole" mJ):qS P w K mg base:=
 aZ T.ns r (by ac_nf) λF=>bL (m:=0) F AE rfl (by decide) (d:=iU) (λcdv A outer s H Ex hr=>ao (cj (Ib (Eh T.kit T.isinstance T.int PyProof.Rows.boot_int (aP 0 a0)) (GU (QJ (Eh T.kit T.isinstance T.bool PyProof.Rows.boot_bool (aP 0 a0))))))) PB.Pg
abbrev mD:Stmt:=top 44
def dG:aL ["pool","web","kind","due","told","number","found","place","others"] ["pool","web","kind"] (ay mD):=by ac_rfl
def AG(T:Txt K mg)(h0:p7 P w K mg base)(h1:n9 P w K mg base)(h2:m9 P w K mg base)(h3:qS P w K mg base)(h4:l7 P w K mg base)(h5:iP P w K mg base)(h6:j5 P w K mg base)(h7:oO P w K mg base)(h8:nJ P w K mg base)(r:Rec K "_law_right" mD):qK P w K mg base:=
 aZ T.ns r (by ac_nf) λF=>bL (m:=7) F dG rfl (by decide) (d:=iV EB DX Ek EO wk wZ mX yZ rO) (λcdv A outer s H Ex hr=>have hu:=hr.units;ai (aX 3 dG.nd (aJ h0 aR hr (aP 1 (aP 2 a0)))) (ai (aX 4 dG.nd (cA (aE (aJ h1 aR hr (aP 1 (aP 2 a0))) (aE (aJ h2 aR hr (aP 1 (aP 2 a0))) a0)))) (ai (gc (bO.st (rE.yj (kH (zU hu (aP 4 (aE (cA (aE (fW T.len (aE (cM hu (aP 3 (aE (xI) a0))) a0)) (aE (fW T.len (aP 3 a0)) a0))) a0))) (lK (oW (qj (Jb T.all (aE (eF (vs:=["one"]) (NB:=["one"]) (ix:=[]) (by rfl) (bZ (xV 4)) (λ_ _ _ _=>gN 0) (λ_ _ _ _=>.nil) (λ_ _ _ _ _=>cB (aJ h3 pL hr (aP 0 a0)))) a0)))))))) (ao (cj (xB))) (cy)) (ai (f6 Vn dG.nd (yx T.range (aE (fW T.len (aP 3 a0)) a0)) (gN 5) (ai (aX 6 dG.nd (aJ h4 aR hr (aP 1 (aP 2 (aP 5 a0))))) (ai (aX 7 dG.nd (aJ h5 aR hr (aP 1 (aP 2 (aE (rT T.list (aE (cM hu (aP 3 (aP 5 a0))) a0)) a0))))) (ai (gc (bO.st (rE.yj (kH (oW (qj (Eh T.kit T.isinstance T.list ZO (aP 6 a0)))) (kH (zU hu (aP 6 (aE (cM hu (aP 3 (aP 5 a0))) a0))) (kH (zU hu (aP 7 (aP 5 a0))) (lK (oW (qj (aJ h3 aR hr (aP 7 a0)))))))))) (ao (cj (xB))) (cy)) (ai (fQ (xM 6 cW cH WU WV (eC (xI) e0))) (ao (gc (bO.st (zU hu (aE (aJ h4 aR hr (aP 1 (aP 2 (aP 5 a0)))) (aE (cM hu (aP 3 (aP 5 a0))) a0)))) (ao (cj (xB))) (cy)))))))) (ai (f6 Vn dG.nd (bZ (cA (aE (I0 (aE (xI) a0)) (aE (fW T.len (aP 3 a0)) (aE (uh (aE (I0 (aE (xI) a0)) (aE (aJ h6 aR hr (aP 0 (aE (Jg (aE (xI) (aE (xI) a0))) a0))) a0))) (aE (fU (aE (fW T.len (aP 3 a0)) (aE (aJ h6 aR hr (aP 0 (aE (Jg (aE (xI) (aE (xI) a0))) a0))) a0))) a0)))))) (gN 5) (ao (gc (rB (bO.st (qj (aJ h7 aR hr (aE (xI) (aP 1 (aP 2 (aP 5 a0)))))))) (ao (cj (xB))) (cy)))) (ai (DJ (j:=8) dG.nd (vs:=["some"]) (NB:=["some","due"]) (ix:=[3]) (by rfl) (bZ (aJ h8 aR hr (aE (qV T.list T.range (aE (cM hu (aP 1 (aE (xI) a0))) a0)) (aE (fW T.len (aE (cM hu (aP 3 (aE (xI) a0))) a0)) a0)))) (λ_ _ _ _=>gN 0) (λ_ _ _ _=>.one (bO.st (Ob hu (aP 0 (aP 1 a0))))) (λ_ _ _ _ _=>cB (xV 0))) (ao (cj (Jb T.all (aE (eF (vs:=["some"]) (NB:=["some","web","kind"]) (ix:=[1,2]) (by rfl) (bZ (xV 8)) (λ_ _ _ _=>gN 0) (λ_ _ _ _=>.nil) (λ_ _ _ _ _=>cB (aJ h7 pL hr (aE (xI) (aP 1 (aP 2 (aP 0 a0))))))) a0)))))))))) PB.Nz
abbrev zO:Stmt:=top 45
def oX:aL ["script","cells","k","pool","web","kind"] ["script"] (ay zO):=by ac_rfl
def RE(T:Txt K mg)(h0:qB P w K mg base)(h1:tw P w K mg base)(h2:sZ P w K mg base)(h3:qK P w K mg base){f:Addr}{fd:FuncData}(F:vL K "law" "law" zO f fd):gM P w K mg base (fO P w) 9 f fd ["script"] (cC mg K [false] wM):=
 bL (m:=5) F oX rfl (by decide) (d:=pZ vh zb yY yV) (λcdv A outer s H Ex hr=>ai (aX 1 oX.nd (aJ h0 aR hr (aP 0 (aE (xI) a0)))) (ai (f6 Vn oX.nd (yx T.range (aE (JS T.max (aE (xI) (aE (fW T.len (aP 1 a0)) a0))) a0)) (gN 2) (ai (aX 3 oX.nd (aJ h1 aR hr (aP 1 (aP 2 a0)))) (ai (aX 4 oX.nd (aJ h2 aR hr (aP 3 (aE (xI) a0)))) (ao (f6 Vn oX.nd (bZ (cA (aE (xS) (aE (xS) (aE (xS) a0))))) (gN 5) (ao (gc (rB (bO.st (qj (aJ h3 aR hr (aP 3 (aP 4 (aP 5 a0))))))) (ao (cj (xB))) (cy)))))))) (ao (cj (xB))))) PB.Jj
end
def all_mk{l:OpenLaw}{w:World}{K:Frag}{h:Heap}{mg:Zm}{fa:Addr}(X:K.In h)(G:h.Ns mainGlobals mg)(hfa:mg "law"=some (.ref fa))(qd00:Rec K "_law_cells" mw)(qd01:Rec K "_law_pool" nH)(qd02:Rec K "_law_take" nh)(qd03:Rec K "_law_some" nq)(qd04:Rec K "_law_named" mE)(qd05:Rec K "_law_tree" nX)(qd06:Rec K "_law_near" nY)(qd07:Rec K "_law_things" kW)(qd08:Rec K "_law_steps" lS)(qd09:Rec K "_law_sets" nK)(qd10:Rec K "_law_code" nQ)(qd11:Rec K "_law_fewest" kZ)(qd12:Rec K "is_tree" pX)(qd13:Rec K "refuse_no_tree" iz)(qd14:Rec K "refuse_no_place" gE)(qd15:Rec K "neighbour_lists" gI)(qd16:Rec K "piece_behind" i9)(qd17:Rec K "pieces_at" mq)(qd18:Rec K "legs_at" pU)(qd19:Rec K "things_of" lN)(qd20:Rec K "spot_groups" jO)(qd21:Rec K "tree_fewest" jS)(qd22:Rec K "spot_ways" mR)(qd23:Rec K "group_ways" kX)(qd24:Rec K "ways_from" lU)(qd25:Rec K "tree_choices" ji)(qd26:Rec K "spots_of" nU)(qd27:Rec K "choice_by" lP)(qd28:Rec K "is_choice" lW)(qd29:Rec K "choice_number" iQ)(qd30:Rec K "_law_refused" jU)(qd31:Rec K "_law_whole" mJ)(qd32:Rec K "_law_right" mD)(qd33:Rec K "law" zO)(zabs:nsIn K mainGlobals "abs"=some none)(zall:nsIn K mainGlobals "all"=some none)(zany:nsIn K mainGlobals "any"=some none)(zbool:nsIn K mainGlobals "bool"=some none)(zenumerate:nsIn K mainGlobals "enumerate"=some none)(zint:nsIn K mainGlobals "int"=some none)(zisinstance:nsIn K mainGlobals "isinstance"=some none)(zlen:nsIn K mainGlobals "len"=some none)(zlist:nsIn K mainGlobals "list"=some none)(zmax:nsIn K mainGlobals "max"=some none)(zmin:nsIn K mainGlobals "min"=some none)(zrange:nsIn K mainGlobals "range"=some none)(zset:nsIn K mainGlobals "set"=some none)(zsorted:nsIn K mainGlobals "sorted"=some none)(zsum:nsIn K mainGlobals "sum"=some none)(ztuple:nsIn K mainGlobals "tuple"=some none)(xNoPlace:Ab K "NoPlace")(xNoSuch:Ab K "NoSuch")(xNoTree:Ab K "NoTree")(xNotOne:Ab K "NotOne")(kit:AM K ["bool","int","list","tuple"]=true)(ykx:G3 K ["NoPlace","NoSuch","NoTree","NotOne"] ["NoLooks","NoSuch","NotOne","ValueError"]=true)(ykc:HV K ["NoLooks","NoSuch","NotOne","ValueError"]=true)(yexHailError:G7 K ["NoPlace","NoSuch","NoTree","NotOne"] "HailError"=true) : ∃fd:FuncData,(∀(s:Shared)(v:Value),BindsTo s fd ⟨[v],[]⟩ [("script",v)])/\∀base:Heap,K.In base->base.Ns mainGlobals mg->gM l.prog w K mg base (fO l.prog w) 9 fa fd ["script"] (cC mg K [false] wM):=by have T:Txt K mg:=⟨Vw X G zabs,Vw X G zall,Vw X G zany,Vw X G zbool,Vw X G zenumerate,Vw X G zint,Vw X G zisinstance,Vw X G zlen,Vw X G zlist,Vw X G zmax,Vw X G zmin,Vw X G zrange,Vw X G zset,Vw X G zsorted,Vw X G zsum,Vw X G ztuple,(let⟨C,h1,h2⟩:=xNoPlace;⟨C,mg_of X G h1,h2⟩),(let⟨C,h1,h2⟩:=xNoSuch;⟨C,mg_of X G h1,h2⟩),(let⟨C,h1,h2⟩:=xNoTree;⟨C,mg_of X G h1,h2⟩),(let⟨C,h1,h2⟩:=xNotOne;⟨C,mg_of X G h1,h2⟩),kit,ykx,ykc,yexHailError,⟨h,X,G⟩⟩;obtain⟨fl,fdl,nl,Fl⟩:=qd33;have e:=hfa.symm.trans (mg_of X G nl);cases e;refine⟨fdl,?_,λbase _ _=>?_⟩;{obtain⟨_,_,_,_,_,_,_,_,_,rfl,_,_⟩:=Fl.ex;exact λs v=>.of_eq rfl};have Hd00:=AU (P:=l.prog) (w:=w) (base:=base) T qd00;have Hd01:=B7 (P:=l.prog) (w:=w) (base:=base) T qd01;have Hd02:=BQ (P:=l.prog) (w:=w) (base:=base) T qd02;have Hd03:=B0 T Hd02 qd03;have Hd04:=Ak T Hd03 qd04;have Hd05:=BL T Hd02 Hd04 qd05;have Hd06:=BZ (P:=l.prog) (w:=w) (base:=base) T qd06;have Hd07:=yO (P:=l.prog) (w:=w) (base:=base) T qd07;have Hd08:=zy (P:=l.prog) (w:=w) (base:=base) T qd08;have Hd09:=BR (P:=l.prog) (w:=w) (base:=base) T qd09;have Hd10:=B9 (P:=l.prog) (w:=w) (base:=base) T qd10;have Hd11:=yP T Hd06 Hd08 Hd07 Hd09 Hd10 qd11;have Hd12:=D7 (P:=l.prog) (w:=w) (base:=base) T qd12;have Hd13:=sr T Hd12 qd13;have Hd14:=qo (P:=l.prog) (w:=w) (base:=base) T qd14;have Hd15:=rH (P:=l.prog) (w:=w) (base:=base) T qd15;have Hd16:=uF (P:=l.prog) (w:=w) (base:=base) T qd16;have Hd17:=A7 T Hd13 Hd14 Hd15 Hd16 qd17;have Hd18:=EA T Hd17 qd18;have Hd19:=Au (P:=l.prog) (w:=w) (base:=base) T qd19;have Hd20:=w6 T Hd13 Hd19 Hd15 Hd18 qd20;have Hd21:=xC T Hd20 qd21;have Hd22:=AS (P:=l.prog) (w:=w) (base:=base) T qd22;have Hd23:=yK T Hd22 qd23;have Hd24:=BE T Hd23 qd24;have Hd25:=vt T Hd24 Hd20 qd25;have Hd26:=BV (P:=l.prog) (w:=w) (base:=base) T qd26;have Hd27:=AA T Hd20 Hd24 Hd26 qd27;have Hd28:=zC T Hd26 Hd24 qd28;have Hd29:=uA T Hd20 Hd28 Hd26 Hd24 qd29;have Hd30:=wL T Hd27 Hd29 qd30;have Hd31:=An (P:=l.prog) (w:=w) (base:=base) T qd31;have Hd32:=AG T Hd11 Hd21 Hd25 Hd31 Hd27 Hd29 Hd02 Hd30 Hd09 qd32;exact RE T Hd00 Hd01 Hd05 Hd32 Fl
def walk{l:OpenLaw}{q:Program}{loose:A05}{XP:(Zm)->Heap->Prop}{YP:World->Heap->Prop}{d:DefRec}{K:Params->Frag}(hn:l.most=some 63)(hdf:d.params.defaults=[])(hY:∀(w:World)(h:Heap),YP w h->(K w.params).In h)(F:∀(w:World)(mg:Zm)(fa:Addr)(h:Heap),(K w.params).In h->h.Ns mainGlobals mg->mg d.name=some (.ref fa)-> ∃fd:FuncData,(∀(s:Shared)(u:Value),BindsTo s fd ⟨[u],[]⟩ [("script",u)])/\∀base:Heap,(K w.params).In base->base.Ns mainGlobals mg->gM l.prog w (K w.params) mg base (fO l.prog w) 9 fa fd ["script"] (cC mg (K w.params) [false] wM)) : WalkO q loose XP YP l.row.toRowW d [] (λf vs=>PySem.call f vs):=Gy hn hdf ⟨rfl,by decide,by decide⟩ hY F
end QS
open PySem PySem.W PyProof.Rows Dv
set_option maxRecDepth 100000 in
set_option maxHeartbeats 0 in
theorem PySem.Challenge.cw_farhail_k24_all_choices_by_trying_holds : PySem.Challenge.rw_farhail_k24_all_choices_by_trying.Holds := by
 w_on;o_law;k_head;(case hw=>w_witness2)
 k_fill
 refine QS.walk (l:=PySem.Challenge.rw_farhail_k24_all_choices_by_trying) rfl rfl (λw h AAB=>PySem.W.kIn_of AAB) ?F
 case F=>
  intro w mg fa h KX G hmg
  refine' QS.all_mk KX G hmg ?_ ?_ ?_ ?_ ?_ ?_ ?_ ?_ ?_ ?_ ?_ ?_ ?_ ?_ ?_ ?_ ?_ ?_ ?_ ?_ ?_ ?_ ?_ ?_ ?_ ?_ ?_ ?_ ?_ ?_ ?_ ?_ ?_ ?_ ?_ ?_ ?_ ?_ ?_ ?_ ?_ ?_ ?_ ?_ ?_ ?_ ?_ ?_ ?_ ?_ ?_ ?_ ?_ ?_ ?_ ?_ ?_ ?_
  iterate 34
   apply Qo
   iterate 4 (first|k_is|kernel_rfl)
  iterate 16
   first|k_is|kernel_rfl
  iterate 4
   apply M4
   iterate 2 (first|k_is|kernel_rfl)
  all_goals first|kernel_rfl|k_is
