import PyProof.Rows.All
import PySem.PyData
import Wide.All
import OpenK.AllK
import Wide.FinOn
import Lean
import PyProof.EqAt
import PyProof.EqKinds
import PyProof.TupleCall
import PyProof.SetKind
import PyProof.TupleKey
import PyProof.IsRules
import PyProof.SetRoads
import PyProof.RaisesMany
import PyProof.RulesTry
import PyProof.ExcClass2
import KE.KTryMore
import PyProof.RulesAs
import PyProof.NsDelKeeps
import KE.KDictList
import PyProof.P3In
import PyProof.Rows.SortShellK
import PyProof.TupleOfSeq
import PyProof.WalkInts
import PyProof.SeqI3
import PyProof.SumAnyB
import PyProof.Rows.SeqWords
import PyProof.ListRange
import PyProof.DictValues
import PyProof.DictWalks
import PySem.Challenge.RW_farhail_k28_whole_a_look_in_its_leg
set_option linter.all false
local macro_rules | `(tactic| ac_rfl) => `(tactic| exact ⟨rfl,rfl,rfl,by decide +kernel,rfl,by decide +kernel,by decide +kernel⟩)
set_option genSizeOf false
set_option genInjectivity false
section
open PySem
abbrev VA:=List (PyData×PyData)
abbrev VB:=Array (Option Value)
abbrev VC:=Value->Shared->Prop
abbrev VD:=List Comprehension
abbrev VE:=Str->Option Value
abbrev VF:=List (Addr×Obj)
abbrev VG:=List (List Nat)
abbrev VH:=Int->Int->Bool
abbrev VI:=List (Nat×Nat)
abbrev VJ:=List (Int×Int)
abbrev VL:=PySem.W.Frag
abbrev VM:=Option Value
abbrev VN:=Array Value
abbrev VO:=List PyData
abbrev VP:=Option Addr
abbrev VQ:=List Value
abbrev VR:=List Addr
abbrev VS:=List Bool
abbrev VT:=List Expr
abbrev VU:=List Stmt
abbrev VV:=List Nat
abbrev VW:=List Int
abbrev VX:=List Str
end
section
open PySem PySem.Spec PyProof.Rows PySem.W
def Q0:=@wpAny_bind
def Q2:=@List.mem_cons_self
def Q3:=@wpS_bind
def Q4:=@wpS_pure
def Q5:=@wpAny_pure
def Q6:=@Nat.le_refl
def Q7:=@List.mem_cons_of_mem
def Q8:=@List.length_map
def Q9:=@List.mem_cons
def QA:=@List.mem_append
def QB:=@List.mem_map
def QC:=@Bool.and_eq_true
def QD:=@Heap.lt_size
def QE:=@List.length_append
def QF:=@List.mem_singleton
def QG:=@Nat.ne_of_lt
def QH:=@List.length_cons
def QI:=@List.length_range
def QJ:=@List.size_toArray
def QK:=@List.all_eq_true
def QL:=@Heap.get?_push_of_some
def QM:=@List.all_cons
def QN:=@List.getElem?_map
def QO:=@List.map_cons
def QS:=@of_decide_eq_true
def QT:=@Nat.lt_of_lt_of_le
def QU:=@List.mem_filter
def QV:=@List.getElem?_eq_getElem
def QW:=@Nat.le_trans
def QX:=@List.mem_of_getElem?
def QY:=@List.map_append
def QZ:=@List.not_mem_nil
def Qq:=@wpAny_mono
def Qs:=@List.append_assoc
def Qt:=@List.map_map
def Qu:=@Bool.false_ne_true
def Qv:=@List.mem_range
def Qw:=@Nat.zero_le
def Qx:=@List.mem_append_right
def Qy:=@List.nodup_append
def Qz:=@decide_eq_true
def R7:=@Heap.get?_push_size
def R8:=@List.nodup_cons
def R9:=@Nat.lt_irrefl
def RA:=@wpS_mono
def RB:=@wpS_forRange
def RC:=@Array.getElem?_toList
def RD:=@List.getD_eq_getElem?_getD
def RE:=@List.flatten_append
def RG:=@List.getElem?_eq_none
def RH:=@List.lookup_cons
def RI:=@List.mem_flatMap
def RJ:=@List.length_set
def RK:=@PassesOwn.leaving
def RL:=@Nat.lt_or_ge
def RM:=@List.filterMap_cons
def RN:=@List.append_nil
def RO:=@List.flatten_cons
def RP:=@Array.toList_append
def RQ:=@List.mem_flatten
def RS:=@decide_eq_true_eq
def RT:=@List.getElem?_eq_some_iff
def RU:=@List.getElem?_range
def RV:=@wpS_modify
def RW:=@List.take_length
def RX:=@wpAny_holding
def RY:=@Heap.get?_update_other
def RZ:=@Array.getElem?_eq_getElem
def Ra:=@wpAny_rule
def Rb:=@List.length_filter_le
def Rc:=@mg_none_of
def Rf:=@decide_eq_false
def Rg:=@Array.length_toList
def Rh:=@List.length_replicate
def Ri:=@List.nodup_range
def Rj:=@List.map_congr_left
def Rk:=@List.sum_cons
def Rm:=@List.length_singleton
def Rn:=@List.getElem_mem
def Ro:=@Bool.eq_iff_iff
def Rq:=@List.length_take
def Rr:=@wpAny_newObj_type
def Rt:=@List.getElem?_of_mem
def Ru:=@List.Perm.append_left
def Rv:=@List.pairwise_cons
def Rx:=@List.ext_getElem?
def Ry:=@Nat.le_of_lt
def Rz:=@wpAny_field
def S0:=@Heap.get?_update_self
def S2:=@Array.getD_eq_getD_getElem?
def S3:=@List.filter_cons_of_pos
def S4:=@Nat.ne_of_gt
def S5:=@List.getElem?_append_right
def S6:=@wpAny_call_entry
def S7:=@Option.map_eq_some_iff
def S8:=@Nat.not_lt_zero
def S9:=@Nat.lt_succ_of_lt
def SA:=@List.nodup_nil
def SD:=@wpS_lift
def SG:=@List.perm_append_comm
def SH:=@List.all_map
def SJ:=@Bool.or_eq_true
def SK:=@List.Sublist.nodup
def SN:=@Nat.mul_le_mul
def SO:=@List.filter_cons_of_neg
def SQ:=@List.contains_eq_mem
def SR:=@wpAny_truthy_bool
def SV:=@wpAny_passesOwn
def SW:=@List.getElem?_append_left
def SX:=@eq_of_beq
def SY:=@List.replicate_succ
def Sa:=@call_meets
def Sb:=@List.any_cons
def Sd:=@Nat.mod_lt
def Se:=@Nat.not_lt
def Sf:=@wpAny_setField
def Sg:=@Nat.le_of_eq
def Sh:=@Obj.data_mapFields
def Si:=@Nat.lt_succ_self
def Sj:=@Heap.size_push
def Sk:=@List.length_pos_iff
def Sl:=@List.filter_sublist
def Sn:=@PySem.F.slot_list_append
def So:=@PySem.F.type_list_append
def Sq:=@Int.ofNat_lt
def Ss:=@wpAny_standAt
def Su:=@codeAny_mono
def Sv:=@List.length_drop
def Sw:=@wpAny_typeOf
def Sx:=@Nat.le_succ
def Sy:=@List.find?_cons
def Sz:=@Nat.zero_lt_succ
def T4:=@Int.emod_lt_of_pos
def T5:=@Int.emod_nonneg
def T7:=@Heap.SameBut.update
def T8:=@codeAny_builtin
def T9:=@wpAny_askSetting
def TF:=@List.take_of_length_le
def TH:=@List.take_append_drop
def TJ:=@List.any_eq_true
def TM:=@Nat.min_eq_left
def TN:=@Nat.min_eq_right
def TQ:=@List.append_of_mem
def TR:=@List.getElem?_set
def TU:=@Heap.get?_none_of_le
def TV:=@List.mem_append_left
def TX:=@List.getElem?_set_self
def TY:=@List.getElem?_set_ne
def TZ:=@wpAny_execs_nil
def Tc:=@PySem.mem_of_lookup
def Td:=@List.foldl_cons
def Te:=@Nat.lt_trichotomy
def Tf:=@Array.getElem?_eq_some_iff
def Ti:=@Array.size_extract
def Tj:=@Nat.zero_add
def Tn:=@List.filterMap_append
def To:=@List.filter_cons
def Tp:=@Obj.isFreed_of_fields
def Tq:=@wpAny_of_eq
def Tt:=@List.Perm.swap
def Tu:=@Array.toList_push
def Tv:=@List.Perm.append_right
def Tw:=@Nat.add_sub_cancel_left
def Tz:=@List.length_pos_of_mem
def U0:=@Nat.le_total
def U1:=@List.cons.injEq
def U3:=@List.map_eq_nil_iff
def U4:=@Nat.mul_assoc
def U5:=@List.map_singleton
def U6:=@List.filter_map
def U7:=@List.eq_nil_of_length_eq_zero
def U8:=@List.filter_eq_nil_iff
def U9:=@PyProof.Rows.callWith_type1
def UA:=@List.mem_filterMap
def UB:=@wpAny_Call_Name_kw
def UC:=@List.of_mem_zip
def UD:=@Int.toNat_natCast
def UE:=@wpAny_callSpecial?_slot
def UG:=@PyProof.Rows.slot_tuple_getitem
def UH:=@List.eraseIdx_cons_succ
def UI:=@tupleKind_room_in1
def UJ:=@beq_self_eq_true
def UK:=@Classical.byContradiction
def UL:=@Array.getElem?_eq_none
def UM:=@List.range_succ
def UN:=@List.pairwise_iff_getElem
def UO:=@wpAny_pyIter_list
def UP:=@wpAny_setState_of
def UQ:=@Around.under_plainId
def UR:=@PyProof.Rows.F.plain_set_update_loop
def US:=@List.length_eq_zero_iff
def UT:=@wpAny_ite_split
def UU:=@wpAny_newList
def UW:=@List.drop_zero
def UX:=@List.drop_of_length_le
def UY:=@listItems_at
def UZ:=@Bool.not_eq_true'
def Ua:=@List.find?_cons_of_pos
def Ub:=@List.find?_cons_of_neg
def Uc:=@List.drop_length
def Ud:=@List.pairwise_map
def Ue:=@List.Pairwise.imp_of_mem
def Ug:=@List.filter_congr
def Uh:=@List.flatten_singleton
def Ui:=@List.getElem?_replicate
def Uj:=@Nat.min_le_right
def Uk:=@Option.isSome_map
def Ul:=@Nat.lt_succ_of_le
def Um:=@Array.getElem?_extract
def Uo:=@List.range_eq_range'
def Uq:=@Array.getElem?_setIfInBounds
def Ur:=@List.pairwise_lt_range
def Us:=@List.getElem?_toArray
def Ut:=@Nat.le_add_right
def Uu:=@Array.toList_extract
def Uv:=@List.extract_eq_take_drop
def Uw:=@Array.toList_reverse
def Ux:=@List.reverse_perm
def Uy:=@Array.perm_iff_toList_perm
def Uz:=@wpAny_comprehension_free
def V0:=@PySem.F.plainAttrs_list
def V1:=@PyProof.Rows.boot_sorted
def V2:=@decide_eq_false_iff_not
def V3:=@List.mem_erase_of_ne
def V4:=@List.length_erase_of_mem
def V5:=@List.perm_ext_iff_of_nodup
def V6:=@List.isEmpty_map
def V7:=@PyProof.Rows.slot_tuple_getitem.lookup
def V8:=@List.eraseIdxIfInBounds_toArray
def V9:=@PyProof.Rows.F.entry_set_update_loop
end
noncomputable section
namespace PySem.W.Fast
def tw15157100836698341352:=Nat
def tw1863038932384992238:=Nat
def tw7002264548459373097:=Nat
def tw1901183592124281637:=Nat
def tw4705250479349392554:=Nat
def tw3551397878996264087:=Nat
def tw18252875085907315117:=Nat
def tw14175165055408417901:=Nat
def tw6813603153649383525:=Nat
def tw3003484731820839975:=Nat
def tw9298622187198014356:=Nat
def tw10790671736799723000:=Nat
def tw9284607215323035877:=Nat
def tw16737635800660124184:=Nat
def tw15313537771888477506:=Nat
def tw2178722552625755843:=Nat
def tw3162034174524913377:=Nat
def tw9754658256610963497:=Nat
def tw7638353680751563124:=Nat
def tw12983027515251334416:=Nat
def tw6364001520968335111:=Nat
def tw10077799937224049928:=Nat
def tw10391178158246690399:=Nat
def tw5978312415599242909:=Nat
def tw15503213514133490914:=Nat
def tw8795483441628147414:=Nat
def tw3682290154574996050:=Nat
def tw10552164362389745482:=Nat
def tw4015718264541836559:=Nat
def tw9403744504666834046:=Nat
def tw14016850679881605723:=Nat
def tw15863432329060549180:=Nat
def tw14204465425092954513:=Nat
def tw4203899938098924278:=Nat
def tw12115883277001993579:=Nat
def tw10577185970842943618:=Nat
def tw10972332005549590484:=Nat
def tw5768011668456988795:=Nat
def tw1678277042411290703:=Nat
def tw2330536051197279787:=Nat
def tw14025837721647232202:=Nat
def tw13468536711320577473:=Nat
def tw8930342321150492793:=Nat
def tw4057878198400256992:=Nat
def tw5461680904098355979:=Nat
def tw18084284395400670044:=Nat
def tw4253084620790985895:=Nat
def tw8257418431636063139:=Nat
def tw10922303788167033982:=Nat
def tw8308761865074528941:=Nat
def tw13711643590696745761:=Nat
def tw6757405944775956020:=Nat
def tw11743731852966714944:=Nat
def tw16999134100126269819:=Nat
def tw6513176488257292943:=Nat
def tw5473672342712026257:=Nat
def tw16530621517286969429:=Nat
def tw12824375559085683381:=Nat
def tw7573084429961918679:=Nat
def tw11508134529488850859:=Nat
def tw7064773540246885643:=Nat
def tw2114652631773131780:=Nat
def tw4304365750331980209:=Nat
def tw16975283471223045136:=Nat
def tw9464351138750287499:=Nat
def tw3712302188965279563:=Nat
def tw6916480945215077132:=Nat
def tw7557103216581473457:=Nat
def tw14197071302719550530:=Nat
def tw6622962303657363479:=Nat
def tw7650265897042571480:=Nat
def tw12489667179636445196:=Nat
def tw3979683970112976592:=Nat
def tw13561894715683745989:=Nat
def tw7515434508993797054:=Nat
def tw9627981132612799366:=Nat
def tw12149115624036639207:=Nat
def tw661078347611598768:=Nat
def tw3239059271202531282:=Nat
def tw17187661055579260970:=Nat
def tw9971714377372052818:=Nat
def tw3831580544513319189:=Nat
def tw2035634234814413561:=Nat
def tw10620416362086662076:=Nat
def tw12789451913455022542:=Nat
def tw5072300970024793472:=Nat
def tw5203207958444688280:=Nat
def tw7121462102895578156:=Nat
def tw10199714953141120028:=Nat
def tw13808962889927800267:=Nat
def tw4595662617745017556:=Nat
def tw6847961434187859476:=Nat
def tw967461052260665355:=Nat
def tw3694598403985565986:=Nat
def tw4428801210809222278:=Nat
def tw13606449311332499881:=Nat
def tw17542313471327167033:=Nat
def tw10062876881638281249:=Nat
def tw11222256547574051533:=Nat
def tw1588459263730386104:=Nat
def tw9933837688876855837:=Nat
def tw10344470199714698427:=Nat
def tw17141823962856881364:=Nat
def tw8412648581476728794:=Nat
def tw14853231094655383761:=Nat
def tw10868452822822785811:=Nat
def tw10169322873131619383:=Nat
def tw13503927620045253717:=Nat
def tw14167024366149458888:=Nat
def tw13055649896632488166:=Nat
def tw5173153232946409621:=Nat
def tw121429495378286899:=Nat
def tw10740515226436541687:=Nat
def tw15485147477792759351:=Nat
def tw4320874842103186459:=Nat
def tw10273896727814805350:=Nat
def tw11767769248175689627:=Nat
def tw2673732964836538031:=Nat
def tw5014082363824936366:=Nat
def tw3134023854582781016:=Nat
def tw6749235732833021823:=Nat
def tw5417626831535504698:=Nat
def tw13816428151072219357:=Nat
def tw17390599178119669988:=Nat
def tw182593417324622668:=Nat
def tw2325180290397574299:=Nat
def tw630969044104067794:=Nat
def tw9965635457448800029:=Nat
def tw6032343256599689766:=Nat
def tw8621638045273422373:=Nat
def tw11245598509997335823:=Nat
def tw1227833475436499485:=Nat
def tw1450819627290958867:=Nat
def tw3735221294054685818:=Nat
def tw16261557354646869847:=Nat
def tw7767291917923202494:=Nat
def tw5597189850695626680:=Nat
def tw17885862057212828271:=Nat
def tw15247013393552705135:=Nat
def tw3026150038707267141:=Nat
def tw8416232929730385588:=Nat
def tw10012902464875895263:=Nat
def tw2238474811064779166:=Nat
def tw6132025723009204058:=Nat
def tw2687433203481661338:=Nat
def tw3287124065967280728:=Nat
def tw4320323852146839888:=Nat
def tw4720309205396035769:=Nat
def tw14349966523699165720:=Nat
def tw11688614238967917459:=Nat
def tw3255818547886617868:=Nat
def tw12044025839958294058:=Nat
def tw12188398771112812349:=Nat
def tw13895795752027310336:=Nat
def tw4440743284209447781:=Nat
def tw5760534645577233827:=Nat
def tw3765466191452100136:=Nat
def tw16867460887532986463:=Nat
def tw5880781750259051974:=Nat
def tw5074713117155035624:=Nat
end PySem.W.Fast
set_option Elab.async false
set_option linter.all false
set_option maxHeartbeats 4000000
set_option maxRecDepth 100000
namespace Dv
open PySem
inductive Kd where
 | sh | ow (p:Bool) | dp (p:Bool) | dk (p:Bool) | dt (p:Bool) | st (p:Bool)
 deriving DecidableEq
def kG (n:Nat) (i:Int):Option Nat:=if 0<=i then (if i < n then some i.toNat else none) else if -(n:Int)<=i then some (i + n).toNat else none
def qU:PyData->Bool
 | .int _ | .str _=>true
 | _=>false
instance Qp:DecidableEq PyData:=fun a b=>Classical.propDecidable (a=b)
def eL (kvs:VA)(k:PyData):Option PyData:=(kvs.find? fun kv=>decide (kv.1=k)).map (·.2)
def putD (kvs:VA)(k v:PyData):VA:=if (kvs.any fun kv=>decide (kv.1=k))=true then kvs.map (fun kv=>if kv.1=k then (kv.1,v) else kv) else kvs++[(k,v)]
def hi0:Nat:=0
def hi1:Nat:=hi0
def hi2:Nat:=hi1
def Qj:Nat:=hi2
def P8:Nat:=Qj
def Ql:Nat:=P8
def PJ:Nat:=Ql
def PZ:Nat:=PJ
def PM:Nat:=PZ
def PX:Nat:=PM
def Pf:Nat:=PX
def Pj:Nat:=Pf
def jY:Nat:=Pj
abbrev En:=List (Option (Kd×PyData))
abbrev VY:=En->Kd->PyData->Prop
abbrev VZ:=List (Option PyData)
abbrev Va:=Option (Kd×PyData)
abbrev Vb:=Kd->PyData->Prop
abbrev Vc:=En->Bool->Prop
abbrev Vd:=En->Prop
abbrev XC:=Str->PyData->Prop
abbrev xF:XC:=fun _ _=>False
abbrev DE:=XC->En->(VY)->Prop
abbrev DT:=XC->En->(Vc)->Prop
abbrev DI:=XC->En->(En->VO->Prop)->Prop
structure gE where
 nx:Vd
 rt:VY
 xc:XC
abbrev DS:=gE->En->Prop
abbrev bD:=VO->(VO->Kd->PyData->Prop)->XC->Prop
def lf:PyData->Bool
 | .none | .bool _ | .int _ | .str _=>true
 | .tuple ds=>lfs ds
 | .list _ | .dict _=>false
where lfs:VO->Bool
 | []=>true
 | d::ds=>lf d && lfs ds
theorem uS:∀ ds:VO,lf.lfs ds=ds.all lf
 | []=>by rw [lf.lfs];rfl
 | d::ds=>by rw [lf.lfs,uS ds];rfl
def Ah:PyData->Bool
 | .list _=>true
 | _=>false
def flat:Kd->PyData->Bool
 | .sh,d=>lf d
 | .ow _,.list ds=>ds.all lf
 | .dp _,.list ds=>ds.all fun d=>match d with | .list es=>es.all lf | d=>lf d
 | .dk _,.dict kvs=>kvs.all fun kv=>lf kv.2
 | .dt _,.dict kvs=>kvs.all fun kv=>lf kv.2
 | _,_=>false
def Kd.fz:Kd->Bool
 | .sh | .ow false | .dp false | .dk false | .dt false=>true
 | _=>false
def Kd.rd:Kd->Bool
 | .st _=>false
 | _=>true
def Kd.pin:Kd->Bool
 | .ow p | .dp p | .dk p | .dt p | .st p=>p
 | .sh=>false
def dD (E:En) (i:Nat):Option En:=match E[i]? with
 | some (some (k,d))=>if k.fz then some (E.set i (some (.sh,d))) else none
 | _=>none
def dX:VV->En->Option En
 | [],E=>some E
 | i::r,E=>(dD E i).bind (dX r)
inductive Arg where
 | pk (i:Nat) | ev (d:DE)
def f6:List Arg->VV
 | []=>[]
 | .pk i::r=>i::f6 r
 | .ev _::r=>f6 r
def here (E:En) (i:Nat):Bool:=match E[i]? with
 | some (some _)=>true
 | _=>false
def fill:List Arg->En->List (Option PyData)->Option (VO)
 | [],_,[]=>some []
 | .pk i::r,E,none::os=>match E[i]? with
  | some (some (k,d))=>if k.rd then (fill r E os).map (d::·) else none
  | _=>none
 | .ev _::r,E,some v::os=>(fill r E os).map (v::·)
 | _,_,_=>none
def ig (E:En) (i:Nat):Bool:=match E[i]? with
 | some (some (.sh,_))=>true
 | _=>false
theorem w6 {E:En}:∀ {is:VV},is.all (ig E)=true->dX is E=some E
 | [],_=>rfl
 | i::r,h=>by
  rw [QM,QC] at h;have e:dD E i=some E:=by
   have h1:=h.1;unfold ig at h1;unfold dD;split at h1
   ·rename_i d e;rw [e];show some (E.set i (some (.sh,d)))=some E;congr 1;refine Rx fun j=>?_
    rw [TR]
    by_cases c:i=j
    ·subst c;rw [if_pos rfl,e];have l:i < E.length:=by
      rcases RL i E.length with z | z
      ·exact z
      ·rw [RG z] at e;cases e
     rw [if_pos l]
    ·rw [if_neg c]
   ·cases h1
  show (dD E i).bind (dX r)=some E;rw [e];exact w6 h.2
def OF (as:List Arg)(E:En)(k:Kd)(v:PyData):Option En:=if ((f6 as).all (ig E) || flat k v)=true then some E else dX (f6 as) E
def yV {is:VV}{E E2:En}{b:Bool}(h:(if (is.all (ig E) || b)=true then some E else dX is E)=some E2):(if b=true then some E else dX is E)=some E2:=by
 cases hs:is.all (ig E) with
 | true =>
  rw [hs,Bool.true_or,if_pos rfl] at h;rw [w6 hs,h,ite_self]
 | false =>
  rw [hs,Bool.false_or] at h;exact h
abbrev DR:=VO->(Vb)->Prop
def dC (v:PyData):DE:=fun _ E Q=>(fun _:Nat=>Q E .sh v) jY
def rY:VS->List Arg->VO->En->Option En
 | [],[],[],E=>some E
 | false::ms,_::r,us,E=>rY ms r us E
 | true::ms,.pk i::r,u::us,E=>match E[i]? with
  | some (some (.ow p,.list _))=>if Ah u then rY ms r us (E.set i (some (.ow p,u))) else none
  | _=>none
 | _,_,_,_=>none
def lent:VS->List Arg->VV
 | true::ms,.pk i::r=>i::lent ms r
 | _::ms,_::r=>lent ms r
 | _,_=>[]
def kept:VS->List Arg->VV
 | false::ms,.pk i::r=>i::kept ms r
 | _::ms,_::r=>kept ms r
 | _,_=>[]
def shape:VS->List Arg->Bool
 | [],[]=>true
 | true::ms,.pk _::r=>shape ms r
 | false::ms,_::r=>shape ms r
 | _,_=>false
def yJ (ms:VS)(as:List Arg)(E:En):Bool:=shape ms as && decide (lent ms as).Nodup && (lent ms as).all (fun i=>!(kept ms as).contains i && (match E[i]? with | some (some (.ow _,.list _))=>true | _=>false))
def MM (ms:VS)(as:List Arg)(us:VO)(E:En)(k:Kd)(v:PyData):Option En:=if ((kept ms as).all (ig E) || (flat k v && us.all (flat (.ow false))))=true then some E else dX (kept ms as) E
def lG:PyData->Option Bool
 | .bool b=>some b
 | .int i=>some (!decide (i=0))
 | .none=>some false
 | .str _=>none
 | .list ds=>some !ds.isEmpty
 | .tuple ds=>some !ds.isEmpty
 | .dict _=>none
def Lz (d:DE):DT:=fun x E Q=>d x E fun E' _ v=>∃ b,lG v=some b/\Q E' b
def qS (t:DT):DT:=fun x E Q=>(fun _:Nat=>t x E fun E' b=>Q E' (!b)) jY
def LM (a b:DE):DE:=fun x E Q=>a x E fun E1 _ v=>∃ c,v=.bool c/\if c=true then b x E1 Q else Q E1 .sh (.bool false)
def Ou (a b:DE):DE:=fun x E Q=>a x E fun E1 _ v=>∃ c,v=.bool c/\if c=true then Q E1 .sh (.bool true) else b x E1 Q
def Mz (a:DE):DE:=fun x E Q=>a x E fun E1 _ v=>∃ c,lG v=some c/\Q E1 .sh (.bool !c)
def Eg (f f':VH)(a b c:DE):DE:=fun x E Q=>a x E fun E1 _ u=>∃ i,u=.int i/\b x E1 fun E2 _ v=>∃ j,v=.int j/\if f i j=true then c x E2 fun E3 _ w=>∃ k,w=.int k/\Q E3 .sh (.bool (f' j k)) else Q E2 .sh (.bool false)
def OC (c:DT)(a b:DE):DE:=fun x E Q=>c x E fun E1 t=>if t=true then a x E1 Q else b x E1 Q
def dR:DS:=fun D E=>(fun _:Nat=>D.nx E) jY
def aq (a b:DS):DS:=fun D E=>(fun _:Nat=>a { D with nx:=b D } E) jY
def Ba (a b:DS):DS:=fun D E=>∃ J:Vd,a { D with nx:=J } E/\∀ E',J E'->b D E'
def LA (c:DT)(a b:DS):DS:=fun D E=>c D.xc E fun E1 t=>if t=true then a D E1 else b D E1
def bL (E:En) (i:Nat):Bool:=match E[i]? with
 | some (some (k,_))=>!k.pin
 | some none=>true
 | none=>false
def LG (i:Nat)(e:DE):DS:=fun D E=>e D.xc E fun E' k v=>bL E' i=true/\D.nx (E'.set i (some (k,v)))
inductive Tg where
 | nm (i:Nat) | tp (is:VV)
def Tg.slots:Tg->VV
 | .nm i=>[i]
 | .tp is=>is
def bQ:VV->VO->En->Option En
 | [],[],E=>some E
 | i::is,d::ds,E=>if bL E i then bQ is ds (E.set i (some (.sh,d))) else none
 | _,_,_=>none
def cG:Tg->PyData->En->Option En
 | .nm i,d,E=>bQ [i] [d] E
 | .tp is,.tuple ds,E=>bQ is ds E
 | _,_,_=>none
def bY (e:DE):DS:=fun D E=>(fun _:Nat=>e D.xc E D.rt) jY
def jw (E:En) (i:Nat):Bool:=match E[i]? with
 | some (some (.ow _,.list _))=>true
 | _=>false
abbrev DM:=VO->VO->(VO->PyData->Prop)->Prop
def sY:VA->Bool
 | (.none,_)::_=>false
 | _=>true
def zc (most:Nat) (i:Nat)(e:DE):DS:=fun D E=>jw E i=true/\e D.xc E fun E1 k v=>k.fz=true/\∃ p ds es,E1[i]?=some (some (.ow p,.list ds))/\v=.list es/\ds.length + es.length<=most/\D.nx (E1.set i (some (.ow p,.list (ds++es))))
def ym (f:DM) (i:Nat)(j:DE) (n:Nat):DE:=fun x E Q=>here E i=true/\j x E fun E1 _ w=>∃ a p ds m es k d E2,w=.int a/\E1[i]?=some (some (.dp p,.list ds))/\kG ds.length a=some m/\ds[m]?=some (.list es)/\E1[n]?=some (some (k,d))/\i≠n/\dD E1 n=some E2/\f es [d] fun new v=>Q (E2.set i (some (.dp p,.list (ds.set m (.list new))))) .sh v
def mZ (c:Str):DS:=fun D _=>(fun _:Nat=>D.xc c .none) jY
def fU (e:DE):DS:=fun D E=>(fun _:Nat=>e D.xc E fun E' _ _=>D.nx E') jY
def eN (it:DI)(tg:Tg)(b:DS):DS:=fun D E=>(fun _:Nat=>it D.xc E fun E1 xs=>∃ I:Nat->En->Prop,I 0 E1/\(∀ i d E,xs[i]?=some d->I i E->∃ E2,cG tg d E=some E2/\b { D with nx:=I (i + 1) } E2)/\∀ E,I xs.length E->D.nx E) jY
def wC (c:DT)(b:DS):DS:=fun D E=>∃ W:Nat->En->Prop,(∃ m,W m E)/\∀ m E,W m E->c D.xc E fun E1 t=>if t=true then b { D with nx:=fun E'=>∃ m',m' < m/\W m' E' } E1 else D.nx E1
def items:PyData->Option (VO)
 | .list ds=>some ds
 | .tuple ds=>some ds
 | _=>none
def oE (e:DE):DI:=fun x E Q=>e x E fun E' k v=>k.fz=true/\∃ ds,items v=some ds/\Q E' ds
def jF (ds:VO):VO:=ds.zipIdx.map fun p=>.tuple [.int p.2,p.1]
def Ox (e:DE):DI:=fun x E Q=>e x E fun E' k v=>k.fz=true/\∃ ds,v=.list ds/\Q E' (jF ds)
def bf:VV->En->Option En
 | [],E=>some E
 | i::r,E=>if bL E i then bf r (E.set i none) else none
abbrev DC:=XC->VO->En->(VO->En->Prop)->Prop
def dQ:DT:=fun _ E Q=>(fun _:Nat=>Q E true) jY
def aT (most:Nat)(e:DE):DC:=fun x ys E Q=>e x E fun E1 k v=>k.fz=true/\ys.length < most/\Q (ys++[v]) E1
def AL (it:DI)(tg:Tg)(c:DT)(r:DC):DC:=fun x ys E Q=>(fun _:Nat=>it x E fun E1 xs=>∃ I:Nat->VO->En->Prop,I 0 ys E1/\(∀ i d ys E,xs[i]?=some d->I i ys E->∃ E2,cG tg d E=some E2/\c x E2 fun E3 b=>if b=true then r x ys E3 (I (i + 1)) else I (i + 1) ys E3)/\∀ ys E,I xs.length ys E->Q ys E) jY
def aO (cs:VV)(it:DI)(tg:Tg)(c:DT)(r:DC):DE:=fun x E Q=>(fun _:Nat=>it x E fun E1 xs=>∃ (E0:En)(I:Nat->VO->En->Prop),bf cs E1=some E0/\I 0 [] E0/\(∀ i d ys E,xs[i]?=some d->I i ys E->∃ E2,cG tg d E=some E2/\c xF E2 fun E3 b=>if b=true then r xF ys E3 (I (i + 1)) else I (i + 1) ys E3)/\∀ ys E,I xs.length ys E->∃ E2,bf cs E=some E2/\Q E2 (.ow false) (.list ys)) jY
def n9 (most:Nat)(cs:VV)(it:DI)(tg:Tg)(c:DT)(e:DE):DE:=fun x E Q=>(fun _:Nat=>it x E fun E1 xs=>∃ (E0:En)(I:Nat->VO->En->Prop),bf cs E1=some E0/\I 0 [] E0/\(∀ i d ys E,xs[i]?=some d->I i ys E->∃ E2,cG tg d E=some E2/\c xF E2 fun E3 b=>if b=true then e xF E3 (fun E4 k v=>(∃ p,k=.ow p)/\ys.length < most/\I (i + 1) (ys++[v]) E4) else I (i + 1) ys E3)/\∀ ys E,I xs.length ys E->∃ E2,bf cs E=some E2/\Q E2 (.dp false) (.list ys)) jY
def kg (lo:Int) (n:Nat):VO:=(List.range n).map fun i:Nat=>PyData.int (lo + i)
def aB {α:Type}(o:Option α)(Q:α->Prop):Prop:=match o with
 | some a=>Q a
 | none=>False
def dg {α:Sort u}(b:Bool)(x y:α):α:=match b with
 | true=>x
 | false=>y
def bu:Va->Bool
 | some (k,_)=>!k.pin
 | none=>true
def gh (E:En) (i:Nat):Bool:=match E[i]? with
 | some o=>bu o
 | none=>false
def bK (b:Bool)(P:Prop):Prop:=match b with
 | true=>P
 | false=>False
def jj:List Arg->XC->En->(En->List (Option PyData)->Prop)->Prop
 | [],_,E,Q=>Q E []
 | .pk i::r,x,E,Q=>bK (here E i) (jj r x E fun E' os=>Q E' (none::os))
 | .ev d::r,x,E,Q=>d x E fun E1 k v=>bK k.fz (jj r x E1 fun E' os=>Q E' (some v::os))
def rF (E:En) (i:Nat):Option En:=match E[i]? with
 | some (some (k,d))=>dg k.fz (some (E.set i (some (.sh,d)))) none
 | _=>none
def jK:VV->En->Option En
 | [],E=>some E
 | i::r,E=>(rF E i).bind (jK r)
def cL:List Arg->En->List (Option PyData)->Option (VO)
 | [],_,[]=>some []
 | .pk i::r,E,none::os=>match E[i]? with
  | some (some (k,d))=>dg k.rd ((cL r E os).map (d::·)) none
  | _=>none
 | .ev _::r,E,some v::os=>(cL r E os).map (v::·)
 | _,_,_=>none
def q8 (as:List Arg)(E:En)(k:Kd)(v:PyData):Option En:=dg ((f6 as).all (ig E) || flat k v) (some E) (jK (f6 as) E)
def DK (E:En) (i:Nat)(Q:VY):Prop:=match E[i]? with
 | some (some (_,d))=>aB (rF E i) fun E'=>Q E' .sh d
 | _=>False
def yo (r:DR)(as:List Arg)(E:En)(os:VZ)(Q:VY):Prop:=aB (cL as E os) fun ds=>r ds fun k v=>aB (q8 as E k v) fun E2=>Q E2 k v
def lY (i:Nat):VV->Bool
 | []=>false
 | j::r=>i == j || lY i r
def pU:VV->VV->En->Bool
 | [],_,_=>true
 | i::r,ks,E=>(!lY i ks && !lY i r && jw E i) && pU r ks E
def sF (ms:VS)(as:List Arg)(E:En):Bool:=shape ms as && pU (lent ms as) (kept ms as) E
def kc:VS->List Arg->VO->En->Option En
 | [],[],[],E=>some E
 | false::ms,_::r,us,E=>kc ms r us E
 | true::ms,.pk i::r,u::us,E=>match E[i]? with
  | some (some (.ow p,.list _))=>dg (Ah u) (kc ms r us (E.set i (some (.ow p,u)))) none
  | _=>none
 | _,_,_,_=>none
def tE (ms:VS)(as:List Arg)(us:VO)(E:En)(k:Kd)(v:PyData):Option En:=dg ((kept ms as).all (ig E) || (flat k v && us.all (flat (.ow false)))) (some E) (jK (kept ms as) E)
def D8 (ms:VS)(as:List Arg)(E:En)(us:VO)(k:Kd)(v:PyData)(Q:VY):Prop:=aB (kc ms as us E) fun E2=>aB (tE ms as us E2 k v) fun E3=>Q E3 k v
def Cp (sp:bD)(ms:VS)(as:List Arg)(x:XC)(E:En)(os:VZ)(Q:VY):Prop:=aB (cL as E os) fun ds=>bK (sF ms as E) (sp ds (fun us k v=>D8 ms as E us k v Q) x)
def tN (v:PyData)(Q:Bool->Prop):Prop:=aB (lG v) Q
def D5 (E:En) (i:Nat)(Q:Vc):Prop:=match E[i]? with
 | some (some (k,d))=>bK k.rd (tN d (Q E))
 | _=>False
def Ab (v:PyData)(Q:Bool->Prop):Prop:=match v with
 | .bool b=>Q b
 | _=>False
def qJ (v:PyData)(Q:Int->Prop):Prop:=match v with
 | .int i=>Q i
 | _=>False
def HE (v:PyData)(Q:VO->Prop):Prop:=aB (items v) Q
def vF (v:PyData)(Q:VO->Prop):Prop:=match v with
 | .list xs=>Q xs
 | _=>False
def DX (E:En) (i:Nat)(Q:VY):Prop:=match E[i]? with
 | some (some (k,d))=>bK (!k.pin) (Q (E.set i none) k d)
 | _=>False
def Ej (f:DM) (i:Nat)(as:List Arg)(E:En)(os:VZ)(Q:VY):Prop:=aB (cL as E os) fun args=>match E[i]? with
 | some (some (.ow p,.list ds))=>f ds args fun new v=>Q (E.set i (some (.ow p,.list new))) .sh v
 | _=>False
def Ey (f:Int->Int->Int)(E:En) (i:Nat)(v:PyData)(Q:Vd):Prop:=match E[i]? with
 | some (some (_,.int a))=>qJ v fun b=>Q (E.set i (some (.sh,.int (f a b))))
 | _=>False
def stK:VV->VO->En->Option En
 | [],[],E=>some E
 | i::is,d::ds,E=>dg (gh E i) (stK is ds (E.set i (some (.sh,d)))) none
 | _,_,_=>none
def Ie (is:VV)(v:PyData)(E:En)(Q:Vd):Prop:=match v with
 | .tuple ds=>aB (stK is ds E) Q
 | _=>False
def wH (n:Nat) (i:Int):Option Nat:=match i with
 | .ofNat k=>dg (Nat.blt k n) (some k) none
 | .negSucc k=>kG n (.negSucc k)
def aG (i:Nat):DE:=fun _ E Q=>DK E i Q
def aa (r:DR)(as:List Arg):DE:=fun x E Q=>jj as x E fun E1 os=>yo r as E1 os Q
def aD (sp:bD)(ms:VS)(as:List Arg):DE:=fun x E Q=>jj as x E fun E1 os=>Cp sp ms as x E1 os Q
def aX (d:DE):DT:=fun x E Q=>d x E fun E' _ v=>tN v (Q E')
def Av (i:Nat):DT:=fun _ E Q=>D5 E i Q
def rS (a b:DE):DE:=fun x E Q=>a x E fun E1 _ v=>Ab v fun c=>dg c (b x E1 Q) (Q E1 .sh (.bool false))
def zd (a b:DE):DE:=fun x E Q=>a x E fun E1 _ v=>Ab v fun c=>dg c (Q E1 .sh (.bool true)) (b x E1 Q)
def uG (a:DE):DE:=fun x E Q=>a x E fun E1 _ v=>tN v fun c=>Q E1 .sh (.bool !c)
def mY (f f':VH)(a b c:DE):DE:=fun x E Q=>a x E fun E1 _ u=>qJ u fun i=>b x E1 fun E2 _ v=>qJ v fun j=>dg (f i j) (c x E2 fun E3 _ w=>qJ w fun k=>Q E3 .sh (.bool (f' j k))) (Q E2 .sh (.bool false))
def vB (c:DT)(a b:DE):DE:=fun x E Q=>c x E fun E1 t=>dg t (a x E1 Q) (b x E1 Q)
def cK (c:DT)(a b:DS):DS:=fun D E=>c D.xc E fun E1 t=>dg t (a D E1) (b D E1)
def aC (i:Nat)(e:DE):DS:=fun D E=>e D.xc E fun E' k v=>bK (gh E' i) (D.nx (E'.set i (some (k,v))))
def pB (is:VV)(e:DE):DS:=fun D E=>e D.xc E fun E' k v=>bK k.fz (Ie is v E' D.nx)
def iL (i:Nat):DS:=fun D E=>DX E i D.rt
def pF (f:DM) (i:Nat)(es:List DE):DE:=fun x E Q=>bK (jw E i) (jj (es.map .ev) x E fun E1 os=>Ej f i (es.map .ev) E1 os Q)
def lP (i:Nat)(j:DE)(e:DE):DS:=fun D E=>e D.xc E fun E1 k v=>bK k.fz (bK (here E1 i) (j D.xc E1 fun E2 k2 w=>bK k2.fz (setI E2 i w v D.nx)))
where setI (E:En) (i:Nat)(w v:PyData)(Q:Vd):Prop:=match E[i]?,w with
 | some (some (.ow p,.list ds)),.int a=>aB (wH ds.length a) fun n=>Q (E.set i (some (.ow p,.list (ds.set n v))))
 | some (some (.dk p,.dict kvs)),w=>(qU w=true/\kvs.length < 16777216)/\Q (E.set i (some (.dk p,.dict (putD kvs w v))))
 | some (some (.dt p,.dict (_::kvs))),.tuple ks=>(ks.all qU=true/\kvs.length < 16777216)/\Q (E.set i (some (.dt p,.dict ((.none,.none)::putD kvs (.tuple ks) v))))
 | _,_=>False
def uH (f:Int->Int->Int) (i:Nat)(e:DE):DS:=fun D E=>bK (here E i) (e D.xc E fun E1 _ v=>Ey f E1 i v D.nx)
def iE (e:DE):DI:=fun x E Q=>e x E fun E' k v=>bK k.fz (HE v fun ds=>Q E' ds)
def mE (g:VO->Option (VO))(as:List Arg):DI:=fun x E Q=>jj as x E fun E1 os=>aB (cL as E1 os) fun ds=>aB (g ds) fun xs=>Q E1 xs
def vt (e:DE):DI:=fun x E Q=>e x E fun E' k v=>bK k.fz (vF v fun ds=>Q E' (jF ds))
def P9 (a b:DE):DI:=fun x E Q=>a x E fun E1 k v=>bK k.fz (b x E1 fun E2 k2 v2=>bK k2.fz (vF v fun ds=>vF v2 fun es=>Q E2 ((ds.zip es).map fun p=>.tuple [p.1,p.2])))
def bB {α:Type}{o:Option α}{Q:α->Prop}:(∃ a,o=some a/\Q a)=aB o Q:=by
 cases o with
 | none=>exact propext ⟨fun ⟨a,e,_⟩=>(by cases e),fun h=>h.elim⟩
 | some a=>exact propext ⟨fun ⟨b,e,q⟩=>by cases e;exact q,fun h=>⟨a,rfl,h⟩⟩
def dH {b:Bool}{P:Prop}:bK b P=(b=true/\P):=by
 cases b with
 | true=>exact propext ⟨fun h=>⟨rfl,h⟩,fun h=>h.2⟩
 | false=>exact propext ⟨fun h=>h.elim,fun h=>by cases h.1⟩
universe u
def bZ {α:Sort u}{b:Bool}{x y:α}:dg b x y=if b=true then x else y:=by cases b <;> rfl
def Aa {E:En}{i:Nat}:rF E i=dD E i:=by
 unfold rF dD;split
 ·rw [bZ]
 ·rfl
theorem rH:∀ {is:VV}{E:En},jK is E=dX is E
 | [],_=>rfl
 | i::r,E=>by
  rw [jK,dX,Aa];congr 1;funext E1;exact rH
theorem fE:∀ {as:List Arg}{E:En}{os:VZ},cL as E os=fill as E os
 | [],_,[]=>rfl
 | [],_,_::_=>rfl
 | .pk i::r,E,none::os=>by
  rw [cL,fill,fE];split
  ·rw [bZ]
  ·rfl
 | .ev _::r,E,some v::os=>by rw [cL,fill,fE]
 | .pk _::_,_,[]=>rfl
 | .pk _::_,_,some _::_=>rfl
 | .ev _::_,_,[]=>rfl
 | .ev _::_,_,none::_=>rfl
def Ao {as:List Arg}{E:En}{k:Kd}{v:PyData}:q8 as E k v=OF as E k v:=by
 unfold q8 OF;rw [bZ,rH]
theorem uw {i:Nat}:∀ {l:VV},lY i l=l.contains i
 | []=>rfl
 | j::r=>by rw [lY,List.contains_cons,uw]
theorem z6 {ks:VV}{E:En}:∀ {l:VV},pU l ks E=(decide l.Nodup && l.all fun i=>!ks.contains i && jw E i)
 | []=>rfl
 | i::r=>by
  rw [pU,z6,uw,uw,QM];have:decide (i::r).Nodup=(!r.contains i && decide r.Nodup):=by
   rw [Ro];simp [SQ]
  rw [this];cases ks.contains i <;> cases r.contains i <;> cases jw E i <;> cases decide r.Nodup <;> rfl
def GF {ms:VS}{as:List Arg}{E:En}:sF ms as E=yJ ms as E:=by
 unfold sF yJ;rw [z6,Bool.and_assoc];rfl
theorem uA:∀ {ms:VS}{as:List Arg}{us:VO}{E:En},kc ms as us E=rY ms as us E
 | [],[],[],E=>rfl
 | [],[],_::_,E=>rfl
 | [],_::_,_,E=>rfl
 | false::ms,_::r,us,E=>by rw [kc,rY,uA]
 | false::ms,[],us,E=>rfl
 | true::ms,[],us,E=>rfl
 | true::ms,.ev _::_,us,E=>rfl
 | true::ms,.pk i::r,[],E=>rfl
 | true::ms,.pk i::r,u::us,E=>by
  rw [kc,rY];split
  ·rw [bZ,uA]
  ·rfl
def Ga {ms:VS}{as:List Arg}{us:VO}{E:En}{k:Kd}{v:PyData}:tE ms as us E k v=MM ms as us E k v:=by
 unfold tE MM;rw [bZ,rH]
def BQ {v:PyData}{Q:Bool->Prop}:(∃ b,lG v=some b/\Q b)=tN v Q:=bB
def HK {v:PyData}{Q:Bool->Prop}:(∃ b,v=.bool b/\Q b)=Ab v Q:=by
 cases v with
 | bool b=>exact propext ⟨fun ⟨c,e,q⟩=>by cases e;exact q,fun h=>⟨b,rfl,h⟩⟩
 | _=>exact propext ⟨fun ⟨c,e,_⟩=>(by cases e),fun h=>h.elim⟩
def HU {v:PyData}{Q:Int->Prop}:(∃ b,v=.int b/\Q b)=qJ v Q:=by
 cases v with
 | int b=>exact propext ⟨fun ⟨c,e,q⟩=>by cases e;exact q,fun h=>⟨b,rfl,h⟩⟩
 | _=>exact propext ⟨fun ⟨c,e,_⟩=>(by cases e),fun h=>h.elim⟩
def NG {v:PyData}{Q:VO->Prop}:(∃ b,v=.list b/\Q b)=vF v Q:=by
 cases v with
 | list b=>exact propext ⟨fun ⟨c,e,q⟩=>by cases e;exact q,fun h=>⟨b,rfl,h⟩⟩
 | _=>exact propext ⟨fun ⟨c,e,_⟩=>(by cases e),fun h=>h.elim⟩
def ku {E:En}{i:Nat}:gh E i=bL E i:=by
 unfold bL gh bu;generalize E[i]?=z;rcases z with _ | _ | ⟨k,d⟩ <;> rfl
theorem Ds:∀ {is:VV}{ds:VO}{E:En},stK is ds E=bQ is ds E
 | [],[],E=>rfl
 | [],_::_,E=>rfl
 | _::_,[],E=>rfl
 | i::is,d::ds,E=>by rw [stK,bQ,bZ,Ds,ku]
def xq {n:Nat}{i:Int}:wH n i=kG n i:=by
 cases i with
 | ofNat k =>
  unfold wH kG;show dg (Nat.blt k n) (some k) none=_;rw [if_pos (show (0:Int)<=Int.ofNat k from Int.natCast_nonneg k),bZ]
  have:(Nat.blt k n=true)=((Int.ofNat k) < (n:Int)):=propext ⟨fun h=>Sq.mpr (Nat.blt_eq.mp h),fun h=>Nat.blt_eq.mpr (Sq.mp h)⟩
  simp only [this];rfl
 | negSucc k=>rfl
def JU {d:DE}:aX d=Lz d:=by
 funext x E Q;unfold aX Lz;simp only [BQ]
def Aj {a b:DE}:rS a b=LM a b:=by
 funext x E Q;unfold rS LM;simp only [HK,bZ]
def K7 {a b:DE}:zd a b=Ou a b:=by
 funext x E Q;unfold zd Ou;simp only [HK,bZ]
def JE {a:DE}:uG a=Mz a:=by
 funext x E Q;unfold uG Mz;simp only [BQ]
def Cr {f f':VH}{a b c:DE}:mY f f' a b c=Eg f f' a b c:=by
 funext x E Q;unfold mY Eg;simp only [HU,bZ]
def MK {c:DT}{a b:DE}:vB c a b=OC c a b:=by
 funext x E Q;unfold vB OC;simp only [bZ]
def Jk {c:DT}{a b:DS}:cK c a b=LA c a b:=by
 funext D E;unfold cK LA;simp only [bZ]
def ug {i:Nat}{e:DE}:aC i e=LG i e:=by
 funext D E;unfold aC LG;simp only [dH,ku]
def N7 {e:DE}:iE e=oE e:=by
 funext x E Q;unfold iE oE;simp only [dH,bB];rfl
def LD {e:DE}:vt e=Ox e:=by
 funext x E Q;unfold vt Ox;simp only [dH,NG]
end Dv
namespace L2
open PySem PySem.Spec PyProof.Rows
abbrev Key:=Sum Int Str
def qb:Key->Value->Bool
 | .inl k,v=>Value.isInt k v
 | .inr x,v=>Value.isStrOf x v
def PC (w:World):Key->Int
 | .inl k=>hashInt k
 | .inr x=>hashStr w x
def cQ:∀ {k:Key}{v:Value},qb k v=true->(∃ i t,k=Sum.inl i/\v=Value.int i t)\/(∃ x t,k=Sum.inr x/\v=Value.str x t)
 | .inl i,v,h=>by
  obtain ⟨t,e⟩:=Value.isInt_shape (k:=i) (v:=v) h;exact .inl ⟨i,t,rfl,e⟩
 | .inr x,v,h=>by
  obtain ⟨t,e⟩:=Value.isStrOf_shape (x:=x) (v:=v) h;exact .inr ⟨x,t,rfl,e⟩
def E8 (i:Int)(t:Tok):qb (.inl i) (.int i t)=true:=by simp [qb,Value.isInt]
def Eh (x:Str)(t:Tok):qb (.inr x) (.str x t)=true:=by simp [qb,Value.isStrOf]
def KR (a b:Int):decide ((Sum.inl a:Key)=Sum.inl b)=(a == b):=by
 by_cases e:a=b
 ·subst e;simp
 ·have h:¬ (Sum.inl a:Key)=Sum.inl b:=fun q=>e (Sum.inl.inj q)
  rw [Rf h];exact (beq_eq_false_iff_ne.mpr e).symm
def KN (a b:Str):decide ((Sum.inr a:Key)=Sum.inr b)=decide (a=b):=by
 by_cases e:a=b
 ·subst e;simp
 ·have h:¬ (Sum.inr a:Key)=Sum.inr b:=fun q=>e (Sum.inr.inj q)
  rw [Rf h,Rf e]
def Lg (a:Int) (b:Str):decide ((Sum.inl a:Key)=Sum.inr b)=false:=Rf (fun q=>nomatch q)
def MN (a:Str) (b:Int):decide ((Sum.inr a:Key)=Sum.inl b)=false:=Rf (fun q=>nomatch q)
def cT (prog:Program)(w:World):PySem.KeyKind prog w Key where
 is:=qb
 hash:=PC w
 inj:=fun v a b ha hb=>by
  rcases cQ ha with ⟨i,t,rfl,rfl⟩ | ⟨x,t,rfl,rfl⟩
  ·rcases cQ hb with ⟨j,u,rfl,e⟩ | ⟨y,u,rfl,e⟩
   ·injection e with e1 _;rw [e1]
   ·exact nomatch e
  ·rcases cQ hb with ⟨j,u,rfl,e⟩ | ⟨y,u,rfl,e⟩
   ·exact nomatch e
   ·injection e with e1 _;rw [e1]
 byValue:=fun k v h=>by
  rcases cQ h with ⟨i,t,rfl,rfl⟩ | ⟨x,t,rfl,rfl⟩ <;> rfl
 pyHash:=fun hv h=>by
  rcases cQ hv with ⟨i,t,rfl,rfl⟩ | ⟨x,t,rfl,rfl⟩
  ·exact wpAny_pyHash_int h
  ·exact wpAny_pyHash_str h
 eqBool:=fun hu hv h=>by
  rcases cQ hu with ⟨i,t,rfl,rfl⟩ | ⟨x,t,rfl,rfl⟩
  ·rcases cQ hv with ⟨j,u,rfl,rfl⟩ | ⟨y,u,rfl,rfl⟩
   ·rw [KR] at h;exact wpAny_eqBool_int h
   ·rw [Lg] at h;exact SeqAt.EqAt.int_str i t y u _ _ _ _ h
  ·rcases cQ hv with ⟨j,u,rfl,rfl⟩ | ⟨y,u,rfl,rfl⟩
   ·rw [MN] at h;exact SeqAt.EqAt.str_int x t j u _ _ _ _ h
   ·rw [KN] at h;exact wpAny_eqBool_str h
 «strs»:=fun k x t v h=>by
  rcases cQ h with ⟨i,u,rfl,e⟩ | ⟨y,u,rfl,e⟩
  ·exact nomatch e
  ·injection e with e1 _
   subst e1;cases v <;> rfl
def zG (prog:Program)(w:World) (i:Int)(t:Tok):(cT prog w).is (.inl i) (.int i t)=true:=E8 i t
def zF (prog:Program)(w:World) (x:Str)(t:Tok):(cT prog w).is (.inr x) (.str x t)=true:=Eh x t
set_option genInjectivity true in
inductive V where
 | bE | bl (b:Bool) | int (i:Int) | str (x:Str) | mH (b:Array UInt8) | Nf (b:UInt64) | ref (a:Addr) | ty (n:String)
 deriving DecidableEq
def RelV:V->Value->Prop
 | .bE,u=>u=Value.none
 | .bl b,u=>u=Value.bool b
 | .int i,u=>∃ t,u=Value.int i t
 | .str x,u=>∃ t,u=Value.str x t
 | .mH b,u=>∃ t,u=Value.bytes b t
 | .Nf b,u=>∃ t,u=Value.float b t
 | .ref a,u=>u=Value.ref a
 | .ty n,u=>u=Value.type n
abbrev Vals:List V->VQ->Prop:=Paired RelV
theorem Vals.length {xs:List V}{us:VQ}(r:Vals xs us):xs.length=us.length:=Paired.length r
theorem Vals.get:∀ {xs:List V}{us:VQ}{i:Nat}{x:V},Vals xs us->xs[i]?=some x->∃ u,us[i]?=some u/\RelV x u
 | _,_,_,_,.nil,e=>by simp at e
 | _,_,0,_,.cons r _,e=>by simp at e;subst e;exact ⟨_,rfl,r⟩
 | _,_,i + 1,x,.cons _ t,e=>by
  obtain ⟨u,h1,h2⟩:=Vals.get (i:=i) (x:=x) t (by simpa using e)
  exact ⟨u,by simpa using h1,h2⟩
theorem Vals.set {x:V}{u:Value}(r:RelV x u):∀ {xs:List V}{us:VQ} (i:Nat),Vals xs us->Vals (xs.set i x) (us.set i u)
 | _,_,_,.nil=>.nil
 | _,_,0,.cons _ t=>.cons r t
 | _,_,i + 1,.cons q t=>.cons q (Vals.set r i t)
theorem Vals.append:∀ {xs ys:List V}{us ws:VQ},Vals xs us->Vals ys ws->Vals (xs++ys) (us++ws)
 | _,_,_,_,.nil,s=>s
 | _,_,_,_,.cons r t,s=>.cons r (Vals.append t s)
theorem Vals.take:∀ {xs:List V}{us:VQ} (n:Nat),Vals xs us->Vals (xs.take n) (us.take n)
 | _,_,0,_=>.nil
 | _,_,_ + 1,.nil=>.nil
 | _,_,n + 1,.cons r t=>.cons r (Vals.take n t)
theorem Vals.drop:∀ {xs:List V}{us:VQ} (n:Nat),Vals xs us->Vals (xs.drop n) (us.drop n)
 | _,_,0,r=>r
 | _,_,_ + 1,.nil=>.nil
 | _,_,n + 1,.cons _ t=>Vals.drop n t
def lW:Option V->VM->Prop
 | some v,some u=>RelV v u
 | none,none=>True
 | _,_=>False
def KV {κ:Type}:List (κ×V)->List (κ×Value)->Prop:=Paired fun (p:κ×V)(q:κ×Value)=>p.1=q.1/\RelV p.2 q.2
def kV:Key->V
 | .inl i=>.int i
 | .inr x=>.str x
inductive HO where
 /-- a list -/
 | lst (xs:List V)
 /-- a tuple (never changes) -/
 | tup (xs:List V)
 /-- a dict whose keys are ints and texts;one whose keys are tuples of ints and texts (the empty one is both) -/
 | dK (kvs:List (Key×V)) | dT (kvs:List (List Key×V))
 /-- a set of ints: its members,its size -/
 | set (S:Int->Bool) (n:Nat)
 /-- an instance of the class at C,its dict at dx,its attributes -/
 | ins (C dx:Addr)(fs:List (Str×V))
 /-- the dict of the instance at x -/
 | own (x:Addr)
 /-- the dict of an exception -/
 | xd (fs:List (Str×V))
 /-- a bound method,f of x -/
 | met (f x:Addr)
 /-- a range object lo,lo + 1,.. below hi -/
 | qA (lo hi:Int)
 /-- a thing that is known to the object (the script;a dict while a loop walks it): read,never written while it is so -/
 | iI (o:Obj)(u:HO)
 /-- a code object's table -/
 | vK (ps:VN)
 /-- any other thing,by what is true of its one object (a def of one's own: SetO a S n:=HO.ext fun h=>..) -/
 | ext (φ:Heap->Prop)
abbrev Hp:=Addr->Option HO
def upd (H:Hp)(a:Addr)(o:HO):Hp:=fun b=>if b=a then some o else H b
def aL {H:Hp}{a:Addr}{o:HO}:upd H a o a=some o:=by unfold upd;rw [if_pos rfl]
def au {H:Hp}{a b:Addr}{o:HO}(h:b≠a):upd H a o b=H b:=by unfold upd;rw [if_neg h]
def Oi {H:Hp}{a b:Addr}{o u:HO}(h:H a=some o)(h':H b=some u)(d:o≠u):a≠b:=by
 intro e;subst e;rw [h] at h';exact d (Option.some.inj h')
def gx {H:Hp}{a b:Addr}{o:HO}(h:H a=some o)(h':H b=none):a≠b:=by
 intro e;subst e;rw [h] at h';cases h'
section
variable (P:Program)(w:World)
def cI (H:Hp)(h:Heap)(a:Addr):HO->Prop
 | .lst xs=>xs.length<=sizeLine/\∃ (its:VQ) (n:Nat),Vals xs its/\h.get? a=some { cls:=.type "list",data:=.seq its.toArray n }
 | .tup xs=>xs.length<=sizeLine/\∃ its:VQ,Vals xs its/\IsTup h a its.toArray
 | .dK kvs=>kvs.length<=sizeLine/\(a == sysModules)=false/\∃ vs,KV kvs vs/\h.DictOf (cT P w) a vs
 | .dT kvs=>kvs.length<=sizeLine/\(a == sysModules)=false/\∃ xs:List (List Key×Addr×Value),
   Paired (fun (p:List Key×V)(q:List Key×Addr×Value)=>p.1=q.1/\H q.2.1=some (.tup (p.1.map kV))/\RelV p.2 q.2.2) kvs xs /\
   ∃ o es ep,h.get? a=some o/\o.ExactDict/\o.data=.dict es ep/\es.toList=xs.map (entryOfKey (tupleKind (cT P w)))/\(xs.map (·.1)).Nodup
 | .set S n=>h.SetOf (intKind P w) a S n
 | .ins C dx fs=>H dx=some (.own a)/\fs.length<=1000/\dx≠a/\h.get? a=some (PySem.W.instObj C dx) /\
   ∃ mA,h.Ns1 dx mA/\(∀ f,lW (fs.lookup f) (mA f))/\PySem.Within mA (fs.map (·.1))
 | .own _=>∃ o,h.get? a=some o
 | .xd fs=>∃ mA,h.Ns1 a mA/\∀ f,lW (fs.lookup f) (mA f)
 | .qA lo hi=>∃ t u v,h.get? a=some { cls:=.type "range",data:=.fields #[.int lo t,.int hi u,.int 1 v] }
 | .iI o u=>h.get? a=some o/\cI H h a u
 | .vK ps=>h.get? a=some { cls:=.none,data:=.fields ps }
 | .met f x=>h.get? a=some (PySem.W.methodObj (.ref f) (.ref x))
 | .ext φ=>φ h/\(∃ o,h.get? a=some o)/\∀ h1 h2:Heap,φ h1->(∀ o,h1.get? a=some o->h2.get? a=some o)->φ h2
def dI (H:Hp)(h:Heap):Prop:=∀ a o,H a=some o->cI P w H h a o
end
section
variable {P:Program}{w:World}{H H':Hp}{h h':Heap}{a:Addr}{o:HO}
theorem cI.lt (x:cI P w H h a o):a < h.objs.size:=by
 cases o with
 | lst xs=>obtain ⟨_,_,_,_,e⟩:=x;exact QD e
 | tup xs=>obtain ⟨_,_,_,p⟩:=x;exact p.lt
 | dK kvs=>obtain ⟨_,_,_,_,o,_,_,e,_⟩:=x;exact QD e
 | dT kvs=>obtain ⟨_,_,_,_,o,_,_,e,_⟩:=x;exact QD e
 | set S n=>obtain ⟨o,_,_,_,e,_⟩:=x;exact QD e
 | ins C dx fs=>obtain ⟨_,_,_,e,_⟩:=x;exact QD e
 | own y=>obtain ⟨_,e⟩:=x;exact QD e
 | xd fs=>obtain ⟨_,⟨_,_,_,e,_⟩,_⟩:=x;exact QD e
 | qA lo hi=>obtain ⟨_,_,_,e⟩:=x;exact QD e
 | iI ob u=>obtain ⟨e,_⟩:=x;exact QD e
 | vK ps=>exact QD (show h.get? a=some _ from x)
 | met f y=>exact QD (show h.get? a=some _ from x)
 | ext φ=>obtain ⟨_,⟨_,e⟩,_⟩:=x;exact QD e
theorem Paired.GL {α β:Type}{F G:α->β->Prop}:∀ {l₁:List α}{l₂:List β},Paired F l₁ l₂->(∀ a b,F a b->G a b)->Paired G l₁ l₂
 | _,_,.nil,_=>.nil
 | _,_,.cons r t,f=>.cons (f _ _ r) (Paired.GL t f)
def cI.stay (x:cI P w H h a o)(k:∀ b u,(b=a\/H b=some (.own a))->h.get? b=some u->h'.get? b=some u)
  (ho:∀ b,H b=some (.own a)->H' b=some (.own a))(ht:∀ b xs,H b=some (.tup xs)->H' b=some (.tup xs)):cI P w H' h' a o:=by
 induction o with
 | lst xs=>obtain ⟨z,its,n,r,e⟩:=x;exact ⟨z,its,n,r,k _ _ (.inl rfl) e⟩
 | tup xs=>obtain ⟨z,its,r,ob,e,c⟩:=x;exact ⟨z,its,r,ob,k _ _ (.inl rfl) e,c⟩
 | dK kvs=>obtain ⟨z,y,vs,r,ob,es,ep,e,c⟩:=x;exact ⟨z,y,vs,r,ob,es,ep,k _ _ (.inl rfl) e,c⟩
 | dT kvs =>
  obtain ⟨z,y,xs,r,ob,es,ep,e,c⟩:=x;exact ⟨z,y,xs,Paired.GL r fun p q z=>⟨z.1,ht _ _ z.2.1,z.2.2⟩,ob,es,ep,k _ _ (.inl rfl) e,c⟩
 | set S n=>obtain ⟨ob,es,ep,t,e,c⟩:=x;exact ⟨ob,es,ep,t,k _ _ (.inl rfl) e,c⟩
 | ins C dx fs =>
  obtain ⟨d,z,ne,e,mA,⟨od,es,ep,e2,c⟩,r⟩:=x;exact ⟨ho _ d,z,ne,k _ _ (.inl rfl) e,mA,⟨od,es,ep,k _ _ (.inr d) e2,c⟩,r⟩
 | own y=>obtain ⟨ob,e⟩:=x;exact ⟨ob,k _ _ (.inl rfl) e⟩
 | xd fs=>obtain ⟨mA,⟨od,es,ep,e,c⟩,r⟩:=x;exact ⟨mA,⟨od,es,ep,k _ _ (.inl rfl) e,c⟩,r⟩
 | qA lo hi=>obtain ⟨t,u,v,e⟩:=x;exact ⟨t,u,v,k _ _ (.inl rfl) e⟩
 | iI ob u ih=>obtain ⟨e,q⟩:=x;exact ⟨k _ _ (.inl rfl) e,ih q⟩
 | vK ps =>
  have e:h.get? a=some { cls:=.none,data:=.fields ps }:=x;show h'.get? a=some { cls:=.none,data:=.fields ps };exact k a _ (.inl rfl) e
 | met f y =>
  have e:h.get? a=some (PySem.W.methodObj (.ref f) (.ref y)):=x;show h'.get? a=some (PySem.W.methodObj (.ref f) (.ref y));exact k a _ (.inl rfl) e
 | ext φ=>obtain ⟨p,⟨o,e⟩,st⟩:=x;exact ⟨st _ _ p fun o q=>k _ _ (.inl rfl) q,⟨o,k _ _ (.inl rfl) e⟩,st⟩
theorem dI.lt (x:dI P w H h)(e:H a=some o):a < h.objs.size:=(x a o e).lt
def dI.fresh (x:dI P w H h)(e:h.objs.size<=a):H a=none:=by
 cases q:H a with
 | none=>rfl
 | some u=>exact absurd (QT (x.lt q) e) (R9 _)
def dI.kept (x:dI P w H h)(k:∀ b u,h.get? b=some u->h'.get? b=some u):dI P w H h':=fun a o e =>
 (x a o e).stay (fun b u _ q=>k b u q) (fun _ q=>q) fun _ _ q=>q
def dI.laid (x:dI P w H h)(k:∀ b u,h.get? b=some u->h'.get? b=some u)(hp:h.objs.size<=a)(new:cI P w (upd H a o) h' a o):dI P w (upd H a o) h':=fun b u e=>by
 have hn:=x.fresh hp
 by_cases hb:b=a
 ·subst hb;rw [aL] at e;cases e;exact new
 ·rw [au hb] at e;exact (x b u e).stay (fun c v _ q=>k c v q) (fun c q=>by rw [au (gx q hn)];exact q) fun c xs q=>by rw [au (gx q hn)];exact q
end
def Rd (H:Hp)(a:Addr)(u:HO):Prop:=H a=some u\/∃ o,H a=some (.iI o u)
def Rd.ok {P:Program}{w:World}{H:Hp}{h:Heap}{a:Addr}{u:HO}(r:Rd H a u)(x:dI P w H h):cI P w H h a u:=by
 rcases r with r | ⟨o,r⟩
 ·exact x a u r
 ·obtain ⟨_,q⟩:=x a _ r;exact q
def ED:Option HO->Prop
 | some (.lst _)=>True
 | some (.dK _)=>True
 | some (.dT _)=>True
 | some (.set _ _)=>True
 | some (.ins _ _ _)=>True
 | some (.ext _)=>True
 | _=>False
section
variable {P:Program}{w:World}{H:Hp}{h h':Heap}{x e:Addr}{o':HO}
def dI.write (ok:dI P w H h)(mu:ED (H x))(he:e=x\/H e=some (.own x))(k:∀ b u,b≠e->h.get? b=some u->h'.get? b=some u)(heo:∃ u,h'.get? e=some u)
  (new:cI P w (upd H x o') h' x o'):dI P w (upd H x o') h':=fun b u q=>by
 have nown:∀ c y,H c=some (.own y)->c≠x:=fun c y r z=>by subst z;rw [r] at mu;exact mu
 have ntup:∀ c xs,H c=some (.tup xs)->c≠x:=fun c xs r z=>by subst z;rw [r] at mu;exact mu
 by_cases hb:b=x
 ·subst hb;rw [aL] at q;cases q;exact new
 ·rw [au hb] at q
  by_cases hbe:b=e
  ·have q':H b=some (.own x):=by
    rcases he with z | z
    ·exact absurd (hbe.trans z) hb
    ·rw [hbe];exact z
   rw [q] at q';cases q';obtain ⟨v,hv⟩:=heo;exact ⟨v,by rw [hbe];exact hv⟩
  ·refine (ok b u q).stay (fun c v hc r=>k c v ?_ r) (fun c r=>by rw [au (nown c b r)];exact r) fun c xs r=>by rw [au (ntup c xs r)];exact r
   rcases hc with rfl | hc
   ·exact hbe
   ·rintro rfl;rcases he with z | z
    ·exact nown c b hc z
    ·rw [hc] at z;cases z;exact hb rfl
end
structure Un (fs ex:VR)(H H':Hp)(h h':Heap):Prop where
 keep:∀ b o,h.get? b=some o->H b=none->b∉fs->b∉ex->h'.get? b=some o
 slot:∀ b o,h.get? b=some o->H b=none->b∈fs->b∉ex->∃ sl,h'.get? b=some { o with slots:=sl }
 free:∀ b o,h.get? b=some o->H b=none->b∉ex->H' b=none
 there:∀ b o,h.get? b=some o->b∉ex->∃ o',h'.get? b=some o'
 tups:∀ b xs,H b=some (.tup xs)->H' b=some (.tup xs)
 jB:∀ b o u,H b=some (.iI o u)->H' b=some (.iI o u)
 jZ:∀ b ps,H b=some (.vK ps)->∃ more,H' b=some (.vK (ps++more))
section
variable {fs fs' ex ex':VR}{H H1 H2:Hp}{h h1 h2 h':Heap}{a x e:Addr}{o:HO}
def Un.any (u:Un fs ex H H1 h h1){b:Addr}{ob:Obj}(q:h.get? b=some ob)(n:H b=none)(hx:b∉ex):∃ sl,h1.get? b=some { ob with slots:=sl }:=by
 by_cases hb:b∈fs
 ·exact u.slot b ob q n hb hx
 ·exact ⟨ob.slots,u.keep b ob q n hb hx⟩
def Un.kept (k:∀ b u,h.get? b=some u->h'.get? b=some u):Un fs ex H H h h' :=
 ⟨fun b ob q _ _ _=>k b ob q,fun b ob q _ _ _=>⟨ob.slots,k b ob q⟩,fun _ _ _ n _=>n,fun b ob q _=>⟨ob,k b ob q⟩,fun _ _ q=>q,fun _ _ _ q=>q,fun _ ps q=>⟨#[],by rw [q];simp⟩⟩
def Un.refl:Un fs ex H H h h:=Un.kept fun _ _ q=>q
def Un.laid (k:∀ b u,h.get? b=some u->h'.get? b=some u)(hp:h.objs.size<=a)(hn:H a=none):Un fs ex H (upd H a o) h h' where
 keep:=fun b u q _ _ _=>k b u q
 slot:=fun b u q _ _ _=>⟨u.slots,k b u q⟩
 free:=fun b u q n _=>by rw [au (QG (QT (QD q) hp))];exact n
 there:=fun b u q _=>⟨u,k b u q⟩
 tups:=fun b xs q=>by rw [au (gx q hn)];exact q
 jB:=fun b u xs q=>by rw [au (gx q hn)];exact q
 jZ:=fun b ps q=>⟨#[],by rw [au (gx q hn),q];simp⟩
def Un.write (mu:ED (H x))(he:e=x\/H e=some (.own x))(k:∀ b u,b≠e->h.get? b=some u->h'.get? b=some u)(heo:∃ u,h'.get? e=some u):Un fs ex H (upd H x o) h h':=by
 have hx:∀ b,H b=none->b≠x:=fun b n z=>by subst z;rw [n] at mu;exact mu
 have hb:∀ b,H b=none->b≠e:=fun b n z=>by
  subst z;rcases he with r | r
  ·exact hx b n r
  ·rw [n] at r;cases r
 have hm:∀ b u,H b=some u->¬ ED (some u)->b≠x:=fun b u q nm z=>by subst z;rw [q] at mu;exact nm mu
 refine ⟨fun b u q n _ _=>k b u (hb b n) q,fun b u q n _ _=>⟨u.slots,k b u (hb b n) q⟩,fun b u q n _=>by rw [au (hx b n)];exact n,fun b u q _=>?_,
  fun b xs q=>by rw [au (hm b _ q fun z=>z)];exact q,fun b u xs q=>by rw [au (hm b _ q fun z=>z)];exact q,fun b ps q=>⟨#[],by rw [au (hm b _ q fun z=>z),q];simp⟩⟩
 by_cases hbe:b=e
 ·subst hbe;exact heo
 ·exact ⟨u,k b u hbe q⟩
end
def HR (h:Heap)(H:Hp):VR:=(List.range h.objs.size).filter fun a=>(H a).isSome
def nq (h:Heap)(H:Hp):Heap:=PySem.W.hideAll h (HR h H)
def DA (h:Heap)(H:Hp):(nq h H).objs.size=h.objs.size:=PySem.W.hideAll_size _ _
def Fi {h:Heap}{H:Hp}{b:Addr}{o:Obj}(e:h.get? b=some o)(n:H b=none):(nq h H).get? b=some o :=
 PySem.W.hideAll_get _ e fun hm=>by
  have q:(H b).isSome=true:=(QU.mp hm).2;rw [n] at q;simp at q
def IT {h:Heap}{H:Hp}{b:Addr}{o:Obj}(e:(nq h H).get? b=some o):h.get? b=some o/\H b=none:=by
 have e':h.get? b=some o:=PySem.W.of_hideAll (HR h H) e;refine ⟨e',?_⟩;cases q:H b with
 | none=>rfl
 | some x =>
  have hm:b∈HR h H:=QU.mpr ⟨Qv.mpr (QD e'),by simp [q]⟩
  have z:(nq h H).get? b=none:=PySem.W.hideAll_none (HR h H) hm;rw [z] at e;cases e
structure Mod (K:VL)(mg:VE)(base:Heap):Prop where
 xK:K.In base
 glob:base.Ns mainGlobals mg
 blt:∃ mb,base.Ns builtinsNs mb/\∀ x:Str,x≠"__name__"->mb x=bootBuiltins x
 nolimit:base.NoLimit
structure Cx where
 prog:Program
 w:World
 K:VL
 mg:VE
 base:Heap
 A:Around
 N:VX
 s₀:Shared
 H₀:Hp
 env:Env
 outer:List Env
 stack:List Env
 ex:VR
 fn:Str->Bool
 calm:Bool
 pn:VF
 xe:VC
def frs (l:List Env):VR:=l.filterMap (·.frame)
abbrev Cx.fs (X:Cx):VR:=frs X.outer
def mX (sc:Scope) (x:Str):Prop:=sc.names.lookup x=some .local\/sc.names.lookup x=some .cell\/sc.names.lookup x=some .free
def Loc (sc:Scope) (x:Str):Prop:=sc.names.lookup x=some .local\/sc.names.lookup x=some .cell
def Look (env:Env)(h:Heap)(m:VE) (x:Str)(u:Value):Prop :=
 (env.kindOf x=some .local/\m x=some u)\/((env.kindOf x=some .cell\/env.kindOf x=some .free)/\∃ c,env.cells.lookup x=some c/\h.IsCell c (some u))
structure Cx.Ok (X:Cx):Prop where
 mod:Mod X.K X.mg X.base
 kind:X.env.scope.kind=.function
 glob:X.env.globals=mainGlobals
 blt:X.env.builtins=builtinsNs
 above:X.s₀.heap.objs.size<=X.env.locals
 inj:∀ x y c,X.env.cells.lookup x=some c->X.env.cells.lookup y=some c->x=y
 has:∀ x,(X.env.kindOf x=some .cell\/X.env.kindOf x=some .free)->∃ c,X.env.cells.lookup x=some c
 vj:∀ x c,X.fn x=true->X.env.cells.lookup x=some c->X.s₀.heap.objs.size<=c
 hd:X.calm=true->X.A.handled=none
 frames:X.A.frames=some X.stack
 stk:X.stack=X.outer\/(X.stack=X.env::X.outer/\X.env.frame=some X.env.locals)
 Dw:∀ b∈X.ex,b≠X.env.locals/\∀ x c,X.env.cells.lookup x=some c->c≠b
 bs:∀ b o,X.base.get? b=some o->X.s₀.heap.get? b=some o/\X.H₀ b=none
 oO:X.base.objs.size<=X.s₀.heap.objs.size
 nH:∀ b o,X.base.get? b=some o->b∉X.ex
 rG:∀ b∈X.ex,b∉X.fs
 iS:X.s₀.heap.FunFrames X.base X.outer
 sC:∀ b∈X.fs,X.H₀ b=none
structure Inv (X:Cx)(pins:VF)(U:List (Option V))(H:Hp)(s:Shared):Prop where
 ok:X.Ok
 os:s.os=X.s₀.os
 bare:AllBare s.gens
 base:Un X.fs X.ex X.H₀ H X.s₀.heap s.heap
 loc:∃ m,s.heap.Ns X.env.locals m/\∀ (i:Nat) (x:Str) (v:V),X.N[i]?=some x->U[i]?=some (some v)->mX X.env.scope x->∃ u,RelV v u/\Look X.env s.heap m x u
 cell:∀ x c,X.env.cells.lookup x=some c->∃ v,s.heap.IsCell c v
 free:H X.env.locals=none
 d9:∀ x c,X.env.cells.lookup x=some c->H c=none
 pin:∀ p∈X.pn++pins,s.heap.get? p.1=some p.2/\H p.1=none/\p.1≠X.env.locals/\p.1∉X.fs/\∀ v,p.2.data≠.cell v
 hok:dI X.prog X.w H s.heap
 len:U.length=X.N.length
section
variable {X:Cx}{pins:VF}{U:List (Option V)}{H H':Hp}{s:Shared}{h':Heap}
def Cx.Ok.Pp (ok:X.Ok){b:Addr}{o:Obj}(e:X.base.get? b=some o):b∉X.fs:=fun hb=>by
 have:=(ok.iS.mem hb).1;rw [e] at this;cases this
theorem Inv.bs (I:Inv X pins U H s):∀ b o,X.base.get? b=some o->s.heap.get? b=some o/\H b=none:=fun b o e =>
 ⟨I.base.keep b o (I.ok.bs b o e).1 (I.ok.bs b o e).2 (I.ok.Pp e) (I.ok.nH b o e),I.base.free b o (I.ok.bs b o e).1 (I.ok.bs b o e).2 (I.ok.nH b o e)⟩
def Inv.bk (I:Inv X pins U H s):∀ b o,X.base.get? b=some o->s.heap.get? b=some o:=fun b o e=>(I.bs b o e).1
theorem Inv.mod (I:Inv X pins U H s):Mod X.K X.mg X.base:=I.ok.mod
def Inv.qG (I:Inv X pins U H s):X.K.In s.heap:=I.ok.mod.xK.keeps I.bk
theorem Inv.lt (I:Inv X pins U H s):X.env.locals < s.heap.objs.size:=let ⟨_,hn,_⟩:=I.loc;hn.lt
def Inv.sz (I:Inv X pins U H s):X.s₀.heap.objs.size<=s.heap.objs.size:=QW I.ok.above (Ry I.lt)
def Inv.Gg (I:Inv X pins U H s){a:Addr}(h:s.heap.objs.size<=a):a∉X.fs:=fun hb=>by
 obtain ⟨_,o,ho,_⟩:=I.ok.iS.mem hb;exact absurd (QT (QD ho) (QW I.sz h)) (R9 _)
def Inv.yd (I:Inv X pins U H s):∀ x c,X.env.cells.lookup x=some c->c≠X.env.locals:=fun x c e z=>by
 obtain ⟨v,o,ho,hd⟩:=I.cell x c e;obtain ⟨m,⟨o',es,ep,ho',hd',_⟩,_⟩:=I.loc;rw [z,ho'] at ho;cases ho;rw [hd'] at hd;cases hd
theorem Inv.iS (I:Inv X pins U H s):s.heap.FunFrames X.base X.outer:=by
 have all:∀ (l:List Env),(∀ b∈frs l,b∈X.fs)->X.s₀.heap.FunFrames X.base l->s.heap.FunFrames X.base l:=by
  intro l
  induction l with
  | nil=>intro _ _;trivial
  | cons env r ih =>
   intro hs hl;obtain ⟨hk,⟨L,o,hf,hn,ho,hd⟩,hr⟩:=hl;have hL:L∈X.fs:=hs L (by unfold frs;rw [RM,hf];exact Q2)
   obtain ⟨sl,e⟩:=I.base.slot L o ho (I.ok.sC L hL) hL fun z=>I.ok.rG L z hL
   exact ⟨hk,⟨L,_,hf,hn,e,hd⟩,ih (fun b hb=>hs b (by unfold frs;rw [RM,hf];exact Q7 _ hb)) hr⟩
 exact all X.outer (fun _ hb=>hb) I.ok.iS
theorem Inv.stack (I:Inv X pins U H s):s.heap.FunFrames X.base X.stack:=by
 rcases I.ok.stk with e | ⟨e,hf⟩
 ·rw [e];exact I.iS
 ·rw [e];obtain ⟨m,hn,_⟩:=I.loc;refine .cons (by rw [I.ok.kind];decide) hf hn ?_ I.iS
  exact TU (QW I.ok.oO I.ok.above)
def Inv.ja (I:Inv X pins U H s):∀ b∈frs X.stack,b∈X.env.locals::X.fs:=fun b hb=>by
 rcases I.ok.stk with e | ⟨e,hf⟩
 ·rw [e] at hb;exact Q7 _ hb
 ·rw [e] at hb;unfold frs at hb;rw [RM,hf] at hb;exact hb
def Inv.mG (I:Inv X pins U H s):∀ b∈frs X.stack,H b=none:=fun b hb=>by
 rcases Q9.mp (I.ja b hb) with e | hb
 ·rw [e];exact I.free
 ·obtain ⟨_,o,ho,_⟩:=I.ok.iS.mem hb;exact I.base.free b o ho (I.ok.sC b hb) fun z=>I.ok.rG b z hb
def Inv.step {g':Array GenState}{t':Nat}{d':Drawn}{ch:VR}(I:Inv X pins U H s)
  (hch:∀ b∈ch,(b∈X.ex\/X.s₀.heap.objs.size<=b)/\b≠X.env.locals/\(∀ x c,X.env.cells.lookup x=some c->c≠b)/\∀ p∈X.pn++pins,p.1≠b)
  (keep:∀ b o,b≠X.env.locals->b∉X.fs->b∉ch->s.heap.get? b=some o->H b=none->h'.get? b=some o)
  (slot:∀ b o,b≠X.env.locals->b∈X.fs->b∉ch->s.heap.get? b=some o->H b=none->∃ sl,h'.get? b=some { o with slots:=sl })(free:∀ b o,b∉ch->s.heap.get? b=some o->H b=none->H' b=none)
  (there:∀ b o,b∉ch->s.heap.get? b=some o->∃ o',h'.get? b=some o')
  (tups:∀ b xs,H b=some (.tup xs)->H' b=some (.tup xs))(jB:∀ b o u,H b=some (.iI o u)->H' b=some (.iI o u))(jZ:∀ b ps,H b=some (.vK ps)->∃ more,H' b=some (.vK (ps++more)))
  (ns:∀ m,s.heap.Ns X.env.locals m->h'.Ns X.env.locals m)(hok:dI X.prog X.w H' h')(hg:AllBare g') :
  Inv X pins U H' { s with heap:=h',gens:=g',drawn:=d',toks:=t' }:=by
 have neL:∀ b o,X.s₀.heap.get? b=some o->b≠X.env.locals:=fun b o e=>QG (QT (QD e) I.ok.above)
 have neC:∀ b o,X.s₀.heap.get? b=some o->b∉X.ex->b∉ch:=fun b o e hx hb=>by
  rcases (hch b hb).1 with z | z
  ·exact hx z
  ·exact absurd (QT (QD e) z) (R9 _)
 have cellK:∀ x c,X.env.cells.lookup x=some c->∀ v,s.heap.IsCell c v->h'.IsCell c v:=fun x c e v ⟨o,ho,hd⟩=>by
  have nch:c∉ch:=fun z=>(hch c z).2.2.1 x c e rfl
  by_cases hc:c∈X.fs
  ·obtain ⟨sl,q⟩:=slot c o (I.yd x c e) hc nch ho (I.d9 x c e);exact ⟨_,q,hd⟩
  ·exact ⟨o,keep c o (I.yd x c e) hc nch ho (I.d9 x c e),hd⟩
 refine ⟨I.ok,I.os,hg,⟨fun b o e n hb hx=>?_,fun b o e n hb hx=>?_,fun b o e n hx=>?_,fun b o e hx=>?_,fun b xs e=>tups b xs (I.base.tups b xs e),fun b o xs e=>jB b o xs (I.base.jB b o xs e),fun b ps e=>?_⟩,?_,fun x c e=>?_,?_,fun x c e=>?_,fun p hp=>?_,hok,I.len⟩
 ·exact keep b o (neL b o e) hb (neC b o e hx) (I.base.keep b o e n hb hx) (I.base.free b o e n hx)
 ·obtain ⟨sl,e1⟩:=I.base.slot b o e n hb hx;obtain ⟨sl',e2⟩:=slot b _ (neL b o e) hb (neC b o e hx) e1 (I.base.free b o e n hx);exact ⟨sl',e2⟩
 ·obtain ⟨o',e1⟩:=I.base.there b o e hx;exact free b o' (neC b o e hx) e1 (I.base.free b o e n hx)
 ·obtain ⟨o',e1⟩:=I.base.there b o e hx;exact there b o' (neC b o e hx) e1
 ·obtain ⟨m1,e1⟩:=I.base.jZ b ps e;obtain ⟨m2,e2⟩:=jZ b _ e1;exact ⟨m1++m2,by rw [e2,Array.append_assoc]⟩
 ·obtain ⟨m,hn,hl⟩:=I.loc;refine ⟨m,ns m hn,fun i x v e1 e2 e3=>?_⟩
  obtain ⟨u,r,l⟩:=hl i x v e1 e2 e3;refine ⟨u,r,?_⟩;rcases l with l | ⟨k,c,e,z⟩
  ·exact .inl l
  ·exact .inr ⟨k,c,e,cellK x c e _ z⟩
 ·obtain ⟨v,z⟩:=I.cell x c e;exact ⟨v,cellK x c e v z⟩
 ·obtain ⟨m,⟨o,_,_,ho,_⟩,_⟩:=I.loc;exact free _ o (fun z=>(hch _ z).2.1 rfl) ho I.free
 ·obtain ⟨v,o,ho,hd⟩:=I.cell x c e;exact free c o (fun z=>(hch c z).2.2.1 x c e rfl) ho (I.d9 x c e)
 ·obtain ⟨e,n,ne,nf,d⟩:=I.pin p hp;have nch:p.1∉ch:=fun z=>(hch p.1 z).2.2.2 p hp rfl
  exact ⟨keep p.1 p.2 ne nf nch e n,free p.1 p.2 nch e n,ne,nf,d⟩
def Inv.un {t':Nat}(I:Inv X pins U H s)(u:Un X.fs [] H H' s.heap h')(hok:dI X.prog X.w H' h'):Inv X pins U H' { s with heap:=h',toks:=t' }:=by
 obtain ⟨m,⟨o,es,ep,ho,r⟩,_⟩:=id I.loc;obtain ⟨sl,hL⟩:=u.any ho I.free (by simp)
 exact I.step (g':=s.gens) (d':=s.drawn) (ch:=[]) (fun _ z=>nomatch z) (fun b o _ hb _ e n=>u.keep b o e n hb (by simp)) (fun b o _ hb _ e n=>u.slot b o e n hb (by simp)) (fun b o _ e n=>u.free b o e n (by simp)) (fun b o _ e=>u.there b o e (by simp)) u.tups u.jB u.jZ (fun m' hm=>by
  obtain ⟨o',es',ep',ho',r'⟩:=hm;rw [ho] at ho';cases ho';exact ⟨_,es',ep',hL,r'⟩) hok I.bare
def Inv.call {g':Array GenState}{t':Nat}{d':Drawn}{ch:VR}(I:Inv X pins U H s)(u:Un (frs X.stack) ch H H' s.heap h')(hok:dI X.prog X.w H' h')(hg:AllBare g')
  (hch:∀ b∈ch,(b∈X.ex\/X.s₀.heap.objs.size<=b)/\b≠X.env.locals/\(∀ x c,X.env.cells.lookup x=some c->c≠b)/\∀ p∈X.pn++pins,p.1≠b) :
  Inv X pins U H' { s with heap:=h',gens:=g',drawn:=d',toks:=t' }:=by
 obtain ⟨m,⟨o,es,ep,ho,r⟩,_⟩:=id I.loc;obtain ⟨sl,hL⟩:=u.any ho I.free fun z=>(hch _ z).2.1 rfl
 exact I.step (ch:=ch) hch (fun b o hL hb hc e n=>u.keep b o e n (fun z=>(Q9.mp (I.ja b z)).elim hL hb) hc) (fun b o _ _ hc e n=>u.any e n hc) (fun b o hc e n=>u.free b o e n hc) (fun b o hc e=>u.there b o e hc) u.tups u.jB u.jZ (fun m' hm=>by
  obtain ⟨o',es',ep',ho',r'⟩:=hm;rw [ho] at ho';cases ho';exact ⟨_,es',ep',hL,r'⟩) hok hg
def Inv.turned {t':Nat}{it:Addr}(I:Inv X pins U H s)(k:∀ b o,b≠it->s.heap.get? b=some o->h'.get? b=some o)(hn:H it=none)(hL:it≠X.env.locals)
  (h1:it∈X.ex\/X.s₀.heap.objs.size<=it)(h2:∀ x c,X.env.cells.lookup x=some c->c≠it)(h3:∀ p∈X.pn++pins,p.1≠it):Inv X pins U H { s with heap:=h',toks:=t' }:=by
 have nit:∀ b u,H b=some u->b≠it:=fun b u e z=>by rw [z,hn] at e;cases e
 refine I.step (g':=s.gens) (d':=s.drawn) (ch:=[it]) (fun b hb=>?_) (fun b o _ _ hc e _=>k b o (fun z=>hc (by simp [z])) e) (fun b o _ _ hc e _=>⟨o.slots,k b o (fun z=>hc (by simp [z])) e⟩) (fun _ _ _ _ n=>n)
  (fun b o hc e=>⟨o,k b o (fun z=>hc (by simp [z])) e⟩) (fun _ _ e=>e) (fun _ _ _ e=>e) (fun b ps e=>⟨#[],by rw [e];simp⟩) (fun m hm=>?_) (fun b u e=>?_) I.bare
 ·have e:b=it:=by simpa using hb
  subst e;exact ⟨h1,hL,h2,h3⟩
 ·obtain ⟨o,es,ep,ho,r⟩:=hm;exact ⟨o,es,ep,k _ o (Ne.symm hL) ho,r⟩
 ·refine (I.hok b u e).stay (fun c v hc q=>k c v ?_ q) (fun _ q=>q) fun _ _ q=>q
  rcases hc with z | z
  ·rw [z];exact nit b u e
  ·exact nit c _ z
def Inv.tok (I:Inv X pins U H s) (t:Nat):Inv X pins U H { s with toks:=t }:=I.un (h':=s.heap) (t':=t) Un.refl I.hok
theorem Inv.kept {t':Nat}(I:Inv X pins U H s)(k:∀ b u,s.heap.get? b=some u->h'.get? b=some u):Inv X pins U H { s with heap:=h',toks:=t' }:=I.un (Un.kept k) (I.hok.kept k)
theorem Inv.laid {a:Addr}{o:HO}{t':Nat}(I:Inv X pins U H s)(k:∀ b u,s.heap.get? b=some u->h'.get? b=some u)(hp:s.heap.objs.size<=a)(new:cI X.prog X.w (upd H a o) h' a o) :
  Inv X pins U (upd H a o) { s with heap:=h',toks:=t' }:=I.un (Un.laid k hp (I.hok.fresh hp)) (I.hok.laid k hp new)
theorem Inv.write {x e:Addr}{o:HO}{t':Nat}(I:Inv X pins U H s)(mu:ED (H x))(he:e=x\/H e=some (.own x))(k:∀ b u,b≠e->s.heap.get? b=some u->h'.get? b=some u)(heo:∃ u,h'.get? e=some u)
  (new:cI X.prog X.w (upd H x o) h' x o):Inv X pins U (upd H x o) { s with heap:=h',toks:=t' }:=I.un (Un.write mu he k heo) (I.hok.write mu he k heo new)
def Inv.jC {pins':VF}(I:Inv X pins U H s)(h:∀ p∈pins',s.heap.get? p.1=some p.2/\H p.1=none/\p.1≠X.env.locals/\p.1∉X.fs/\∀ v,p.2.data≠.cell v):Inv X pins' U H s :=
 ⟨I.ok,I.os,I.bare,I.base,I.loc,I.cell,I.free,I.d9,fun p hp=>(QA.mp hp).elim (fun z=>I.pin p (TV _ z)) (h p),I.hok,I.len⟩
def yU {N:VX}(hN:N.Nodup){i j:Nat}{x:Str}(a:N[i]?=some x)(b:N[j]?=some x):i=j:=by
 obtain ⟨h1,e1⟩:=RT.mp a;obtain ⟨h2,e2⟩:=RT.mp b;exact (List.getElem_inj hN).mp (e1.trans e2.symm)
def vD {M:Model}{A:Around}{E:VC}{i:Nat}{x:Str}{v:V}{u:Value}{Q:Unit->Shared->Prop}(I:Inv X pins U H s)(hN:X.N.Nodup)(hi:X.N[i]?=some x)(hx:Loc X.env.scope x)(r:RelV v u)
  (h:∀ s',Inv X pins (U.set i (some v)) H s'->(∃ a,Heap.SameBut a s.heap s'.heap/\(a=X.env.locals\/X.env.cells.lookup x=some a))->Q () s')(hf:X.fn x=true\/X.env.scope.names.lookup x=some .local:=by first | exact .inl rfl | exact .inr rfl | assumption):wpAny M A (storeName X.env x u) Q E s:=by
 obtain ⟨m,hn,hl⟩:=id I.loc;have hcls:(X.env.scope.kind == .class || (X.env.scope.kind == .module && X.env.locals != X.env.globals))=false:=by rw [I.ok.kind];rfl
 have hiσ:i < U.length:=by rw [I.len];exact (RT.mp hi).1
 have yd:=I.yd;have tracked:∀ {a:Addr}{h':Heap},(∃ o,s.heap.get? a=some o/\H a=none)->Heap.SameBut a s.heap h'->dI X.prog X.w H h':=fun {a h'} ha hs b ob e=>by
  obtain ⟨_,_,hfree⟩:=ha;refine (I.hok b ob e).stay (fun c w' hc q=>(hs.2 c ?_).trans q) (fun _ q=>q) fun _ _ q=>q
  rintro rfl;rcases hc with rfl | hc
  ·rw [hfree] at e;cases e
  ·rw [hfree] at hc;cases hc
 rcases hx with hk | hk
 ·refine wpAny_storeName_local hk hn (fun h' hn' hs=>?_) hcls
  obtain ⟨oL,_,_,hoL,_⟩:=id hn;refine h _ ⟨I.ok,I.os,I.bare,⟨fun b o e n hb hx=>?_,fun b o e n hb hx=>?_,I.base.free,fun b o e hx=>?_,I.base.tups,I.base.jB,I.base.jZ⟩,⟨_,hn',fun j y v' e1 e2 e3=>?_⟩,fun y c e=>?_,I.free,I.d9,fun p hp=>?_,tracked ⟨oL,hoL,I.free⟩ hs,by simpa using I.len⟩ ⟨_,hs,.inl rfl⟩
  ·exact (hs.2 b (QG (QT (QD e) I.ok.above))).trans (I.base.keep b o e n hb hx)
  ·obtain ⟨sl,e1⟩:=I.base.slot b o e n hb hx;exact ⟨sl,(hs.2 b (QG (QT (QD e) I.ok.above))).trans e1⟩
  ·obtain ⟨o',e1⟩:=I.base.there b o e hx;exact ⟨o',(hs.2 b (QG (QT (QD e) I.ok.above))).trans e1⟩
  ·by_cases hj:j=i
   ·subst hj;rw [hi] at e1;cases e1;rw [TX hiσ] at e2;cases e2;exact ⟨u,r,.inl ⟨hk,by simp⟩⟩
   ·rw [TY (Ne.symm hj)] at e2;obtain ⟨u',r',q⟩:=hl j y v' e1 e2 e3;refine ⟨u',r',?_⟩;rcases q with ⟨k,e⟩ | ⟨k,c,e,z⟩
    ·refine .inl ⟨k,?_⟩;have:y≠x:=fun e=>hj (yU hN e1 (e ▸ hi))
     simp [this,e]
    ·exact .inr ⟨k,c,e,z.sameBut hs (yd y c e)⟩
  ·obtain ⟨w',z⟩:=I.cell y c e;exact ⟨w',z.sameBut hs (yd y c e)⟩
  ·obtain ⟨e,n,ne,nf,d⟩:=I.pin p hp;exact ⟨(hs.2 p.1 ne).trans e,n,ne,nf,d⟩
 ·have hfn:X.fn x=true:=by
   rcases hf with z | z
   ·exact z
   ·rw [z] at hk;cases hk
  obtain ⟨c,hc⟩:=I.ok.has x (.inl hk);obtain ⟨w',z⟩:=I.cell x c hc;refine wpAny_storeName_cell I.ok.kind hk hc z (fun h' hc' hs=>?_)
  obtain ⟨oc,hoc,hocd⟩:=id z;refine h { s with heap:=h' } ⟨I.ok,I.os,I.bare,⟨fun b o e n hb hx=>?_,fun b o e n hb hx=>?_,I.base.free,fun b o e hx=>?_,I.base.tups,I.base.jB,I.base.jZ⟩,⟨m,hn.sameBut hs (Ne.symm (yd x c hc)),fun j y v' e1 e2 e3=>?_⟩,fun y c' e=>?_,I.free,I.d9,fun p hp=>?_,tracked ⟨oc,hoc,I.d9 x c hc⟩ hs,by simpa using I.len⟩ ⟨c,hs,.inr hc⟩
  ·exact (hs.2 b (QG (QT (QD e) (I.ok.vj x c hfn hc)))).trans (I.base.keep b o e n hb hx)
  ·obtain ⟨sl,e1⟩:=I.base.slot b o e n hb hx;exact ⟨sl,(hs.2 b (QG (QT (QD e) (I.ok.vj x c hfn hc)))).trans e1⟩
  ·obtain ⟨o',e1⟩:=I.base.there b o e hx;exact ⟨o',(hs.2 b (QG (QT (QD e) (I.ok.vj x c hfn hc)))).trans e1⟩
  ·by_cases hj:j=i
   ·subst hj;rw [hi] at e1;cases e1;rw [TX hiσ] at e2;cases e2;exact ⟨u,r,.inr ⟨.inl hk,c,hc,hc'⟩⟩
   ·rw [TY (Ne.symm hj)] at e2;obtain ⟨u',r',q⟩:=hl j y v' e1 e2 e3;refine ⟨u',r',?_⟩;rcases q with q | ⟨k,c',e,z'⟩
    ·exact .inl q
    ·refine .inr ⟨k,c',e,z'.sameBut hs ?_⟩;rintro rfl;exact hj (yU hN e1 (I.ok.inj _ _ _ e hc ▸ hi))
  ·by_cases hcc:c'=c
   ·subst hcc;exact ⟨_,hc'⟩
   ·obtain ⟨w2,z2⟩:=I.cell y c' e;exact ⟨w2,z2.sameBut hs hcc⟩
  ·obtain ⟨e,n,ne,nf,d⟩:=I.pin p hp;refine ⟨(hs.2 p.1 ?_).trans e,n,ne,nf,d⟩;intro q;rw [q,hoc] at e;have q':oc=p.2:=Option.some.inj e;exact d w' (by rw [<- q'];exact hocd)
def rM {M:Model}{A:Around}{E:VC}{i:Nat}{x:Str}{v:V}{u:Value}{Q:Unit->Shared->Prop}(I:Inv X pins U H s)(hN:X.N.Nodup)(hi:X.N[i]?=some x)(hx:Loc X.env.scope x)(r:RelV v u)
  (h:∀ s',Inv X pins (U.set i (some v)) H s'->Q () s')(hf:X.fn x=true\/X.env.scope.names.lookup x=some .local:=by first | exact .inl rfl | exact .inr rfl | assumption):wpAny M A (storeName X.env x u) Q E s :=
 vD I hN hi hx r (fun s' I' _=>h s' I') hf
def Inv.wj {s':Shared}{ch:VR}(I:Inv X pins U H s)(ho:s'.os=s.os)(u:Un (frs X.stack) ch H H' s.heap s'.heap)(hok:dI X.prog X.w H' s'.heap)(hg:AllBare s'.gens)
  (hch:∀ b∈ch,(b∈X.ex\/X.s₀.heap.objs.size<=b)/\b≠X.env.locals/\(∀ x c,X.env.cells.lookup x=some c->c≠b)/\∀ p∈X.pn++pins,p.1≠b):Inv X pins U H' s':=by
 obtain ⟨h',g',d',t',o'⟩:=s';have e:o'=s.os:=ho;subst e;exact I.call (g':=g') (t':=t') (d':=d') u hok hg hch
end
abbrev XK:=Value->VP->Hp->Prop
abbrev St:=List (Option V)
abbrev VK:=V->Hp->Prop
abbrev TE:=St->Hp->VK->Prop
abbrev TT:=St->Hp->(Bool->Hp->Prop)->Prop
abbrev TA:=St->Hp->(List V->Hp->Prop)->Prop
structure Ends where
 nx:St->Hp->Prop
 rt:VK
 bk:St->Hp->Prop:=fun _ _=>False
 ct:St->Hp->Prop:=fun _ _=>False
abbrev TS:=Ends->St->Hp->Prop
def EP (X:Cx)(pins:VF)(U:St)(Q:VK)(u:Value)(s':Shared):Prop:=∃ v H',Inv X pins U H' s'/\RelV v u/\Q v H'
def TP (X:Cx)(pins:VF)(U:St)(Q:Bool->Hp->Prop)(b:Bool)(s':Shared):Prop:=∃ H',Inv X pins U H' s'/\Q b H'
def AP (X:Cx)(pins:VF)(U:St)(Q:List V->Hp->Prop)(us:VQ)(s':Shared):Prop:=∃ vs H',Inv X pins U H' s'/\Vals vs us/\Q vs H'
def SP (X:Cx)(pins:VF)(D:Ends)(f:Flow)(s':Shared):Prop :=
 match f with
 | .next=>∃ σ' H',Inv X pins σ' H' s'/\D.nx σ' H'
 | .brk=>∃ σ' H',Inv X pins σ' H' s'/\D.bk σ' H'
 | .cont=>∃ σ' H',Inv X pins σ' H' s'/\D.ct σ' H'
 | .ret u=>∃ v σ' H',Inv X pins σ' H' s'/\RelV v u/\D.rt v H'
def PE (X:Cx)(e:Expr)(t:TE):Prop :=
 ∀ (pins:VF)(s:Shared)(U:St)(H:Hp)(Q:VK),Inv X pins U H s->t U H Q->wpAny (model X.prog X.w) X.A (eval e X.env) (EP X pins U Q) X.xe s
def PT (X:Cx)(e:Expr)(t:TT):Prop :=
 ∀ (pins:VF)(s:Shared)(U:St)(H:Hp)(Q:Bool->Hp->Prop),Inv X pins U H s->t U H Q->wpAny (model X.prog X.w) X.A (isTrue e X.env (eval e X.env)) (TP X pins U Q) X.xe s
def PW (X:Cx)(e:Expr)(t:TT):Prop :=
 ∀ (whole:Sem Value)(pins:VF)(s:Shared)(U:St)(H:Hp)(Q:Bool->Hp->Prop),Inv X pins U H s->t U H Q->wpAny (model X.prog X.w) X.A (isTrue e X.env whole) (TP X pins U Q) X.xe s
def PW.pt {X:Cx}{e:Expr}{t:TT}(h:PW X e t):PT X e t:=h _
def PA (X:Cx)(es:VT)(t:TA):Prop :=
 ∀ (pos:Pos)(pins:VF)(s:Shared)(U:St)(H:Hp)(Q:List V->Hp->Prop),Inv X pins U H s->t U H Q->wpAny (model X.prog X.w) X.A (spliced (backTo pos (starEach es X.env))) (AP X pins U Q) X.xe s
def PS (X:Cx)(st:Stmt)(t:TS):Prop :=
 ∀ (pins:VF)(s:Shared)(U:St)(H:Hp)(D:Ends),Inv X pins U H s->t D U H->wpAny (model X.prog X.w) X.A (exec st X.env) (SP X pins D) X.xe s
def lI (X:Cx)(st:VU)(t:TS):Prop :=
 ∀ (pins:VF)(s:Shared)(U:St)(H:Hp)(D:Ends),Inv X pins U H s->t D U H->wpAny (model X.prog X.w) X.A (execs st X.env) (SP X pins D) X.xe s
def aR {α:Type}{t:Sem α}{Q Q':α->Shared->Prop}{M:Model}{A:Around}{E:VC}{s:Shared}(h:wpAny M A t Q E s)(hQ:∀ a s,Q a s->Q' a s):wpAny M A t Q' E s:=Qq h hQ fun _ _ x=>x
section
variable {X:Cx}
inductive Iv (i:Nat)(U:St)(H:Hp)(Q:VK):Prop
 | mk:∀ v,(U[i]?=some (some v))->(Q v H)->Iv i U H Q
def nL (i:Nat):TE:=fun U H Q=>Iv i U H Q
def tC (v:V):TE:=fun _ H Q=>Q v H
def jR {i:Nat}{x:Str}{pos:Pos}(hN:X.N[i]?=some x)(hv:mX X.env.scope x)(hd:(x == ("__debug__":Str))=false:=by decide)(hcd:(x == ("__classdict__":Str))=false:=by decide):PE X (.Name x pos) (nL i):=by
 intro pins s U H Q I h;obtain ⟨v,e,h⟩:=h;obtain ⟨m,hn,hl⟩:=I.loc;obtain ⟨u,r,l⟩:=hl i x v hN e hv;have fin:EP X pins U Q u s:=⟨v,H,I,r,h⟩;rcases l with ⟨hk,hm⟩ | ⟨hk,c,hc,hcell⟩
 ·exact wpAny_Name (wpAny_loadName_local I.ok.kind hk hn hm fin) hd
 ·rcases hk with hk | hk
  ·exact wpAny_Name (wpAny_loadName_cell I.ok.kind hk hc hcell fin) hd
  ·exact wpAny_Name (wpAny_loadName_free I.ok.kind hk hc hcell fin hcd) hd
def LI {i j pos}:PE X (.Constant (.int i) j pos) (tC (.int i)):=fun _ _ _ H _ I h=>wpAny_Constant_int ⟨.int i,H,I.tok _,⟨_,rfl⟩,h⟩
def Oo {b j pos}:PE X (.Constant (.bool b) j pos) (tC (.bl b)):=fun _ _ _ H _ I h=>Constant_bool ⟨.bl b,H,I,rfl,h⟩
def Lf {j pos}:PE X (.Constant .none j pos) (tC .bE):=fun _ _ _ H _ I h=>Constant_none ⟨.bE,H,I,rfl,h⟩
def ES {x j pos}:PE X (.Constant (.str x) j pos) (tC (.str x)):=fun _ _ _ H _ I h=>Calls.Constant_str ⟨.str x,H,I.tok _,⟨_,rfl⟩,h⟩
def Gl (X:Cx) (x:Str):Prop:=X.env.kindOf x=some .globalImplicit
def qg {E:VC}{pins:VF}{s:Shared}{U:St}{H:Hp}{x:Str}{u:Value}{pos:Pos}{Q:VC}(I:Inv X pins U H s)(hg:Gl X x)(hm:X.mg x=some u)(h:Q u s)
  (hd:(x == ("__debug__":Str))=false:=by decide):wpAny (model X.prog X.w) X.A (eval (.Name x pos) X.env) Q E s :=
 Calls.Name_function_global I.ok.kind hg (Calls.loadGlobal_global (by rw [I.ok.glob];exact I.mod.glob.keeps I.bk) hm h) hd
def oi {E:VC}{pins:VF}{s:Shared}{U:St}{H:Hp}{x:Str}{u:Value}{pos:Pos}{Q:VC}(I:Inv X pins U H s)(hg:Gl X x)(hm:X.mg x=none)(hv:bootBuiltins x=some u)(h:Q u s)
  (hn:x≠"__name__":=by decide)(hd:(x == ("__debug__":Str))=false:=by decide):wpAny (model X.prog X.w) X.A (eval (.Name x pos) X.env) Q E s:=by
 obtain ⟨mb,h1,h2⟩:=I.mod.blt;exact Calls.Name_function_global I.ok.kind hg (Calls.loadGlobal_builtin (by rw [I.ok.glob];exact I.mod.glob.keeps I.bk) hm (by rw [I.ok.blt];exact h1.keeps I.bk) ((h2 x hn).trans hv) h) hd
variable {a b:Expr}{ta tb:TE}{pos:Pos}
variable {tA tB':TT}{rest:VT}
def Pz (t u:TT):TT:=fun U H Q=>t U H fun c H1=>if c=true then u U H1 Q else Q false H1
def PF (t u:TT):TT:=fun U H Q=>t U H fun c H1=>if c=true then Q true H1 else u U H1 Q
def O4 (t:TT):TT:=fun U H Q=>t U H fun c H1=>Q (!c) H1
def pw_and1 (ha:PT X a tA):PW X (.BoolOp .And [a] pos) tA:=by
 intro wh pins s U H Q I h;refine isTrue_and (aR (ha pins s U H Q I h) fun c s1 e=>?_)
 cases c with
 | true=>exact isTrue_and_nil e
 | false=>exact e
def pw_or1 (ha:PT X a tA):PW X (.BoolOp .Or [a] pos) tA:=by
 intro wh pins s U H Q I h;refine isTrue_or (aR (ha pins s U H Q I h) fun c s1 e=>?_)
 cases c with
 | false=>exact isTrue_or_nil e
 | true=>exact e
def pw_and (ha:PT X a tA)(hb:PW X (.BoolOp .And (b::rest) pos) tB'):PW X (.BoolOp .And (a::b::rest) pos) (Pz tA tB'):=by
 intro wh pins s U H Q I h;refine isTrue_and (aR (ha pins s U H _ I h) fun c s1 ⟨H1,I1,q1⟩=>?_)
 cases c with
 | true=>exact hb wh pins s1 U H1 Q I1 q1
 | false=>exact ⟨H1,I1,q1⟩
def pw_or (ha:PT X a tA)(hb:PW X (.BoolOp .Or (b::rest) pos) tB'):PW X (.BoolOp .Or (a::b::rest) pos) (PF tA tB'):=by
 intro wh pins s U H Q I h;refine isTrue_or (aR (ha pins s U H _ I h) fun c s1 ⟨H1,I1,q1⟩=>?_)
 cases c with
 | true=>exact ⟨H1,I1,q1⟩
 | false=>exact hb wh pins s1 U H1 Q I1 q1
def CK (ha:PT X a tA):PT X (.UnaryOp .Not a pos) (O4 tA):=by
 intro pins s U H Q I h;exact isTrue_not (ha pins s U H (fun c H1=>Q (!c) H1) I h)
inductive DG (tb:TE)(U:St)(Q:VK) (x:V)(H1:Hp):Prop
 | mk:∀ c,(x=.bl c)->(if c=true then tb U H1 Q else Q (.bl false) H1)->DG tb U Q x H1
def NX (ta tb:TE):TE:=fun U H Q=>ta U H fun x H1=>DG tb U Q x H1
def Mr {op}{t:TE}(h:PE X a t):PE X (.BoolOp op [a] pos) t:=fun pins s U H Q I hw=>BoolOp_one (h pins s U H Q I hw)
def K4 (ha:PE X a ta)(hb:PE X (.BoolOp .And (b::rest) pos) tb):PE X (.BoolOp .And (a::b::rest) pos) (NX ta tb):=by
 intro pins s U H Q I h;refine BoolOp_and (aR (ha pins s U H _ I h) fun v s1 ⟨x,H1,I1,r1,q1⟩=>?_)
 obtain ⟨c,rfl,q1⟩:=q1;cases r1;refine SR ?_;cases c with
 | true=>exact hb pins s1 U H1 Q I1 q1
 | false=>exact ⟨.bl false,H1,I1,rfl,q1⟩
def Qh (t:TT)(ta tb:TE):TE:=fun U H Q=>t U H fun c H1=>if c=true then ta U H1 Q else tb U H1 Q
def Gu {c:Expr}(hc:PT X c tA)(ha:PE X a ta)(hb:PE X b tb):PE X (.IfExp c a b pos) (Qh tA ta tb):=by
 intro pins s U H Q I h;refine wpAny_IfExp (aR (hc pins s U H _ I h) fun d s1 ⟨H1,I1,q1⟩=>?_)
 cases d with
 | true=>exact ha pins s1 U H1 Q I1 q1
 | false=>exact hb pins s1 U H1 Q I1 q1
end
def bX (K:VL)(H:Hp)(a:Addr)(xs:List V):Prop :=
 Rd H a (.lst xs) \/
  ∃ (o:Obj)(its:VN) (n:Nat),K.lookup a=some o/\o.cls=.type "list"/\o.dict=none/\o.data=.seq its n/\its.size<=sizeLine/\Vals xs its.toList
def cj (K:VL)(H:Hp)(a:Addr)(xs:List V):Prop :=
 Rd H a (.tup xs) \/
  ∃ (o:Obj)(its:VN) (n:Nat),K.lookup a=some o/\o.cls=.type "tuple"/\o.data=.seq its n/\its.size<=sizeLine/\Vals xs its.toList
def OZ:Value->Option V
 | .none=>some .bE
 | .bool b=>some (.bl b)
 | .int i _=>some (.int i)
 | .str x _=>some (.str x)
 | .bytes b _=>some (.mH b)
 | .float b _=>some (.Nf b)
 | .ref a=>some (.ref a)
 | .type n=>some (.ty n)
 | _=>none
def RelV.abs {x:V}{u:Value}(r:RelV x u):OZ u=some x:=by
 cases x with
 | bE=>cases r;rfl
 | bl _=>cases r;rfl
 | int _=>obtain ⟨t,rfl⟩:=r;rfl
 | str _=>obtain ⟨t,rfl⟩:=r;rfl
 | mH _=>obtain ⟨t,rfl⟩:=r;rfl
 | Nf _=>obtain ⟨t,rfl⟩:=r;rfl
 | ref _=>cases r;rfl
 | ty _=>cases r;rfl
theorem RelV.inj {x y:V}{u:Value}(r:RelV x u)(q:RelV y u):x=y:=Option.some.inj (r.abs.symm.trans q.abs)
theorem Vals.inj {xs ys:List V}{us:VQ}(h:Vals xs us)(h':Vals ys us):xs=ys:=by
 induction h generalizing ys with
 | nil=>cases h';rfl
 | cons r t ih=>cases h' with | cons r' t'=>rw [r.inj r',ih t']
section
variable {X:Cx}{pins:VF}{U:St}{H:Hp}{s:Shared}{a:Addr}{xs ys:List V}
def bX.of {K:VL}(h:H a=some (.lst xs)):bX K H a xs:=.inl (.inl h)
def cj.of {K:VL}(h:H a=some (.tup xs)):cj K H a xs:=.inl (.inl h)
def Inv.list (I:Inv X pins U H s)(h:bX X.K H a xs):∃ its:VQ,Vals xs its/\PlainL s.heap a its.toArray/\xs.length<=sizeLine:=by
 rcases h with h | ⟨o,its,n,hk,hc,hd,hs,hz,r⟩
 ·obtain ⟨z,its,n,r,e⟩:=h.ok I.hok;exact ⟨its,r,⟨_,n,e,rfl,rfl,rfl⟩,z⟩
 ·refine ⟨its.toList,r,⟨o,n,I.qG a o hk,hc,hd,by simpa using hs⟩,?_⟩
  have e:=r.length;simp only [Rg] at e;lia
def Inv.tuple (I:Inv X pins U H s)(h:cj X.K H a xs):∃ its:VQ,Vals xs its/\IsTup s.heap a its.toArray/\xs.length<=sizeLine:=by
 rcases h with h | ⟨o,its,n,hk,hc,hs,hz,r⟩
 ·obtain ⟨z,its,r,p⟩:=h.ok I.hok;exact ⟨its,r,p,z⟩
 ·refine ⟨its.toList,r,⟨o,I.qG a o hk,hc,n,by simpa using hs⟩,?_⟩
  have e:=r.length;simp only [Rg] at e;lia
def Inv.yO (I:Inv X pins U H s)(h:bX X.K H a xs)(h':bX X.K H a ys):xs=ys:=by
 obtain ⟨its,r,⟨o,n,e,_,_,d⟩,_⟩:=I.list h;obtain ⟨its',r',⟨o',n',e',_,_,d'⟩,_⟩:=I.list h';rw [e] at e';cases e';rw [d] at d';injection d' with d1 _
 have:its=its':=by simpa using congrArg Array.toList d1
 subst this;exact r.inj r'
def Inv.D4 (I:Inv X pins U H s)(h:cj X.K H a xs)(h':cj X.K H a ys):xs=ys:=by
 obtain ⟨its,r,⟨o,e,_,n,d⟩,_⟩:=I.tuple h;obtain ⟨its',r',⟨o',e',_,n',d'⟩,_⟩:=I.tuple h';rw [e] at e';cases e';rw [d] at d';injection d' with d1 _
 have:its=its':=by simpa using congrArg Array.toList d1
 subst this;exact r.inj r'
end
section
variable {X:Cx}{pins:VF}{U:St}{H:Hp}{s:Shared}{E:VC}
end
section
variable {X:Cx}{st:Stmt}{rest:VU}{t u:TS}{e:Expr}{te:TE}{pos:Pos}
def Ny:TS:=fun D U H=>D.nx U H
def Pk (t u:TS):TS:=fun D U H=>t { D with nx:=u D } U H
def Jm:lI X [] Ny:=fun _ _ U H _ I h=>TZ ⟨U,H,I,h⟩
def yr (h1:PS X st t)(h2:lI X rest u):lI X (st::rest) (Pk t u):=by
 intro pins s U H D I h;refine wpAny_execs_cons (aR (h1 pins s U H { D with nx:=u D } I h) fun f s1 q=>?_)
 cases f with
 | next =>
  obtain ⟨σ',H',I',q⟩:=q;exact h2 pins s1 σ' H' D I' q
 | ret v=>exact q
 | brk=>exact q
 | cont=>exact q
def z7 (h1:PS X st t):lI X [st] t:=by
 intro pins s U H D I h;refine wpAny_execs_cons (aR (h1 pins s U H D I h) fun f s1 q=>?_)
 cases f with
 | next=>exact TZ q
 | ret v=>exact q
 | brk=>exact q
 | cont=>exact q
def Inv.quiet {pins:VF}{U:St}{H:Hp}{s:Shared}(I:Inv X pins U H s):interactive X.env=false:=by simp [interactive,I.ok.kind]
def Of (te:TE):TS:=fun D U H=>te U H fun _ H1=>D.nx U H1
def IU (he:PE X e te)(hs:swapsWith e none pos.line X.env=pure false:=by rfl):PS X (.Expr e pos) (Of te):=by
 intro pins s U H D I h;exact wpAny_Expr_any (aR (he pins s U H _ I h) fun v s1 ⟨x,H1,I1,r1,q1⟩=>⟨U,H1,I1,q1⟩) I.quiet hs
def Pc (te:TE):TS:=fun D U H=>te U H D.rt
def E7 (he:PE X e te):PS X (.Return (some e) pos) (Pc te):=by
 intro pins s U H D I h;exact wpAny_Return_some (aR (he pins s U H _ I h) fun v s1 ⟨x,H1,I1,r1,q1⟩=>⟨x,U,H1,I1,r1,q1⟩)
def OQ (c:TT)(t u:TS):TS:=fun D U H=>c U H fun b H1=>if b=true then t D U H1 else u D U H1
def Nu {c:Expr}{a b:VU}{tc:TT}(hc:PT X c tc)(ha:lI X a t)(hb:lI X b u):PS X (.If c a b pos) (OQ tc t u):=by
 intro pins s U H D I h;refine wpAny_If (aR (hc pins s U H _ I h) fun d s1 ⟨H1,I1,q1⟩=>?_)
 cases d with
 | true=>exact ha pins s1 U H1 D I1 q1
 | false=>exact hb pins s1 U H1 D I1 q1
end
abbrev TG:=V->St->Hp->(St->Hp->Prop)->Prop
abbrev qz:=List V->St->Hp->(St->Hp->Prop)->Prop
def PG (X:Cx)(target:Expr)(t:TG):Prop :=
 ∀ (pins:VF)(s:Shared)(U:St)(H:Hp) (v:V)(u:Value)(Q:St->Hp->Prop),Inv X pins U H s->RelV v u->t v U H Q ->
  wpAny (model X.prog X.w) X.A (assign target X.env u) (fun _ s'=>∃ σ' H',Inv X pins σ' H' s'/\Q σ' H') X.xe s
def C9 (X:Cx)(ts:VT)(t:qz):Prop :=
 ∀ (pins:VF)(s:Shared)(U:St)(H:Hp)(vs:List V)(us:VQ)(Q:St->Hp->Prop),Inv X pins U H s->Vals vs us->t vs U H Q ->
  wpAny (model X.prog X.w) X.A (assignInOrder ((assignEach ts X.env).map (·.2)) us) (fun _ s'=>∃ σ' H',Inv X pins σ' H' s'/\Q σ' H') X.xe s
abbrev A8:=V->V->V->Hp->(Hp->Prop)->Prop
def Gn (X:Cx)(t:A8):Prop :=
 ∀ (pins:VF)(s:Shared)(U:St)(H:Hp) (o i v:V)(ov iv u:Value)(Q:Hp->Prop),Inv X pins U H s->RelV o ov->RelV i iv->RelV v u->t o i v H Q ->
  wpAny (model X.prog X.w) X.A (setItem ov iv u) (fun _ s'=>∃ H',Inv X pins U H' s'/\Q H') X.xe s
abbrev C6:=V->V->Hp->VK->Prop
def Et (X:Cx)(op:Operator)(t:C6):Prop :=
 ∀ (pins:VF)(s:Shared)(U:St)(H:Hp) (x y:V)(v u:Value)(Q:VK),Inv X pins U H s->RelV x v->RelV y u->t x y H Q ->
  wpAny (model X.prog X.w) X.A (inplaceOp op v u) (EP X pins U Q) X.xe s
section
variable {X:Cx}{pos:Pos}
def p9 (i:Nat):TG:=fun v U H Q=>Q (U.set i (some v)) H
def zV {i:Nat}{x:Str}(hN:X.N.Nodup)(hi:X.N[i]?=some x)(hx:Loc X.env.scope x)(hf:X.fn x=true\/X.env.scope.names.lookup x=some .local:=by first | exact .inl rfl | exact .inr rfl | assumption):PG X (.Name x pos) (p9 i):=by
 intro pins s U H v u Q I r h;exact wpAny_assign_Name (rM I hN hi hx r (fun s' I'=>⟨_,H,I',h⟩) hf)
def LX:qz:=fun vs U H Q=>vs=[]/\Q U H
inductive Cz (t:TG)(u:qz)(vs:List V)(U:St)(H:Hp)(Q:(St->Hp->Prop)):Prop
 | mk:∀ v r,(vs=v::r)->(t v U H fun σ' H'=>u r σ' H' Q)->Cz t u vs U H Q
def Ht (t:TG)(u:qz):qz:=fun vs U H Q=>Cz t u vs U H Q
def IV:C9 X [] LX:=by
 intro pins s U H vs us Q I r h;obtain ⟨e,h⟩:=h;subst e;cases r;exact assignInOrder_nil ⟨U,H,I,h⟩
def GW {e:Expr}{es:VT}{t:TG}{u:qz}(h1:PG X e t)(h2:C9 X es u)
  (hs:(assignEach (e::es) X.env).map (·.2)=assign e X.env::(assignEach es X.env).map (·.2):=by rfl):C9 X (e::es) (Ht t u):=by
 intro pins s U H vs us Q I r h;obtain ⟨v,vr,e1,h⟩:=h;subst e1;cases r with
 | cons r rr =>
  rw [hs];refine assignInOrder_cons (aR (h1 pins s U H _ _ _ I r h) fun _ s1 ⟨σ1,H1,I1,q1⟩=>?_)
  exact h2 pins s1 σ1 H1 _ _ Q I1 rr q1
inductive Hj (K:VL) (n:Nat)(t:qz) (v:V)(U:St)(H:Hp)(Q:(St->Hp->Prop)):Prop
 | mk:∀ a xs,(v=.ref a)->(cj K H a xs)->(xs.length=n)->(t xs U H Q)->Hj K n t v U H Q
def ie (K:VL) (n:Nat)(t:qz):TG:=fun v U H Q=>Hj K n t v U H Q
def M7 {es:VT}{k:Nat}{t:qz}{n:Nat}(hc:X.calm=true)(h:C9 X es t)
  (hn:(assignEach es X.env).length=n:=by rfl)(hst:(assignEach es X.env).findIdx? (·.1)=none:=by rfl):PG X (.Tuple es k pos) (ie X.K n t):=by
 intro pins s U H v u Q I r hw;obtain ⟨a,xs,e1,hq,hl,hw⟩:=hw;subst e1;cases r;obtain ⟨its,rv,ht,hz⟩:=I.tuple hq;refine assign_Tuple_tuple (I.ok.hd hc) ht (by simp [hn,<- hl,rv.length]) hst fun h' hx=>?_
 have I1:Inv X pins U H { s with heap:=h' }:=I.kept (t':=s.toks) fun b o e=>hx b o (QG (QD e)) e
 exact h pins _ U H xs _ Q I1 (by simpa using rv) hw
def lT (to ti:TE)(t:A8):TG:=fun v U H Q=>to U H fun o H1=>ti U H1 fun i H2=>t o i v H2 fun H3=>Q U H3
def MV {o i:Expr}{to ti:TE}{t:A8}(ho:PE X o to)(hi:PE X i ti)(hs:Gn X t)
  (ha:∀ v,assign (.Subscript o i pos) X.env v=(do
   let ov <- holding [v] (eval o X.env)
   let iv <- holding [v,ov] (eval i X.env)
   standAt pos
   holding [v,ov,iv] (setItem ov iv v)
   release [v,ov,iv] []):=by intro _;rfl):PG X (.Subscript o i pos) (lT to ti t):=by
 intro pins s U H v u Q I r h;rw [ha];refine Q0 (RX (aR (ho pins s U H _ I h) fun ov s1 ⟨x,H1,I1,r1,q1⟩=>?_))
 refine Q0 (RX (aR (hi pins s1 U H1 _ I1 q1) fun iv s2 ⟨y,H2,I2,r2,q2⟩=>?_))
 refine Q0 (Ss (Q0 (RX (aR (hs pins s2 U H2 x y v ov iv u _ I2 r1 r2 r q2) fun _ s3 ⟨H3,I3,q3⟩=>?_))))
 exact wpAny_release ⟨U,H3,I3,q3⟩
def Fz (te:TE)(g:TG):TS:=fun D U H=>te U H fun x H1=>g x U H1 D.nx
def Du {tg e:Expr}{te:TE}{g:TG}(he:PE X e te)(hg:PG X tg g)(hs:swapsWithSole [tg] e pos.line X.env=pure false:=by rfl)(hw:swappedStores [tg] e X.env=pure none:=by rfl)
  (h1:(assignEach [tg] X.env).map (·.2)=[assign tg X.env]:=by rfl):PS X (.Assign [tg] e pos) (Fz te g):=by
 intro pins s U H D I h;refine wpAny_Assign_stores (aR (he pins s U H _ I h) fun v s1 ⟨x,H1,I1,r1,q1⟩=>?_) hs hw
 rw [h1];exact aR (hg pins s1 U H1 x v _ I1 r1 q1) fun _ s2 q=>q
def CD {i:Nat}{x:Str}{e:Expr}{te:TE}{pos':Pos}(hN:X.N.Nodup)(hi:X.N[i]?=some x)(hx:Loc X.env.scope x)(he:PE X e te)(hs:swapsWith e (some (.Name x pos')) pos.line X.env=pure false:=by rfl)(hf:X.fn x=true\/X.env.scope.names.lookup x=some .local:=by first | exact .inl rfl | exact .inr rfl | assumption) :
  PS X (.Assign [.Name x pos'] e pos) (Fz te (p9 i)):=by
 intro pins s U H D I h;refine wpAny_Assign_Name (aR (he pins s U H _ I h) fun v s1 ⟨y,H1,I1,r1,q1⟩=>?_) hs
 exact rM I1 hN hi hx r1 (fun s2 I2=>⟨_,H1,I2,q1⟩) hf
def Pw (i:Nat)(te:TE)(ti:C6):TS:=fun D U H=>∃ x,U[i]?=some (some x)/\te U H fun y H1=>ti x y H1 fun z H2=>D.nx (U.set i (some z)) H2
def Fd {i:Nat}{x:Str}{e:Expr}{te:TE}{op:Operator}{ti:C6}{pos':Pos}(hN:X.N.Nodup)(hi:X.N[i]?=some x)(hx:Loc X.env.scope x)(he:PE X e te)(ho:Et X op ti)(hf:X.fn x=true\/X.env.scope.names.lookup x=some .local:=by first | exact .inl rfl | exact .inr rfl | assumption) :
  PS X (.AugAssign (.Name x pos') op e pos) (Pw i te ti):=by
 intro pins s U H D I h;obtain ⟨v,e1,h⟩:=h;obtain ⟨m,hn,hl⟩:=I.loc;have vis:mX X.env.scope x:=by rcases hx with k | k;exact .inl k;exact .inr (.inl k)
 obtain ⟨u,r,l⟩:=hl i x v hi e1 vis;refine wpAny_AugAssign_Name ?_;have go:wpAny (model X.prog X.w) X.A (eval e X.env) (fun w s₂=>wpAny (model X.prog X.w) X.A (inplaceOp op u w) (fun r s₃=>wpAny (model X.prog X.w) X.A (storeName X.env x r) (fun _=>SP X pins D .next) X.xe s₃) X.xe s₂) X.xe s:=by
  refine aR (he pins s U H _ I h) fun w s1 ⟨y,H1,I1,r1,q1⟩=>?_
  refine aR (ho pins s1 U H1 v y u w _ I1 r r1 q1) fun z s2 ⟨zv,H2,I2,r2,q2⟩=>?_
  exact rM I2 hN hi hx r2 (fun s3 I3=>⟨_,H2,I3,q2⟩) hf
 rcases l with ⟨hk,hm⟩ | ⟨hk,c,hc,hcell⟩
 ·exact wpAny_loadName_local I.ok.kind hk hn hm go
 ·rcases hk with hk | hk
  ·exact wpAny_loadName_cell I.ok.kind hk hc hcell go
  ·rcases hx with k | k
   ·have:X.env.scope.names.lookup x=some .free:=hk;rw [k] at this;cases this
   ·have:X.env.scope.names.lookup x=some .free:=hk;rw [k] at this;cases this
def Mc (f:Int->Int->Int):C6:=fun x y H Q=>∃ i j,x=.int i/\y=.int j/\Q (.int (f i j)) H
def Mq:Et X .Add (Mc fun i j=>i + j):=by
 intro pins s U H x y v u Q I r1 r2 h;obtain ⟨i,j,e1,e2,q⟩:=h;subst e1;subst e2;obtain ⟨t,rfl⟩:=r1;obtain ⟨t',rfl⟩:=r2;exact iadd_int ⟨.int _,H,I.tok _,⟨_,rfl⟩,q⟩
def Lx:Et X .Sub (Mc fun i j=>i - j):=by
 intro pins s U H x y v u Q I r1 r2 h;obtain ⟨i,j,e1,e2,q⟩:=h;subst e1;subst e2;obtain ⟨t,rfl⟩:=r1;obtain ⟨t',rfl⟩:=r2;exact isub_int ⟨.int _,H,I.tok _,⟨_,rfl⟩,q⟩
end
section
variable {X:Cx}{pos:Pos}
def Le (c:TT)(tb:TS):TS:=fun D U H=>∃ W:Nat->St->Hp->Prop,(∃ m,W m U H)/\∀ m U H,W m U H ->
 c U H fun b H1=>if b=true then ∃ N:St->Hp->Prop,(∀ σ' H',N σ' H'->∃ m',m' < m/\W m' σ' H')/\tb { D with nx:=N,ct:=N,bk:=D.nx } U H1 else D.nx U H1
def GR {c:Expr}{body:VU}{tc:TT}{tb:TS}(hp:PassesOwn (model X.prog X.w) X.A X.env X.xe)(hc:PT X c tc)(hb:lI X body tb):PS X (.While c body [] pos) (Le tc tb):=by
 intro pins s U H D I h;obtain ⟨W,⟨m0,w0⟩,turn⟩:=h;refine wpAny_While (codeAny_whileLoop (fun n s'=>∃ σ' H',Inv X pins σ' H' s'/\W n σ' H') ?_ m0 ⟨U,H,I,w0⟩)
 rintro n s1 ⟨σ1,H1,I1,w1⟩;refine SV hp (aR (hc pins s1 σ1 H1 _ I1 (turn n σ1 H1 w1)) fun b s2 ⟨H2,I2,q2⟩=>?_)
 cases b with
 | true =>
  obtain ⟨N,hN,q2⟩:=q2;rw [if_pos rfl];refine SV hp (aR (hb pins s2 σ1 H2 _ I2 q2) fun f s3 q3=>?_)
  cases f with
  | next =>
   obtain ⟨σ3,H3,I3,n3⟩:=q3;obtain ⟨m',hm,w3⟩:=hN σ3 H3 n3;exact ⟨m',hm,σ3,H3,I3,w3⟩
  | cont =>
   obtain ⟨σ3,H3,I3,n3⟩:=q3;obtain ⟨m',hm,w3⟩:=hN σ3 H3 n3;exact ⟨m',hm,σ3,H3,I3,w3⟩
  | brk=>exact q3
  | ret v=>exact q3
 | false =>
  rw [if_neg Qu];exact TZ ⟨σ1,H2,I2,q2⟩
end
structure It where
 go:Nat->Hp->Prop
 qL:Nat->Hp->V->Hp->Prop
 stop:Nat->Hp->Prop
def dN (X:Cx)(pins:VF)(H:Hp)(b:Addr):Prop :=
 H b=none/\b≠X.env.locals/\b∉X.fs/\(b∈X.ex\/X.s₀.heap.objs.size<=b)/\(∀ x c,X.env.cells.lookup x=some c->c≠b)/\∀ p∈X.pn++pins,p.1≠b
def Inv.uV {X:Cx}{pins:VF}{U:St}{H H':Hp}{s:Shared}{b:Addr}(I:Inv X pins U H s)(hb:s.heap.objs.size<=b)(hn:H' b=none):dN X pins H' b:=by
 refine ⟨hn,S4 (QT I.lt hb),I.Gg hb,.inr (QW I.sz hb),fun x c e z=>?_,fun p hp z=>?_⟩
 ·obtain ⟨v,q⟩:=I.cell x c e;exact absurd (QT q.lt (by rw [z];exact hb)) (R9 _)
 ·exact absurd (QT (QD (I.pin p hp).1) (by rw [z];exact hb)) (R9 _)
structure Turn (P:Program)(w:World)(K:VL)(tg:Expr)(J:It)(fp:VR)(it:Addr)(tn:Nat->Heap->Prop):Prop where
 mem:it∈fp
 obj:∀ i h,tn i h->∀ b∈fp,∃ o,h.get? b=some o/\∀ v,o.data≠.cell v
 keep:∀ i h h',tn i h->(∀ b∈fp,∀ o,h.get? b=some o->h'.get? b=some o)->tn i h'
 item:∀ (X:Cx),X.prog=P->X.w=w->X.K=K->X.calm=true->∀ (i:Nat)(pins:VF)(s:Shared)(U:St)(H:Hp)(E:VC),Inv X pins U H s->(∀ b∈fp,dN X pins H b)->tn i s.heap->J.go i H ->
  wpAny (model P w) X.A (pyNext (.ref it)) (fun r s1=>∃ u,r=some u /\
   wpAny (model P w) X.A (letOwnedTupleGo tg (.ref it) u) (fun _ s2=>∃ x H',Inv X pins U H' s2/\RelV x u/\J.qL i H x H'/\tn (i + 1) s2.heap/\∀ b∈fp,H' b=none) E s1) E s
 done:∀ (X:Cx),X.prog=P->X.w=w->X.K=K->X.calm=true->∀ (i:Nat)(pins:VF)(s:Shared)(U:St)(H:Hp)(E:VC),Inv X pins U H s->(∀ b∈fp,dN X pins H b)->tn i s.heap->J.stop i H ->
  wpAny (model P w) X.A (pyNext (.ref it)) (fun r s1=>r=none/\Inv X pins U H s1) E s
 self:∀ (A:Around) (i:Nat)(s:Shared)(Q:VC)(E:VC),tn i s.heap->Q (.ref it) s->wpAny (model P w) A (pyIter (.ref it)) Q E s
abbrev TI:=St->Hp->(It->Hp->Prop)->Prop
def Hu (X:Cx)(pins:VF)(U:St)(tg:Expr)(R:It->Hp->Prop)(itv:Value)(s2:Shared):Prop :=
 ∃ (it:Addr)(fp:VR)(tn:Nat->Heap->Prop)(J:It)(H':Hp),itv=.ref it/\Inv X pins U H' s2/\Turn X.prog X.w X.K tg J fp it tn/\tn 0 s2.heap/\(∀ b∈fp,dN X pins H' b)/\R J H'
def PI (X:Cx)(tg iter:Expr)(wi:TI):Prop :=
 ∀ (pins:VF)(s:Shared)(U:St)(H:Hp)(R:It->Hp->Prop),Inv X pins U H s->wi U H R ->
  wpAny (model X.prog X.w) X.A (eval iter X.env) (fun v s1=>wpAny (model X.prog X.w) X.A (pyIter v) (Hu X pins U tg R) X.xe s1) X.xe s
def Cj {M:Model}{A:Around}{E:VC}{s:Shared}{tg:Expr}{it:Addr}{u:Value}{o:Obj}{n:String}{vs:VN}{Q:Unit->Shared->Prop}(ho:s.heap.get? it=some o)(hc:o.cls=.type n)(hd:o.data=.fields vs)
  (hn:["enumerate","zip","dict_itemiterator","dict_reverseitemiterator","odict_iterator","itertools.zip_longest","itertools.pairwise"].contains n=false)(hQ:Q () s):wpAny M A (letOwnedTupleGo tg (.ref it) u) Q E s:=by
 unfold letOwnedTupleGo;cases tg <;> first
  | exact Q5 hQ
  | (cases u <;> first
    | exact Q5 hQ
    | (refine Q0 (wpAny_load ho ?_)
       rw [hc,hd];show wpAny M A (if (["enumerate","zip","dict_itemiterator","dict_reverseitemiterator","odict_iterator","itertools.zip_longest","itertools.pairwise"].contains n && vs[0]? == some (rawInt _))=true then _ else _) Q E s
       rw [if_neg (by intro h;rw [hn,Bool.false_and] at h;cases h)]
       exact Q5 hQ))
def G9 (K:VL)(a:Addr):It :=
 ⟨fun i H=>∃ xs x,bX K H a xs/\xs[i]?=some x,fun i H x H'=>H'=H/\∀ xs,bX K H a xs->xs[i]?=some x,fun i H=>∃ xs,bX K H a xs/\xs.length<=i⟩
def Hv (K:VL)(a:Addr):It :=
 ⟨fun i H=>∃ xs x,cj K H a xs/\xs[i]?=some x,fun i H x H'=>H'=H/\∀ xs,cj K H a xs->xs[i]?=some x,fun i H=>∃ xs,cj K H a xs/\xs.length<=i⟩
def EY (lo:Int) (n:Nat):It:=⟨fun i _=>i < n,fun i H x H'=>H'=H/\x=.int (lo + i),fun i _=>n<=i⟩
def EH {P:Program}{w:World}{K:VL}{tg:Expr}(a it:Addr):Turn P w K tg (G9 K a) [it] it (fun i h=>h.IsListIter it a i) where
 mem:=by simp
 obj:=fun i h st b hb=>by
  have e:b=it:=by simpa using hb
  subst e;obtain ⟨o,e,c,d⟩:=st;exact ⟨o,e,fun v z=>by rw [d] at z;cases z⟩
 keep:=fun i h h' st k=>st.at fun o e=>k it (by simp) o e
 item:=by
  intro X hP hw hK hc i pins s U H E I hf st hg;subst hP hw hK;obtain ⟨xs,x,hq,hx⟩:=hg;obtain ⟨its,rv,p,hz⟩:=I.list hq;obtain ⟨u,hu,ru⟩:=rv.get hx;obtain ⟨f0,f1,f2,f3,f4,f5⟩:=hf it (by simp)
  refine wpAny_pyNext_list_item st p.isList (x:=u) (by simpa using hu) fun h' st' sb=>?_
  have I1:Inv X pins U H { s with heap:=h' }:=I.turned (t':=s.toks) (fun b o hb e=>(sb.2 b hb).trans e) f0 f1 f3 f4 f5
  obtain ⟨o,e,c,d⟩:=id st';exact ⟨u,rfl,Cj (s:={ s with heap:=h' }) e c d (by decide) ⟨x,H,I1,ru,⟨rfl,fun ys hy=>by rw [I.yO hy hq];exact hx⟩,st',fun b hb=>(hf b hb).1⟩⟩
 done:=by
  intro X hP hw hK hc i pins s U H E I hf st hg;subst hP hw hK;obtain ⟨xs,hq,hx⟩:=hg;obtain ⟨its,rv,p,hz⟩:=I.list hq;obtain ⟨f0,f1,f2,f3,f4,f5⟩:=hf it (by simp)
  have hl:=rv.length;exact wpAny_pyNext_list_end (I.ok.hd hc) st p.isList (by simp;lia) fun h' eb=>⟨rfl,I.turned (t':=s.toks) (fun b o hb e=>eb b o hb e) f0 f1 f3 f4 f5⟩
 self:=fun _ _ _ _ _ st h=>wpAny_pyIter_listiter st h
def Bp {P:Program}{w:World}{K:VL}{tg:Expr}(a it:Addr):Turn P w K tg (Hv K a) [it] it (fun i h=>h.IsTupleIter it a i) where
 mem:=by simp
 obj:=fun i h st b hb=>by
  have e:b=it:=by simpa using hb
  subst e;obtain ⟨o,e,c,d⟩:=st;exact ⟨o,e,fun v z=>by rw [d] at z;cases z⟩
 keep:=fun i h h' st k=>st.at fun o e=>k it (by simp) o e
 item:=by
  intro X hP hw hK hc i pins s U H E I hf st hg;subst hP hw hK;obtain ⟨xs,x,hq,hx⟩:=hg;obtain ⟨its,rv,p,hz⟩:=I.tuple hq;obtain ⟨u,hu,ru⟩:=rv.get hx;obtain ⟨f0,f1,f2,f3,f4,f5⟩:=hf it (by simp)
  refine wpAny_pyNext_tuple_item st (show s.heap.IsTuple a its.toArray from p) (x:=u) (by simpa using hu) fun h' st' sb=>?_
  have I1:Inv X pins U H { s with heap:=h' }:=I.turned (t':=s.toks) (fun b o hb e=>(sb.2 b hb).trans e) f0 f1 f3 f4 f5
  obtain ⟨o,e,c,d⟩:=id st';exact ⟨u,rfl,Cj (s:={ s with heap:=h' }) e c d (by decide) ⟨x,H,I1,ru,⟨rfl,fun ys hy=>by rw [I.D4 hy hq];exact hx⟩,st',fun b hb=>(hf b hb).1⟩⟩
 done:=by
  intro X hP hw hK hc i pins s U H E I hf st hg;subst hP hw hK;obtain ⟨xs,hq,hx⟩:=hg;obtain ⟨its,rv,p,hz⟩:=I.tuple hq;obtain ⟨f0,f1,f2,f3,f4,f5⟩:=hf it (by simp)
  have hl:=rv.length;exact wpAny_pyNext_tuple_end (I.ok.hd hc) st (show s.heap.IsTuple a its.toArray from p) (by simp;lia) fun h' eb=>⟨rfl,I.turned (t':=s.toks) (fun b o hb e=>eb b o hb e) f0 f1 f3 f4 f5⟩
 self:=fun _ _ _ _ _ st h=>wpAny_pyIter_tupleiter st h
def BE {P:Program}{w:World}{K:VL}{tg:Expr}(it:Addr) (lo:Int) (n:Nat):Turn P w K tg (EY lo n) [it] it (fun i h=>IsRangeIter h it (lo + (i:Nat) * 1) ((n:Int) - (i:Nat)) 1) where
 mem:=by simp
 obj:=fun i h st b hb=>by
  have e:b=it:=by simpa using hb
  subst e;exact ⟨_,st,fun v z=>by
   have z':Data.fields _=Data.cell v:=z;cases z'⟩
 keep:=fun i h h' st k=>k it (by simp) _ st
 item:=by
  intro X hP hw hK hc i pins s U H E I hf st hg;subst hP hw hK;obtain ⟨f0,f1,f2,f3,f4,f5⟩:=hf it (by simp)
  have W:=Walks.range (prog:=X.prog) (w:=X.w) (I.ok.hd hc) it lo 1 n;refine W.item i s _ _ hg st fun v h' tk hv st' kk=>?_
  obtain ⟨t,rfl⟩:=hv;have I1:Inv X pins U H { s with heap:=h',toks:=tk }:=I.turned (fun b o hb e=>kk b o (by simpa using hb) e) f0 f1 f3 f4 f5
  refine ⟨_,rfl,Cj (s:={ s with heap:=h',toks:=tk }) (n:="range_iterator") st' rfl rfl (by decide) ⟨.int (lo + i),H,I1,⟨t,?_⟩,⟨rfl,rfl⟩,st',fun b hb=>(hf b hb).1⟩⟩
  rw [Int.mul_one]
 done:=by
  intro X hP hw hK hc i pins s U H E I hf st hg;subst hP hw hK;obtain ⟨f0,f1,f2,f3,f4,f5⟩:=hf it (by simp)
  exact wpAny_pyNext_range_end (I.ok.hd hc) st (by have:n<=i:=hg;lia) fun h' eb=>⟨rfl,I.turned (t':=s.toks) (fun b o hb e=>eb b o hb e) f0 f1 f3 f4 f5⟩
 self:=fun _ _ _ _ _ st h=>wpAny_pyIter_rangeiter st h
section
variable {X:Cx}{tg:Expr}
def wM {pins:VF}{U:St}{H:Hp}{s:Shared}{R:It->Hp->Prop}{E:VC}{lo hi:Int}{t u v:Tok}{tk:Nat}(I:Inv X pins U H s)(h1:-(2 ^ 62)<=lo)(h2:lo < 2 ^ 62)(h3:-(2 ^ 62)<=hi)(h4:hi < 2 ^ 62)
  (q:R (EY lo (hi - lo).toNat) H):wpAny (model X.prog X.w) X.A (pyIter (.ref s.heap.objs.size)) (Hu X pins U tg R) E { s with heap:=s.heap.push { cls:=.type "range",data:=.fields #[.int lo t,.int hi u,.int 1 v] },toks:=tk }:=by
 refine wpAny_pyIter_range (IsRange.new ..) (small_one h1 h2 h3 h4) ?_;have I1:Inv X pins U H { s with heap:=s.heap.push { cls:=.type "range",data:=.fields #[.int lo t,.int hi u,.int 1 v] },toks:=tk }:=I.kept fun b o e=>QL _ e
 refine ⟨(s.heap.push { cls:=.type "range",data:=.fields #[.int lo t,.int hi u,.int 1 v] }).objs.size,[(s.heap.push { cls:=.type "range",data:=.fields #[.int lo t,.int hi u,.int 1 v] }).objs.size],_,_,H,rfl,
  I1.kept (t':=tk) fun b o e=>QL _ e,BE _ lo (hi - lo).toNat,?_,fun b hb=>?_,q⟩
 ·have e1:lo + ((0:Nat):Int) * 1=lo:=by simp
  have e2:(((hi - lo).toNat:Nat):Int) - ((0:Nat):Int)=Builtin.Range.rangeSize lo hi 1:=by rw [rangeSize_one];split <;> lia
  show IsRangeIter _ _ (lo + ((0:Nat):Int) * 1) ((((hi - lo).toNat:Nat):Int) - ((0:Nat):Int)) 1;rw [e1,e2];exact R7 _ rfl
 ·have e:b=(s.heap.push { cls:=.type "range",data:=.fields #[.int lo t,.int hi u,.int 1 v] }).objs.size:=by simpa using hb
  subst e;exact I1.uV (Q6 _) (I1.hok.fresh (Q6 _))
inductive CN (R:(It->Hp->Prop))(vs:List V)(H1:Hp):Prop
 | mk:∀ j:Int,(vs=[.int j])->(-(2 ^ 62)<=j)->(j < 2 ^ 62)->(R (EY 0 j.toNat) H1)->CN R vs H1
def NJ (ta:TA):TI:=fun U H R=>ta U H fun vs H1=>CN R vs H1
inductive Ek (R:(It->Hp->Prop))(vs:List V)(H1:Hp):Prop
 | mk:∀ i j:Int,(vs=[.int i,.int j])->((-(2 ^ 62)<=i/\i < 2 ^ 62/\-(2 ^ 62)<=j/\j < 2 ^ 62))->(R (EY i (j - i).toNat) H1)->Ek R vs H1
def NQ (ta:TA):TI:=fun U H R=>ta U H fun vs H1=>Ek R vs H1
def ET {a:Expr}{ta:TA}{p pos:Pos}(hg:Gl X "range")(hm:X.mg "range"=none)(ha:PA X [a] ta)(hs:starEach [a] X.env=[(false,eval a X.env)]:=by rfl):PI X tg (.Call (.Name "range" p) [a] [] pos) (NJ ta):=by
 intro pins s U H R I h;refine Call_ (oi I hg hm boot_range (U9 (aR (ha pos pins s U H _ I h) fun us s1 ⟨vs,H1,I1,r1,q1⟩=>?_) hs rfl))
 obtain ⟨j,e,q1,q2,q⟩:=q1;subst e;cases r1 with
 | cons r rr =>
  cases rr;obtain ⟨t,rfl⟩:=r;exact call_range_1 (wM I1 (by lia) (by lia) q1 q2 (by simpa using q))
def Fc {a b:Expr}{ta:TA}{p pos:Pos}(hg:Gl X "range")(hm:X.mg "range"=none)(ha:PA X [a,b] ta)(hs:starEach [a,b] X.env=[(false,eval a X.env),(false,eval b X.env)]:=by rfl)(hs2:starEach [b] X.env=[(false,eval b X.env)]:=by rfl) :
  PI X tg (.Call (.Name "range" p) [a,b] [] pos) (NQ ta):=by
 intro pins s U H R I h;refine Call_ (oi I hg hm boot_range (U9 (aR (ha pos pins s U H _ I h) fun us s1 ⟨vs,H1,I1,r1,q1⟩=>?_) (by rw [hs,hs2]) (by rw [hs2];rfl)))
 obtain ⟨i,j,e,⟨q1,q2,q3,q4⟩,q⟩:=q1;subst e;cases r1 with
 | cons r rr =>
  cases rr with
  | cons r' rr =>
   cases rr;obtain ⟨t,rfl⟩:=r;obtain ⟨t',rfl⟩:=r';exact call_range_2 (wM I1 q1 q2 q3 q4 q)
def OU (wi:TI)(g:TG)(tb:TS):TS:=fun D U H=>wi U H fun J H1=>∃ W:Nat->Nat->St->Hp->Prop,(∃ m,W 0 m U H1)/\∀ i m U H,W i m U H ->
 (J.stop i H/\D.nx U H)\/(J.go i H/\∃ N:St->Hp->Prop,(∀ σ' H',N σ' H'->∃ m',m' < m/\W (i + 1) m' σ' H')/\∀ x H',J.qL i H x H'->g x U H' fun σ2 H2=>tb { D with nx:=N,ct:=N,bk:=D.nx } σ2 H2)
def fG (fp:VR)(h:Heap):VF:=fp.filterMap fun b=>(h.get? b).map fun o=>(b,o)
def d8 {fp:VR}{h:Heap}{b:Addr}{o:Obj}(hb:b∈fp)(e:h.get? b=some o):(b,o)∈fG fp h:=UA.mpr ⟨b,hb,by rw [e];rfl⟩
def lA {fp:VR}{h:Heap}{p:Addr×Obj}(hp:p∈fG fp h):p.1∈fp/\h.get? p.1=some p.2:=by
 obtain ⟨b,hb,e⟩:=UA.mp hp;cases q:h.get? b with
 | none=>rw [q] at e;cases e
 | some o =>
  rw [q] at e;have e':(b,o)=p:=Option.some.inj e;subst e';exact ⟨hb,q⟩
def Inv.pinned {pins:VF}{U:St}{H:Hp}{s:Shared}{fp:VR}(I:Inv X pins U H s)(hf:∀ b∈fp,dN X pins H b)(ho:∀ b∈fp,∃ o,s.heap.get? b=some o/\∀ v,o.data≠.cell v):Inv X (pins++fG fp s.heap) U H s :=
 I.jC fun p hp=>(QA.mp hp).elim (fun z=>I.pin p (Qx _ z)) fun z=>by
  obtain ⟨hb,e⟩:=lA z;obtain ⟨f0,f1,f2,_⟩:=hf p.1 hb;obtain ⟨o,e',d⟩:=ho p.1 hb;rw [e] at e';cases e';exact ⟨e,f0,f1,f2,d⟩
def Inv.rq {pins pl:VF}{U:St}{H:Hp}{s:Shared}(I:Inv X (pins++pl) U H s):Inv X pins U H s:=I.jC fun p hp=>I.pin p (Qx _ (TV _ hp))
def MY {iter:Expr}{body:VU}{wi:TI}{g:TG}{tb:TS}{pos:Pos}(hp:PassesOwn (model X.prog X.w) X.A X.env X.xe)(hc:X.calm=true)(hi:PI X tg iter wi)(hg:PG X tg g)(hb:lI X body tb)
  (hs:∀ x,foldedSetIterable iter X.env x=pure x:=by intro _;rfl):PS X (.For tg iter body [] pos) (OU wi g tb):=by
 intro pins s U H D I h;refine wpAny_For (aR (hi pins s U H _ I h) fun v s1 h1=>aR h1 fun itv s2 h2=>?_) hs
 obtain ⟨it,fp,tn,J,H2,e,I2,T,st2,f2,W,⟨m0,w0⟩,turn⟩:=h2;subst e
 -- what stays true of the iterator's objects through the loop
 have stat:∀ {H':Hp},(∀ b∈fp,H' b=none)->∀ b∈fp,dN X pins H' b:=fun hn b hb=>⟨hn b hb,(f2 b hb).2⟩
 refine codeAny_forLoop_any (fun n s'=>∃ i σ' H',Inv X pins σ' H' s'/\tn i s'.heap/\(∀ b∈fp,H' b=none)/\W i n σ' H') ?_ m0 ⟨0,U,H2,I2,st2,fun b hb=>(f2 b hb).1,w0⟩
 rintro n s3 ⟨i,σ3,H3,I3,st3,fr3,w3⟩;rcases turn i n σ3 H3 w3 with ⟨stop,qn⟩ | ⟨go,N,hN,step⟩
 ·refine SV hp (aR (T.done X rfl rfl rfl hc i pins s3 σ3 H3 X.xe I3 (stat fr3) st3 stop) fun r s4 ⟨hr,I4⟩=>?_)
  subst hr;exact TZ ⟨σ3,H3,I4,qn⟩
 ·refine SV hp (aR (T.item X rfl rfl rfl hc i pins s3 σ3 H3 X.xe I3 (stat fr3) st3 go) fun r s4 ⟨u,hr,h4⟩=>?_)
  subst hr;refine SV hp (aR h4 fun _ s5 ⟨x,H5,I5,r5,y5,st5,fr5⟩=>?_)
  have I5':=I5.pinned (stat fr5) (T.obj _ _ st5);refine SV hp (aR (hg _ s5 σ3 H5 x u _ I5' r5 (step x H5 y5)) fun _ s6 ⟨σ6,H6,I6,q6⟩=>?_)
  refine SV hp (aR (hb _ s6 σ6 H6 _ I6 q6) fun f s7 q7=>?_)
  have again:∀ {σ7:St}{H7:Hp},Inv X (pins++fG fp s5.heap) σ7 H7 s7->N σ7 H7->∃ m,m < n/\∃ i σ' H',Inv X pins σ' H' s7/\tn i s7.heap/\(∀ b∈fp,H' b=none)/\W i m σ' H':=fun {σ7 H7} I7 n7=>by
   obtain ⟨m',hm,w7⟩:=hN σ7 H7 n7;refine ⟨m',hm,i + 1,σ7,H7,I7.rq,T.keep _ _ _ st5 fun b hb o e=>(I7.pin (b,o) (Qx _ (Qx _ (d8 hb e)))).1,fun b hb=>?_,w7⟩
   obtain ⟨o,e,d⟩:=T.obj _ _ st5 b hb;exact (I7.pin (b,o) (Qx _ (Qx _ (d8 hb e)))).2.1
  cases f with
  | next=>obtain ⟨σ7,H7,I7,n7⟩:=q7;exact again I7 n7
  | cont=>obtain ⟨σ7,H7,I7,n7⟩:=q7;exact again I7 n7
  | brk=>obtain ⟨σ7,H7,I7,q7⟩:=q7;exact ⟨σ7,H7,I7.rq,q7⟩
  | ret v=>obtain ⟨x7,σ7,H7,I7,r7,q7⟩:=q7;exact ⟨x7,σ7,H7,I7.rq,r7,q7⟩
end
abbrev R2:=V->V->Hp->VK->Prop
def bN (X:Cx)(f:Value->Value->Sem Value)(r:R2):Prop :=
 ∀ (pins:VF)(s:Shared)(U:St)(H:Hp) (x y:V)(v u:Value)(Q:VK),Inv X pins U H s->RelV x v->RelV y u->r x y H Q ->
  wpAny (model X.prog X.w) X.A (f v u) (EP X pins U Q) X.xe s
def b8 (X:Cx)(f:Value)(r:List V->Hp->VK->Prop):Prop :=
 ∀ (pins:VF)(s:Shared)(U:St)(H:Hp)(xs:List V)(us:VQ)(Q:VK),Inv X pins U H s->Vals xs us->r xs H Q ->
  wpAny (model X.prog X.w) X.A (call f us) (EP X pins U Q) X.xe s
def Pd (X:Cx)(r:V->Hp->(Bool->Hp->Prop)->Prop):Prop :=
 ∀ (pins:VF)(s:Shared)(U:St)(H:Hp) (x:V)(v:Value)(Q:Bool->Hp->Prop),Inv X pins U H s->RelV x v->r x H Q ->
  wpAny (model X.prog X.w) X.A (truthy v) (TP X pins U Q) X.xe s
def KW (r:R2)(ta tb:TE):TE:=fun U H Q=>ta U H fun x H1=>tb U H1 fun y H2=>r x y H2 Q
inductive Ow (C:Int->Int->Prop)(g:Int->Int->V) (x:V) (y:V)(H:Hp)(Q:VK):Prop
 | mk:∀ i j,(x=.int i)->(y=.int j)->(C i j)->(Q (g i j) H)->Ow C g x y H Q
def rI (C:Int->Int->Prop)(g:Int->Int->V):R2:=fun x y H Q=>Ow C g x y H Q
inductive MU (g:Int->Int->V) (x:V) (y:V)(H:Hp)(Q:VK):Prop
 | mk:∀ i j,(x=.int i)->(y=.int j)->(Q (g i j) H)->MU g x y H Q
def n5 (g:Int->Int->V):R2:=fun x y H Q=>MU g x y H Q
section
variable {X:Cx}{a b c:Expr}{ta tb tc:TE}{pos:Pos}
def GD (ha:PE X a ta)(hb:PE X b tb){pins:VF}{s:Shared}{U:St}{H:Hp}{R:V->V->Hp->Prop}(I:Inv X pins U H s)
  (h:ta U H fun x H1=>tb U H1 fun y H2=>R x y H2){Q:VC}{f:Value->Value->Sem Value}
  (hf:∀ v u s2 x y H2,Inv X pins U H2 s2->RelV x v->RelV y u->R x y H2->wpAny (model X.prog X.w) X.A (f v u) Q X.xe s2) :
  wpAny (model X.prog X.w) X.A (eval a X.env) (fun v s₁=>wpAny (model X.prog X.w) X.A (eval b X.env) (fun u s₂=>wpAny (model X.prog X.w) X.A (f v u) Q X.xe s₂) X.xe s₁) X.xe s:=by
 refine aR (ha pins s U H _ I h) fun v s1 ⟨x,H1,I1,r1,q1⟩=>?_
 refine aR (hb pins s1 U H1 _ I1 q1) fun u s2 ⟨y,H2,I2,r2,q2⟩=>?_
 exact hf v u s2 x y H2 I2 r1 r2 q2
def NZ {op:Operator}{r:R2}(ho:bN X (binaryOp op) r)(ha:PE X a ta)(hb:PE X b tb):PE X (.BinOp a op b pos) (KW r ta tb):=by
 intro pins s U H Q I h;exact wpAny_BinOp (GD ha hb I h fun v u s2 x y H2 I2 rx ry q=>ho pins s2 U H2 x y v u Q I2 rx ry q)
def HB {f:Value->Value->Sem Value}{C:Int->Int->Prop}{g:Int->Int->Int}
  (rule:∀ (i j:Int)(t u:Tok)(s:Shared)(Q:VC)(E:VC),C i j->Q (.int (g i j) s.toks) { s with toks:=s.toks + 1 }->wpAny (model X.prog X.w) X.A (f (.int i t) (.int j u)) Q E s) :
  bN X f (rI C fun i j=>.int (g i j)):=by
 intro pins s U H x y v u Q I rx ry h;obtain ⟨i,j,rfl,rfl,hc,q⟩:=h;obtain ⟨t,rfl⟩:=rx;obtain ⟨t',rfl⟩:=ry;exact rule i j t t' s _ _ hc ⟨.int (g i j),H,I.tok _,⟨_,rfl⟩,q⟩
def KU {f:Value->Value->Sem Value}{g:Int->Int->Int}
  (rule:∀ (i j:Int)(t u:Tok)(s:Shared)(Q:VC)(E:VC),Q (.int (g i j) s.toks) { s with toks:=s.toks + 1 }->wpAny (model X.prog X.w) X.A (f (.int i t) (.int j u)) Q E s) :
  bN X f (n5 fun i j=>.int (g i j)):=by
 intro pins s U H x y v u Q I rx ry h;obtain ⟨i,j,rfl,rfl,q⟩:=h;obtain ⟨t,rfl⟩:=rx;obtain ⟨t',rfl⟩:=ry;exact rule i j t t' s _ _ ⟨.int (g i j),H,I.tok _,⟨_,rfl⟩,q⟩
def Bc {f:Value->Value->Sem Value}{g:VH}
  (rule:∀ (i j:Int)(t u:Tok)(s:Shared)(Q:VC)(E:VC),Q (.bool (g i j)) s->wpAny (model X.prog X.w) X.A (f (.int i t) (.int j u)) Q E s) :
  bN X f (n5 fun i j=>.bl (g i j)):=by
 intro pins s U H x y v u Q I rx ry h;obtain ⟨i,j,rfl,rfl,q⟩:=h;obtain ⟨t,rfl⟩:=rx;obtain ⟨t',rfl⟩:=ry;exact rule i j t t' s _ _ ⟨.bl (g i j),H,I,rfl,q⟩
def Ge (i j:Int):Prop:=0<=j/\j<=1000000/\i.natAbs < 2 ^ 64
def j9 (i j:Int):Prop:=(-(2 ^ 64) < i/\i < 2 ^ 64)\/(-(2 ^ 64) < j/\j < 2 ^ 64)
def j9.ok {i j:Int}(h:j9 i j):IntMulOk i j:=by
 rcases h with ⟨h1,h2⟩ | ⟨h1,h2⟩
 ·exact .of_left (intBits_le_64 h1 h2)
 ·exact .of_right (intBits_le_64 h1 h2)
def LU:bN X (binaryOp .Add) (n5 fun i j=>.int (i + j)):=KU fun _ _ _ _ _ _ _ q=>add_int q
def K5:bN X (binaryOp .Sub) (n5 fun i j=>.int (i - j)):=KU fun _ _ _ _ _ _ _ q=>sub_int q
def My:bN X (binaryOp .Mult) (rI j9 fun i j=>.int (i * j)):=HB fun _ _ _ _ _ _ _ hc q=>mul_int q hc.ok
def L7:bN X (binaryOp .Mod) (rI (fun _ j=>0 < j) fun i j=>.int (i % j)):=HB fun i j _ _ _ _ _ hc q=>by
 have h1:(0:Int) < j:=hc;exact mod_int' (by lia) (by rw [Int.fmod_eq_emod_of_nonneg i (by lia)];exact q)
def KZ:bN X (binaryOp .Pow) (rI Ge fun i j=>.int (i ^ j.toNat)):=HB fun _ _ _ _ _ _ _ hc q=>pow_int_small hc.1 hc.2.1 hc.2.2 q
end
def Fj:V->V->Bool
 | .bE,.bE=>true | .bE,.int _=>true | .int _,.bE=>true | .bE,.bl _=>true | .bl _,.bE=>true | .bE,.str _=>true | .str _,.bE=>true
 | .int _,.int _=>true | .bl _,.bl _=>true | .str _,.str _=>true | .mH _,.mH _=>true
 | .int _,.str _=>true | .str _,.int _=>true | .bl _,.str _=>true | .str _,.bl _=>true
 | _,_=>false
def OG:R2:=fun x y H Q=>Fj x y=true/\Q (.bl (decide (x=y))) H
def OB:R2:=fun x y H Q=>Fj x y=true/\Q (.bl (!decide (x=y))) H
def AA {i j:Int}:decide (V.int i=V.int j)=(i == j):=by
 rw [Ro];simp
def C7 {i j:Bool}:decide (V.bl i=V.bl j)=(i == j):=by
 rw [Ro];simp
def z5 {i j:Str}:decide (V.str i=V.str j)=(i == j):=by
 rw [Ro];simp
def Ac {i j:Array UInt8}:decide (V.mH i=V.mH j)=(i.toList == j.toList):=by
 rw [Ro];cases i;cases j;simp
section
variable {X:Cx}{a b c:Expr}{ta tb tc:TE}{pos:Pos}
def aY {pins:VF}{U:St}{H:Hp}{s:Shared}{Q:VK}{k k':Bool}(I:Inv X pins U H s)(q:Q (.bl k) H)(e:k=k'):EP X pins U Q (.bool k') s:=by
 subst e;exact ⟨.bl k,H,I,rfl,q⟩
def Nv:bN X (compareOp .Eq) OG:=by
 intro pins s U H x y v u Q I rx ry h;obtain ⟨hs,q⟩:=h;cases x with
 | bE =>
  cases rx;cases y with
  | bE=>cases ry;exact PySem.EqNone.eq_none_none (aY I q (by simp))
  | bl j=>cases ry;exact PySem.EqNone.eq_none_bool (aY I q (by simp))
  | int j=>obtain ⟨t',rfl⟩:=ry;exact PySem.EqNone.eq_none_int (aY I q (by simp))
  | str j=>obtain ⟨t',rfl⟩:=ry;exact PySem.EqNone.eq_none_str (aY I q (by simp))
  | _=>exact absurd (show false=true from hs) Qu
 | bl i =>
  cases rx;cases y with
  | bE=>cases ry;exact PySem.EqNone.eq_bool_none (aY I q (by simp))
  | bl j=>cases ry;exact eq_bool (aY I q C7)
  | str j=>obtain ⟨t',rfl⟩:=ry;exact PySem.EqMixed.eq_bool_str (aY I q (by simp))
  | _=>exact absurd (show false=true from hs) Qu
 | int i =>
  obtain ⟨t,rfl⟩:=rx;cases y with
  | bE=>cases ry;exact PySem.EqNone.eq_int_none (aY I q (by simp))
  | int j=>obtain ⟨t',rfl⟩:=ry;exact eq_int (aY I q AA)
  | str j=>obtain ⟨t',rfl⟩:=ry;exact PySem.EqMixed.eq_int_str (aY I q (by simp))
  | _=>exact absurd (show false=true from hs) Qu
 | str i =>
  obtain ⟨t,rfl⟩:=rx;cases y with
  | bE=>cases ry;exact PySem.EqNone.eq_str_none (aY I q (by simp))
  | bl j=>cases ry;exact PySem.EqMixed.eq_str_bool (aY I q (by simp))
  | int j=>obtain ⟨t',rfl⟩:=ry;exact PySem.EqMixed.eq_str_int (aY I q (by simp))
  | str j=>obtain ⟨t',rfl⟩:=ry;exact eq_str (aY I q z5)
  | _=>exact absurd (show false=true from hs) Qu
 | mH i =>
  obtain ⟨t,rfl⟩:=rx;cases y with
  | mH j=>obtain ⟨t',rfl⟩:=ry;exact PySem.W.eq_bytes (aY I q Ac)
  | _=>exact absurd (show false=true from hs) Qu
 | _=>cases y <;> exact absurd (show false=true from hs) Qu
def Nq:bN X (compareOp .NotEq) OB:=by
 intro pins s U H x y v u Q I rx ry h;obtain ⟨hs,q⟩:=h;cases x with
 | bE =>
  cases rx;cases y with
  | bE=>cases ry;exact PySem.EqNone.ne_none_none (aY I q (by simp))
  | bl j=>cases ry;exact PySem.EqNone.ne_none_bool (aY I q (by simp))
  | int j=>obtain ⟨t',rfl⟩:=ry;exact PySem.EqNone.ne_none_int (aY I q (by simp))
  | str j=>obtain ⟨t',rfl⟩:=ry;exact PySem.EqNone.ne_none_str (aY I q (by simp))
  | _=>exact absurd (show false=true from hs) Qu
 | bl i =>
  cases rx;cases y with
  | bE=>cases ry;exact PySem.EqNone.ne_bool_none (aY I q (by simp))
  | bl j=>cases ry;exact ne_bool (aY I q (congrArg not C7))
  | str j=>obtain ⟨t',rfl⟩:=ry;exact PySem.EqMixed.ne_bool_str (aY I q (by simp))
  | _=>exact absurd (show false=true from hs) Qu
 | int i =>
  obtain ⟨t,rfl⟩:=rx;cases y with
  | bE=>cases ry;exact PySem.EqNone.ne_int_none (aY I q (by simp))
  | int j=>obtain ⟨t',rfl⟩:=ry;exact ne_int (aY I q (congrArg not AA))
  | str j=>obtain ⟨t',rfl⟩:=ry;exact PySem.EqMixed.ne_int_str (aY I q (by simp))
  | _=>exact absurd (show false=true from hs) Qu
 | str i =>
  obtain ⟨t,rfl⟩:=rx;cases y with
  | bE=>cases ry;exact PySem.EqNone.ne_str_none (aY I q (by simp))
  | bl j=>cases ry;exact PySem.EqMixed.ne_str_bool (aY I q (by simp))
  | int j=>obtain ⟨t',rfl⟩:=ry;exact PySem.EqMixed.ne_str_int (aY I q (by simp))
  | str j=>obtain ⟨t',rfl⟩:=ry;exact ne_str (aY I q (congrArg not z5))
  | _=>exact absurd (show false=true from hs) Qu
 | mH i =>
  obtain ⟨t,rfl⟩:=rx;cases y with
  | mH j=>obtain ⟨t',rfl⟩:=ry;exact PySem.W.ne_bytes (aY I q (congrArg not Ac))
  | _=>exact absurd (show false=true from hs) Qu
 | _=>cases y <;> exact absurd (show false=true from hs) Qu
def BL:bN X (compareOp .Lt) (n5 fun i j=>.bl (decide (i < j))):=Bc fun _ _ _ _ _ _ _ q=>lt_int q
def HZ:bN X (compareOp .LtE) (n5 fun i j=>.bl (decide (i<=j))):=Bc fun _ _ _ _ _ _ _ q=>le_int q
def Ot:bN X (compareOp .Gt) (n5 fun i j=>.bl (decide (j < i))):=Bc fun _ _ _ _ _ _ _ q=>gt_int q
def NV:bN X (compareOp .GtE) (n5 fun i j=>.bl (decide (j<=i))):=Bc fun _ _ _ _ _ _ _ q=>ge_int q
def AQ:bN X (compareOp .IsNot) (fun x y H Q=>y=.bE/\Q (.bl (!decide (x=.bE))) H):=by
 intro pins s U H x y v u Q I rx ry h;obtain ⟨rfl,q⟩:=h;cases ry;refine isnot_none_gen (aY I q ?_);cases x <;> first
  | (cases rx;rfl)
  | (obtain ⟨t,rfl⟩:=rx;rfl)
def bN.or {f:Value->Value->Sem Value}{r r':R2}(h:bN X f r)(h':bN X f r'):bN X f (fun x y H Q=>r x y H Q\/r' x y H Q):=by
 intro pins s U H x y v u Q I rx ry q;rcases q with q | q
 ·exact h pins s U H x y v u Q I rx ry q
 ·exact h' pins s U H x y v u Q I rx ry q
def jV (b:Expr){op:CmpOp}(h:op≠.In:=by decide)(h2:op≠.NotIn:=by decide):behindInMarks op b=false:=by
 have e1:(op == CmpOp.In)=false:=by cases op <;> first | rfl | exact absurd rfl h
 have e2:(op == CmpOp.NotIn)=false:=by cases op <;> first | rfl | exact absurd rfl h2
 cases b <;> simp [behindInMarks,e1,e2]
def JT {op:CmpOp}{r:R2}(ho:bN X (compareOp op) r)(ha:PE X a ta)(hb:PE X b tb)(hm:behindInMarks op b=false):PE X (.Compare a [op] [b] pos) (KW r ta tb):=by
 intro pins s U H Q I h;exact wpAny_Compare1 (GD ha hb I h fun v u s2 x y H2 I2 rx ry q=>ho pins s2 U H2 x y v u Q I2 rx ry q) hm
inductive CB (Q:(Bool->Hp->Prop)) (x:V)(H':Hp):Prop
 | mk:∀ k,(x=.bl k)->(Q k H')->CB Q x H'
def NY (t:TE):TT:=fun U H Q=>t U H fun x H'=>CB Q x H'
def L4 (r r':R2)(ta tb tc:TE):TE:=fun U H Q=>ta U H fun x H1=>tb U H1 fun y H2=>r x y H2 fun z H3=>∃ k,z=.bl k /\
 (if k=true then tc U H3 fun w' H4=>r' y w' H4 Q else Q (.bl false) H3)
def Gk {op op':CmpOp}{r r':R2}(ho:bN X (compareOp op) r)(ho':bN X (compareOp op') r')(ha:PE X a ta)(hb:PE X b tb)(hc:PE X c tc)
  (hm:lastMarks [op,op'] [b,c]=false:=by with_unfolding_all rfl):PT X (.Compare a [op,op'] [b,c] pos) (NY (L4 r r' ta tb tc)):=by
 intro pins s U H Q I h;refine isTrue_chain (aR (ha pins s U H _ I h) fun v s1 ⟨x,H1,I1,r1,q1⟩=>test_link (aR (hb pins s1 U H1 _ I1 q1) fun u s2 ⟨y,H2,I2,r2,q2⟩ =>
  aR (ho pins s2 U H2 x y v u _ I2 r1 r2 q2) fun d s3 ⟨z,H3,I3,r3,k,e,q3⟩=>?_)) hm
 subst e;cases r3;refine SR ?_;cases k with
 | false =>
  obtain ⟨k',e',q'⟩:=q3;cases e';exact ite_ff ⟨H3,I3,q'⟩
 | true =>
  refine ite_tt (test_last (aR (hc pins s3 U H3 _ I3 q3) fun w' s4 ⟨z',H4,I4,r4,q4⟩=>aR (ho' pins s4 U H4 y z' u w' _ I4 r2 r4 q4) fun d' s5 ⟨z2,H5,I5,r5,k2,e2,q5⟩=>?_))
  subst e2;cases r5;exact SR ⟨H5,I5,q5⟩
def uD (K:VL) (x:V)(H:Hp)(k:Bool):Prop :=
 match x with
 | .bE=>k=false
 | .bl b=>k=b
 | .int i=>k=(i != 0)
 | .str y=>y.length<=sizeLine/\k=((y.length:Int) != 0)
 | .mH y=>y.size<=sizeLine/\k=((y.size:Int) != 0)
 | .ref p=>(∃ xs,bX K H p xs/\k=!xs.isEmpty)\/(∃ xs,cj K H p xs/\k=!xs.isEmpty)\/∃ kvs,H p=some (.dK kvs)/\k=!kvs.isEmpty
 | _=>False
def Cd {κ:Type}{kvs:List (κ×V)}{vs:List (κ×Value)}(r:KV kvs vs):(!vs.isEmpty)=!kvs.isEmpty:=by
 cases r <;> rfl
def tS {xs:List V}{its:VQ}(r:Vals xs its):(!its.toArray.isEmpty)=!xs.isEmpty:=by
 cases r <;> simp
def mS:(sizeLine:Nat) < 2 ^ 63:=by rw [sizeLine_eq];decide
def Di:Pd X (fun x H Q=>∃ k,uD X.K x H k/\Q k H):=by
 intro pins s U H x v Q I rx h;obtain ⟨k,e,q⟩:=h;have hl:=mS;have hs:sizeLine=16777216:=sizeLine_eq;cases x with
 | bE =>
  cases rx;have e':k=false:=e;subst e';exact truthy_none ⟨H,I,q⟩
 | bl b =>
  cases rx;have e':k=b:=e;subst e';exact SR ⟨H,I,q⟩
 | int i =>
  obtain ⟨t,rfl⟩:=rx;have e':k=(i != 0):=e;subst e';exact PySem.P.truthy_int ⟨H,I,q⟩
 | str y =>
  obtain ⟨t,rfl⟩:=rx;obtain ⟨hy,e'⟩:y.length<=sizeLine/\k=((y.length:Int) != 0):=e;subst e';exact PySem.P.truthy_str (by lia) ⟨H,I.tok _,q⟩
 | mH y =>
  obtain ⟨t,rfl⟩:=rx;obtain ⟨hy,e'⟩:y.size<=sizeLine/\k=((y.size:Int) != 0):=e;subst e';exact PySem.W.truthy_bytes (by lia) ⟨H,I.tok _,q⟩
 | ref p =>
  cases rx;have e':(∃ xs,bX X.K H p xs/\k=!xs.isEmpty)\/(∃ xs,cj X.K H p xs/\k=!xs.isEmpty)\/∃ kvs,H p=some (.dK kvs)/\k=!kvs.isEmpty:=e;rcases e' with ⟨xs,hx,e'⟩ | ⟨xs,hx,e'⟩ | ⟨kvs,hx,e'⟩
  ·subst e';obtain ⟨its,r,pl,hz⟩:=I.list hx;have hlen:=r.length;exact wpAny_truthy_list pl.isList (by simp only [QJ];lia) ⟨H,I.tok _,by rw [tS r];exact q⟩
  ·subst e';obtain ⟨its,r,pl,hz⟩:=I.tuple hx;have hlen:=r.length;exact truthy_tuple pl (by simp only [QJ];lia) ⟨H,I.tok _,by rw [tS r];exact q⟩
  ·subst e';obtain ⟨hz,hS,vs,r,m⟩:kvs.length<=sizeLine/\(p == sysModules)=false/\∃ vs,KV kvs vs/\s.heap.DictOf (cT X.prog X.w) p vs:=I.hok p _ hx;have hlen:kvs.length=vs.length:=Paired.length r;exact wpAny_truthy_dict hS m (by lia) ⟨H,I.tok _,by rw [Cd r];exact q⟩
 | _=>exact (show False from e).elim
def x9 (ha:PE X a ta)(he:∀ whole,isTrue a X.env whole=(do let v <- whole;standAt a.pos;holding [v] (truthy v))) :
  PT X a (fun U H Q=>ta U H fun x H'=>∃ k,uD X.K x H' k/\Q k H'):=by
 intro pins s U H Q I h;exact isTrue_plain (aR (ha pins s U H _ I h) fun v s1 ⟨x,H1,I1,r1,q1⟩=>Di pins s1 U H1 x v Q I1 r1 q1) (he _)
def A1:bN X (binaryOp .Add) (fun x y H Q=>∃ i j,x=.str i/\y=.str j/\i.length + j.length<=sizeLine/\Q (.str (i++j)) H):=by
 intro pins s U H x y v u Q I rx ry h;obtain ⟨i,j,rfl,rfl,hz,q⟩:=h;obtain ⟨t,rfl⟩:=rx;obtain ⟨t',rfl⟩:=ry;exact add_str (fun t' tk=>⟨.str (i++j),H,I.tok _,⟨_,rfl⟩,q⟩) hz
def vals1 {x:V}{us:VQ}(r:Vals [x] us):∃ u,us=[u]/\RelV x u:=by
 cases r with
 | cons r1 r2=>cases r2;exact ⟨_,rfl,r1⟩
def vals2 {x y:V}{us:VQ}(r:Vals [x,y] us):∃ u w',us=[u,w']/\RelV x u/\RelV y w':=by
 cases r with
 | cons r1 r2 =>
  cases r2 with
  | cons r3 r4=>cases r4;exact ⟨_,_,rfl,r1,r3⟩
def Gs:b8 X (.builtin "abs") (fun xs H Q=>∃ i,xs=[.int i]/\Q (.int (if i < 0 then -i else i)) H):=by
 intro pins s U H xs us Q I r h;obtain ⟨i,rfl,q⟩:=h;obtain ⟨u,rfl,t,rfl⟩:=vals1 r;exact call_abs_int fun u tk=>⟨.int (if i < 0 then -i else i),H,I.tok _,⟨_,rfl⟩,q⟩
def CP (hc:X.calm=true):b8 X (.builtin "max") (fun xs H Q=>∃ i j,xs=[.int i,.int j]/\Q (.int (if j > i then j else i)) H):=by
 intro pins s U H xs us Q I r h;obtain ⟨i,j,rfl,q⟩:=h;obtain ⟨u,w',rfl,⟨t,rfl⟩,⟨t',rfl⟩⟩:=vals2 r;refine max_two_ints (I.ok.hd hc) fun h' tk k=>⟨_,H,I.kept k,?_,q⟩
 by_cases hj:j > i
 ·rw [if_pos hj,if_pos hj];exact ⟨_,rfl⟩
 ·rw [if_neg hj,if_neg hj];exact ⟨_,rfl⟩
def CU (hc:X.calm=true):b8 X (.builtin "min") (fun xs H Q=>∃ i j,xs=[.int i,.int j]/\Q (.int (if j < i then j else i)) H):=by
 intro pins s U H xs us Q I r h;obtain ⟨i,j,rfl,q⟩:=h;obtain ⟨u,w',rfl,⟨t,rfl⟩,⟨t',rfl⟩⟩:=vals2 r;refine min_two_ints (I.ok.hd hc) fun h' tk k=>⟨_,H,I.kept k,?_,q⟩
 by_cases hj:j < i
 ·rw [if_pos hj,if_pos hj];exact ⟨_,rfl⟩
 ·rw [if_neg hj,if_neg hj];exact ⟨_,rfl⟩
def EX:b8 X (.type "int") (fun xs H Q=>(∃ i,xs=[.int i]/\Q (.int i) H)\/∃ k,xs=[.bl k]/\Q (.int (if k then 1 else 0)) H):=by
 intro pins s U H xs us Q I r h;rcases h with ⟨i,rfl,q⟩ | ⟨k,rfl,q⟩
 ·obtain ⟨u,rfl,t,rfl⟩:=vals1 r;exact call_int_int ⟨.int i,H,I,⟨_,rfl⟩,q⟩
 ·obtain ⟨u,rfl,r1⟩:=vals1 r;cases r1;exact call_int_bool ⟨.int (if k then 1 else 0),H,I.tok _,⟨_,rfl⟩,q⟩
end
section
variable {prog:Program}{w:World}{A:Around}{E:VC}{s:Shared}{K:VL}{x dx C f:Addr}{mA:VE}{name:Str}{v:Value}
end
def lW.some_of {v:V}{o:VM}(r:lW (some v) o):∃ u,o=some u/\RelV v u:=by
 cases o with
 | none=>exact (show False from r).elim
 | some u=>exact ⟨u,rfl,r⟩
section
variable {P:Program}{w:World}{H H':Hp}{h h':Heap}{a C dx:Addr}{fs fs':List (Str×V)}
end
section
variable {X:Cx}{pins:VF}{U:St}{H:Hp}{s:Shared}{a C dx:Addr}{fs:List (Str×V)}{f:Str}{v:V}{A:Around}{E:VC}
end
section
variable {X:Cx}{o e value:Expr}{f:Str}{pos pos' tpos:Pos}{ta tv:TE}
end
section
variable {X:Cx}{pins:VF}{U:St}{H:Hp}{s:Shared}{A:Around}{E:VC}{Q:VC}{c:Value}{b:Bool}
end
structure cZ (k:Nat)(A:Around):Prop where
 hd:A.handled=none
 dp:A.depth + 3 * k + 5 < recursionLimit
 un:A.units + 16 * k + 200 < cLine
def cZ.mono {j k:Nat}{A:Around}(r:cZ k A)(h:j<=k):cZ j A:=⟨r.hd,by have:=r.dp;lia,by have:=r.un;lia⟩
theorem cZ.deeper {k:Nat}{A:Around}(r:cZ (k + 1) A)(env:Env):cZ k (A.deeper env) :=
 ⟨r.hd,by have:=r.dp;show A.depth + 1 + 3 * k + 5 < _;lia,by have:=r.un;show A.units + 3 + 16 * k + 200 < _;lia⟩
theorem cZ.depth {k:Nat}{A:Around}(r:cZ k A):A.depth < recursionLimit:=by have:=r.dp;lia
theorem cZ.units {k:Nat}{A:Around}(r:cZ k A):A.units + 64 < cLine:=by have:=r.un;lia
def Pa:TA:=fun _ H Q=>Q [] H
def NL (ta:TE)(tr:TA):TA:=fun U H Q=>ta U H fun x H1=>tr U H1 fun xs H2=>Q (x::xs) H2
section
variable {X:Cx}{e:Expr}{es:VT}{te:TE}{t:TA}{pos:Pos}
def tw:PA X [] Pa:=fun _ _ _ _ H Q I h=>Calls.spliced_nil ⟨[],H,I,.nil,h⟩
def qd (ha:PE X e te)(hr:PA X es t)(hs:starEach (e::es) X.env=(false,eval e X.env)::starEach es X.env:=by rfl):PA X (e::es) (NL te t):=by
 intro pos pins s U H Q I h;rw [hs];show wpAny _ _ (spliced ((false,eval e X.env)::backTo pos (starEach es X.env))) _ _ s;refine Calls.spliced_cons (aR (ha pins s U H _ I h) fun u s1 ⟨x,H1,I1,r1,q1⟩=>?_)
 exact aR (hr pos pins s1 U H1 _ I1 q1) fun us s2 ⟨xs,H2,I2,r2,q2⟩=>⟨x::xs,H2,I2,.cons r1 r2,q2⟩
def PD (t:TA):TE:=fun U H Q=>t U H fun xs H1=>xs.length<=sizeLine/\∀ p,H1 p=none->Q (.ref p) (upd H1 p (.tup xs))
def OT (t:TA):TE:=fun U H Q=>t U H fun xs H1=>xs.length<=sizeLine/\∀ p,H1 p=none->Q (.ref p) (upd H1 p (.lst xs))
def MZ {x1}(h:PA X es t):PE X (.Tuple es x1 pos) (PD t):=by
 intro pins s U H Q I hq;refine wpAny_Tuple_spliced (aR (h pos pins s U H _ I hq) fun us s1 ⟨xs,H1,I1,r,z,q⟩=>⟨by rw [<- r.length];exact z,?_⟩)
 have hf:H1 s1.heap.objs.size=none:=I1.hok.fresh (Q6 _);refine ⟨.ref s1.heap.objs.size,upd H1 s1.heap.objs.size (.tup xs),I1.laid (t':=s1.toks) (fun b u e=>QL _ e) (Q6 _) ?_,rfl,q _ hf⟩
 exact ⟨z,us,r,⟨_,R7 _ rfl,rfl,_,rfl⟩⟩
def LS (h:PA X es t):PE X (.List es pos) (OT t):=by
 intro pins s U H Q I hq;refine wpAny_List_spliced (aR (h pos pins s U H _ I hq) fun us s1 ⟨xs,H1,I1,r,z,q⟩=>⟨by rw [<- r.length];exact z,?_⟩)
 have hf:H1 s1.heap.objs.size=none:=I1.hok.fresh (Q6 _);refine ⟨.ref s1.heap.objs.size,upd H1 s1.heap.objs.size (.lst xs),I1.laid (t':=s1.toks) (fun b u e=>QL _ e) (Q6 _) ?_,rfl,q _ hf⟩
 exact ⟨z,us,0,r,R7 _ rfl⟩
end
abbrev Sp:=List V->Hp->VK->XK->Prop
abbrev lC:=List Env->Hp->Shared->XK->Value->Shared->Prop
structure Bf (P:Program)(w:World)(K:VL)(mg:VE)(base:Heap)(A:Around)(outer:List Env)(s:Shared)(H:Hp):Prop where
 frames:A.frames=some outer
 mod:Mod K mg base
 bs:∀ b o,base.get? b=some o->s.heap.get? b=some o/\H b=none
 oO:base.objs.size<=s.heap.objs.size
 iS:s.heap.FunFrames base outer
 sC:∀ b∈frs outer,H b=none
 hok:dI P w H s.heap
 bare:AllBare s.gens
def CE (outer:List Env)(P:Program)(w:World)(H:Hp)(s:Shared)(Q:VK)(u:Value)(s':Shared):Prop :=
 ∃ v H',s'.os=s.os/\AllBare s'.gens/\Un (frs outer) [] H H' s.heap s'.heap/\dI P w H' s'.heap/\RelV v u/\Q v H'
def CR (CX:lC)(outer:List Env)(P:Program)(w:World)(H:Hp)(s:Shared)(Q:VK)(E:XK)(r:Result)(s':Shared):Prop :=
 match r with
 | .ok (.ret u)=>CE outer P w H s Q u s'
 | .ok _=>False
 | .error e=>CX outer H s E e s'
structure gj (P:Program)(w:World)(K:VL)(mg:VE)(base:Heap)(CX:lC) (k:Nat)(f:Addr)(fd:FuncData)(ps:VX)(sp:Sp):Prop where
 len:∀ vs H Q E,sp vs H Q E->vs.length=ps.length
 run:∀ (A:Around)(outer:List Env)(s:Shared)(H:Hp)(args:Args)(us:VQ)(vs:List V)(Q:VK)(E:XK),cZ k A->Bf P w K mg base A outer s H->BindsTo s fd args (ps.zip us)->Vals vs us->sp vs H Q E ->
  codeAny (model P w) A (.call (.ref f) args) (CR CX outer P w H s Q E) s
def gj.imp {P:Program}{w:World}{K:VL}{mg:VE}{base:Heap}{CX:lC}{k:Nat}{f:Addr}{fd:FuncData}{ps:VX}{sp sp':Sp}(F:gj P w K mg base CX k f fd ps sp)
  (h:∀ vs H Q E,sp' vs H Q E->sp vs H Q E):gj P w K mg base CX k f fd ps sp' :=
 ⟨fun vs H Q E q=>F.len vs H Q E (h _ _ _ _ q),fun A outer s H args us vs Q E hr he hb hv hs=>F.run A outer s H args us vs Q E hr he hb hv (h _ _ _ _ hs)⟩
section
variable {X:Cx}{pins:VF}{U:St}{H:Hp}{s s':Shared}
def Inv.MT (I:Inv X pins U H s):Bf X.prog X.w X.K X.mg X.base X.A X.stack s H :=
 ⟨I.ok.frames,I.ok.mod,I.bs,QW I.ok.oO I.sz,I.stack,I.mG,I.hok,I.bare⟩
def Inv.after {Q:VK}{u:Value}(I:Inv X pins U H s)(h:CE X.stack X.prog X.w H s Q u s'):EP X pins U Q u s':=by
 obtain ⟨v,H',os,bare,un,hok,r,q⟩:=h;obtain ⟨hh,g,d,t,os'⟩:=s';obtain rfl:os'=s.os:=os;exact ⟨v,H',I.call (h':=hh) (g':=g) (d':=d) (t':=t) (ch:=[]) un hok bare (fun b z=>absurd z (by simp)),r,q⟩
end
def N9 (sp:Sp)(dvs:List V)(E:XK)(t:TA):TE:=fun U H Q=>t U H fun vs H1=>sp (vs++dvs) H1 Q E
def Binds (K:VL)(fd:FuncData)(ps:VX)(ds:VQ):Prop :=
 ∀ (s:Shared)(us:VQ),K.In s.heap->(us++ds).length=ps.length->BindsTo s fd ⟨us,[]⟩ (ps.zip (us++ds))
def Binds.all {K:VL}{fd:FuncData}{ps:VX}(h:∀ us:VQ,us.length=ps.length->bindArgs fd ⟨us,[]⟩=pure (ps.zip us)):Binds K fd ps []:=fun s us _ hl=>by
 rw [RN] at hl ⊢;exact .of_eq (h us hl)
def Passes (CX:lC)(X:Cx)(E:XK):Prop:=∀ (pins:VF)(U:St)(H:Hp)(s:Shared)(e:Value)(s':Shared),Inv X pins U H s->CX X.stack H s E e s'->X.xe e s'
section
variable {X:Cx}{CX:lC}{k:Nat}{f C:Addr}{fd:FuncData}{ps:VX}{sp:Sp}{dvs:List V}{ds:VQ}{E:XK}{x m:Str}{p pos apos:Pos}{e o:Expr}{es:VT}{ta:TE}{t:TA}
def LL {pins:VF}{U:St}{H:Hp}{s:Shared}{Q:VK}{us:VQ}{vs:List V}(F:gj X.prog X.w X.K X.mg X.base CX k f fd ps sp)(hr:cZ k X.A)(hb:Binds X.K fd ps ds)(hd:Vals dvs ds)(hx:Passes CX X E)
  (I:Inv X pins U H s)(r:Vals vs us)(h:sp (vs++dvs) H Q E):wpAny (model X.prog X.w) X.A (call (.ref f) us) (EP X pins U Q) X.xe s:=by
 have r2:Vals (vs++dvs) (us++ds):=r.append hd;have hl:(us++ds).length=ps.length:=by rw [<- r2.length];exact F.len _ _ _ _ h
 refine wpAny_call (Su (F.run X.A X.stack s H ⟨us,[]⟩ (us++ds) (vs++dvs) Q E hr I.MT (hb s us I.qG hl) r2 h) fun r s' hq=>?_)
 cases r with
 | error e=>exact hx pins U H s e s' I hq
 | ok fl =>
  cases fl with
  | ret u=>exact I.after hq
  | next=>exact False.elim hq
  | brk=>exact False.elim hq
  | cont=>exact False.elim hq
def Kf (F:gj X.prog X.w X.K X.mg X.base CX k f fd ps sp)(hr:cZ k X.A)(hg:Gl X x)(hm:X.mg x=some (.ref f))(hk:PySem.W.keepIn X.K (.ref f)=true)(hb:Binds X.K fd ps ds)(hd:Vals dvs ds)(hx:Passes CX X E)
  (ha:PA X (e::es) t)(hdb:(x == ("__debug__":Str))=false:=by decide)(he:starEach (e::es) X.env=(false,eval e X.env)::starEach es X.env:=by rfl)(hpl:(backTo pos (starEach es X.env)).any (·.1)=false:=by rfl) :
  PE X (.Call (.Name x p) (e::es) [] pos) (N9 sp dvs E t):=by
 intro pins s U H Q I h;refine UB (qg I hg hm ?_ hdb);refine PySem.W.callWith_K (h₀:=X.base) I.ok.mod.xK hk (aR (ha pos pins s U H _ I h) fun us s1 ⟨vs,H1,I1,r,q⟩=>⟨I1.qG,?_⟩) he hpl
 exact LL F hr hb hd hx I1 r q
end
section
variable {X:Cx}{CX:lC}{k:Nat}{f C:Addr}{fd:FuncData}{ps ks:VX}{sp:Sp}{E:XK}{x m:Str}{p pos apos kpos:Pos}{e o:Expr}{es:VT}{kws:List Keyword}{te ta:TE}{t tk:TA}{nm:Option Str}
variable {g:VQ->VQ->VQ}{gV:List V->List V->List V}
end
structure aM (N P:VX)(sc:Scope):Prop where
 kind:sc.kind=.function
 co:sc.isCoroutine=false
 gen:sc.isGenerator=false
 nd:N.Nodup
 pre:N.take P.length=P
 par:∀ x∈P,sc.names.lookup x=some .local\/sc.names.lookup x=some .cell
 wJ:∀ y∈sc.names,y.2≠.free
theorem vo {kindOf:Str->Option NameKind}{x:Str}:∀ {binds:List (Str×Value)}{m:VE},(∀ v,(x,v)∉binds)->bindL kindOf binds m x=m x
 | [],_,_=>rfl
 | (n,v)::r,m,h=>by
  unfold bindL;rw [vo fun w hw=>h w (Q7 _ hw)]
  split
  ·have:x≠n:=by rintro rfl;exact h v Q2
   simp [this]
  ·rfl
theorem vM {kindOf:Str->Option NameKind}{x:Str}:∀ {binds:List (Str×Value)}{m:VE},(∀ v,(x,v)∉binds)->bindC kindOf binds m x=m x
 | [],_,_=>rfl
 | (n,v)::r,m,h=>by
  unfold bindC;rw [vM fun w hw=>h w (Q7 _ hw)]
  split
  ·rfl
  ·have:x≠n:=by rintro rfl;exact h v Q2
   simp [this]
theorem vp {kindOf:Str->Option NameKind}{x:Str}{v:Value}:∀ {P:VX}{vs:VQ}{i:Nat}{m:VE},P.Nodup->P[i]?=some x->vs[i]?=some v->kindOf x=some .local ->
  bindL kindOf (P.zip vs) m x=some v
 | [],_,_,_,_,h,_,_=>by simp at h
 | _::_,[],_,_,_,_,h,_=>by simp at h
 | p::P,w::vs,0,m,nd,h1,h2,hk=>by
  simp at h1 h2;subst h1;subst h2;show bindL kindOf ((p,w)::P.zip vs) m p=_;unfold bindL;rw [vo fun v hv=>(R8.mp nd).1 (UC hv).1,if_pos hk]
  simp
 | p::P,w::vs,i + 1,m,nd,h1,h2,hk=>by
  show bindL kindOf ((p,w)::P.zip vs) m x=_;unfold bindL;exact vp (i:=i) (R8.mp nd).2 (by simpa using h1) (by simpa using h2) hk
theorem vC {kindOf:Str->Option NameKind}{x:Str}{v:Value}:∀ {P:VX}{vs:VQ}{i:Nat}{m:VE},P.Nodup->P[i]?=some x->vs[i]?=some v->kindOf x≠some .local ->
  bindC kindOf (P.zip vs) m x=some v
 | [],_,_,_,_,h,_,_=>by simp at h
 | _::_,[],_,_,_,_,h,_=>by simp at h
 | p::P,w::vs,0,m,nd,h1,h2,hk=>by
  simp at h1 h2;subst h1;subst h2;show bindC kindOf ((p,w)::P.zip vs) m p=_;unfold bindC;rw [vM fun v hv=>(R8.mp nd).1 (UC hv).1,if_neg hk]
  simp
 | p::P,w::vs,i + 1,m,nd,h1,h2,hk=>by
  show bindC kindOf ((p,w)::P.zip vs) m x=_;unfold bindC;exact vC (i:=i) (R8.mp nd).2 (by simpa using h1) (by simpa using h2) hk
def start (N:VX)(vs:List V):St:=vs.map some++List.replicate (N.length - vs.length) none
def gO (CX:lC)(P:Program)(w:World)(K:VL)(mg:VE)(base:Heap)(N:VX) (qual:Str)(scope:Scope)(f:Addr)(cd:Value)(A:Around)(outer:List Env)(s:Shared)(H:Hp)(E:XK):Cx where
 prog:=P
 w:=w
 K:=K
 mg:=mg
 base:=base
 A:=A.deeper (envOfC qual scope s.heap.objs.size f cd)
 N:=N
 s₀:=s
 H₀:=H
 env:=envOfC qual scope s.heap.objs.size f cd
 outer:=outer
 stack:=envOfC qual scope s.heap.objs.size f cd::outer
 ex:=[]
 calm:=true
 fn:=fun _=>true
 pn:=[]
 xe:=fun e s'=>wpAny (model P w) (A.deeper (envOfC qual scope s.heap.objs.size f cd)) (leaving (envOfC qual scope s.heap.objs.size f cd) e) (fun _ s''=>CX outer H s E e s'') (fun e' s''=>CX outer H s E e' s'') s'
def zf {sc:Scope}{n:Nat}{x:Str}(h:sc.names.lookup x=some .cell):∃ c,(cellsFrom n sc.names []).lookup x=some c:=by
 have q:=PySem.W.cellsFrom_some sc.names n [] (.inl h);exact Option.isSome_iff_exists.mp q
def Dg {CX:lC}{P:Program}{w:World}{K:VL}{mg:VE}{base:Heap}{N ps:VX}{qual:Str}{scope:Scope}{f:Addr}{cd:Value}{A:Around}{outer:List Env}{s s1:Shared}{H:Hp}{E:XK}{us:VQ}{vs:List V}
  (S:aM N ps scope)(hd:A.handled=none)(e0:Bf P w K mg base A outer s H)(hl:vs.length=ps.length)(r:Vals vs us)
  (x:InCallC s s.heap.objs.size (bindL (envOfC qual scope s.heap.objs.size f cd).kindOf (ps.zip us) fun _=>none) (cellsFrom (s.heap.objs.size + 1) scope.names []) (bindC (envOfC qual scope s.heap.objs.size f cd).kindOf (ps.zip us) fun _=>none) s1) :
  Inv (gO CX P w K mg base N qual scope f cd A outer s H E) [] (start N vs) H s1:=by
 have hpl:ps.length<=N.length:=by have:=congrArg List.length S.pre;rw [Rq] at this;lia
 obtain ⟨h1,tk,rfl,hk⟩:=x.done;have noA:∀ b:Addr,b∉(gO CX P w K mg base N qual scope f cd A outer s H E).ex:=fun b z=>absurd (show b∈([]:VR) from z) (by simp)
 refine ⟨⟨e0.mod,S.kind,rfl,rfl,Q6 _,fun y z c h1 h2=>?_,fun y hy=>?_,fun y c _ h=>?_,fun _=>hd,Around.frames_deeper e0.frames,.inr ⟨rfl,rfl⟩,fun b z=>absurd z (noA b),e0.bs,e0.oO,fun b _ _=>noA b,fun b z=>absurd z (noA b),e0.iS,e0.sC⟩,
  rfl,e0.bare,Un.kept hk,⟨_,x.toInCall.ns,fun i y v h1 h2 h3=>?_⟩,fun y c h=>⟨_,x.cell y c h⟩,e0.hok.fresh (Q6 _),fun y c h=>?_,fun p hp=>absurd (show p∈([]:VF) from hp) (by simp),e0.hok.kept hk,?_⟩
 ·exact name_of_addr x.apart (Tc h1) (Tc h2)
 ·have hy:scope.names.lookup y=some .cell\/scope.names.lookup y=some .free:=hy;rcases hy with hy | hy
  ·exact zf hy
  ·exact absurd rfl (S.wJ _ (Tc hy))
 ·exact Ry (x.above y c (Tc h))
 ·have hi:i < vs.length:=by
   unfold start at h2
   by_cases hi:i < vs.length
   ·exact hi
   ·rw [S5 (by simpa using hi)] at h2
    rw [Ui] at h2;split at h2 <;> cases h2
  have ha:vs[i]?=some v:=by
   unfold start at h2;rw [SW (by simpa using hi),QN] at h2
   cases e:vs[i]? with
   | none=>rw [e] at h2;cases h2
   | some a=>rw [e] at h2;cases h2;rfl
  obtain ⟨u,hu,rv⟩:=r.get ha;have hp:ps[i]?=some y:=by
   rw [<- S.pre,List.getElem?_take_of_lt (by lia)];exact h1
  have ndP:ps.Nodup:=by rw [<- S.pre];exact S.nd.sublist (List.take_sublist _ _)
  refine ⟨u,rv,?_⟩;rcases S.par y (QX hp) with k | k
  ·exact .inl ⟨k,vp ndP hp hu k⟩
  ·obtain ⟨c,e⟩:=zf (n:=s.heap.objs.size + 1) k;refine .inr ⟨.inl k,c,e,?_⟩;have q:=x.cell y c e;rw [vC ndP hp hu (by show scope.names.lookup y≠_;rw [k];decide)] at q
   exact q
 ·exact e0.hok.fresh (Ry (x.above y c (Tc h)))
 ·unfold start;show _=N.length;rw [QE,Q8,Rh];lia
def NH {CX:lC}{P:Program}{w:World}{K:VL}{mg:VE}{base:Heap}{k:Nat}{f:Addr}{name qual:Str}{params:Arguments}{body:VU}{scope:Scope}{dV kV doc pm cdv ct oc:Value}{an od:VP}
  {osl:VB}{N ps:VX}{sp:Sp}(lk:K.lookup f=some ⟨oc,od,.func (PySem.W.fnOf name qual params body scope dV kV doc pm an cdv ct),osl⟩)(hcd:PySem.W.codeIn K cdv qual=true)(S:aM N ps scope)
  (len:∀ vs H Q E,sp vs H Q E->vs.length=ps.length)
  (hbody:∀ (A:Around)(outer:List Env)(s:Shared)(H:Hp)(vs:List V)(Q:VK)(E:XK),cZ k (A.deeper (envOfC qual scope s.heap.objs.size f cdv))->sp vs H Q E ->
   ∃ t,lI (gO CX P w K mg base N qual scope f cdv A outer s H E) body t/\t { nx:=fun _ H'=>Q .bE H',rt:=Q } (start N vs) H) :
  gj P w K mg base CX (k + 1) f (PySem.W.fnOf name qual params body scope dV kV doc pm an cdv ct) ps sp:=by
 refine ⟨len,fun A outer s H args us vs Q E hr e0 hb r hsp=>?_⟩
 have hl:=len _ _ _ _ hsp;have KX:K.In s.heap:=e0.mod.xK.keeps fun b o e=>(e0.bs b o e).1
 have lim:s.heap.NoLimit:=e0.mod.nolimit.keeps fun b o e=>(e0.bs b o e).1
 have hkind:∀ y∈ps.zip us,scope.names.lookup y.1=some .local\/(scope.names.lookup y.1=some .cell/\((cellsFrom (s.heap.objs.size + 1) scope.names []).lookup y.1).isSome=true):=fun ⟨n,v⟩ hy=>by
  rcases S.par n (UC hy).1 with q | q
  ·exact .inl q
  ·exact .inr ⟨q,PySem.W.cellsFrom_some _ _ _ (.inl q)⟩
 refine codeAny_call_function hr.depth (KX _ _ lk) rfl S.co S.gen rfl (PySem.W.codeRec_of KX hcd) (hb _ _ _ _ ?_);refine wpAny_newFunctionEnv_cells S.kind hkind fun env he s1 x=>?_
 subst he;refine ⟨lim.keeps x.toInCall.keep,codeAny_func ?_⟩;obtain ⟨t,ht,hq⟩:=hbody A outer s H vs Q E (hr.deeper _) hsp;have I:Inv (gO CX P w K mg base N qual scope f cdv A outer s H E) [] (start N vs) H s1:=Dg S hr.hd e0 hl r x;refine Qq (ht [] s1 (start N vs) H _ I hq) (fun fl s' hs=>?_) fun e s' hs=>hs
 have fin:∀ {σ':St}{H':Hp}{v:V}{u:Value},Inv (gO CX P w K mg base N qual scope f cdv A outer s H E) [] σ' H' s'->RelV v u->Q v H'->CE outer P w H s Q u s' :=
  fun {σ' H' v u} J rv q=>⟨v,H',J.os,J.bare,J.base,J.hok,rv,q⟩
 cases fl with
 | ret u =>
  obtain ⟨v,σ',H',J,rv,q⟩:=hs;exact fin J rv q
 | next =>
  obtain ⟨σ',H',J,q⟩:=hs;exact fin (v:=V.bE) (u:=Value.none) J rfl q
 | brk =>
  obtain ⟨_,_,_,q⟩:=hs;exact False.elim q
 | cont =>
  obtain ⟨_,_,_,q⟩:=hs;exact False.elim q
section
variable {X:Cx}{x:Str}{p pos:Pos}{e:Expr}{es:VT}{t:TA}{id T:String}{r:List V->Hp->VK->Prop}
def Ov (r:List V->Hp->VK->Prop)(t:TA):TE:=fun U H Q=>t U H fun vs H1=>r vs H1 Q
def zj (hc:b8 X (.builtin id) r)(hg:Gl X x)(hm:X.mg x=none)(hv:bootBuiltins x=some (.builtin id))(ha:PA X (e::es) t)(hn:x≠"__name__":=by decide)(hdb:(x == ("__debug__":Str))=false:=by decide)
  (he:starEach (e::es) X.env=(false,eval e X.env)::starEach es X.env:=by rfl)(hpl:(backTo pos (starEach es X.env)).any (·.1)=false:=by rfl):PE X (.Call (.Name x p) (e::es) [] pos) (Ov r t):=by
 intro pins s U H Q I h;refine UB (oi I hg hm hv ?_ hn hdb);exact PyProof.Rows.callWith_builtin1 (aR (ha pos pins s U H _ I h) fun us s1 ⟨vs,H1,I1,r1,q1⟩=>hc pins s1 U H1 vs us Q I1 r1 q1) he hpl
def lM (hc:b8 X (.type T) r)(hg:Gl X x)(hm:X.mg x=none)(hv:bootBuiltins x=some (.type T))(ha:PA X (e::es) t)(hn:x≠"__name__":=by decide)(hdb:(x == ("__debug__":Str))=false:=by decide)
  (he:starEach (e::es) X.env=(false,eval e X.env)::starEach es X.env:=by rfl)(hpl:(backTo pos (starEach es X.env)).any (·.1)=false:=by rfl):PE X (.Call (.Name x p) (e::es) [] pos) (Ov r t):=by
 intro pins s U H Q I h;refine UB (oi I hg hm hv ?_ hn hdb);exact U9 (aR (ha pos pins s U H _ I h) fun us s1 ⟨vs,H1,I1,r1,q1⟩=>hc pins s1 U H1 vs us Q I1 r1 q1) he hpl
end
end L2
namespace HT
open PySem PyProof.Rows
section
open PySem.SeqAt
open PySem.AutoSeq1 (wpAny_loadPart')
open PySem.MeetsSeq PySem.MeetsSeq2 PySem.MeetsSeq3
end
section
variable {prog:Program}{w:World}{A:Around}{E:VC}{s:Shared}
def JO {t b:Addr}{vs ws:VQ}{Q:VC}(ht:IsTup s.heap t vs.toArray)(hb:IsTup s.heap b ws.toArray)(hv:vs≠[])
  (h1:ws=[]->Q (.ref t) s)(h2:ws≠[]->Q (.ref s.heap.objs.size) { s with heap:=s.heap.push { cls:=.type "tuple",data:=.seq (vs++ws).toArray } })
  (hsz:vs.length + ws.length<=sizeLine):wpAny (model prog w) A (binaryOp .Add (.ref t) (.ref b)) Q E s:=by
 obtain ⟨⟨cls,dd,data,sl⟩,ho,hc,n,hd⟩:=id ht;obtain ⟨⟨cls2,dd2,data2,sl2⟩,ho2,hc2,n2,hd2⟩:=id hb;simp only at hc hd hc2 hd2;subst hc hd hc2 hd2;have e:vs.toArray++ws.toArray=(vs++ws).toArray:=by simp
 by_cases hw:ws=[]
 ·exact concat_meets ⟨_,ho,rfl⟩ ⟨_,ho2,rfl⟩ noFill_tuple_add seq_tuple_add PySem.F.slot_tuple_add PySem.F.entry_tuple_add (PySem.F.args_tuple_add_2 _ _)
   (tuple_addW1 t b vs.toArray ws.toArray n n2 dd dd2 sl sl2 (by simpa using hv) (by simp [hw])) ⟨ho,ho2,h1 hw⟩
 ·refine concat_meets ⟨_,ho,rfl⟩ ⟨_,ho2,rfl⟩ noFill_tuple_add seq_tuple_add PySem.F.slot_tuple_add PySem.F.entry_tuple_add (PySem.F.args_tuple_add_2 _ _)
   (tuple_addW2 t b vs.toArray ws.toArray n n2 dd dd2 sl sl2 (by simpa using hv) (by simpa using hw) (by rw [QJ,QJ];exact hsz)) ⟨ho,ho2,?_⟩
  rw [e];exact h2 hw
def aN (n d:Nat):Option Int->Nat
 | none=>d
 | some v=>if v < 0 then (v + (n:Int)).toNat else min v.toNat n
def p8 (n d k:Nat):aN n d (some (k:Int))=min k n:=by
 show (if (k:Int) < 0 then ((k:Int) + (n:Int)).toNat else min (k:Int).toNat n)=min k n
 rw [if_neg (by lia),UD]
def Mx (n d:Nat)(hd:d<=n)(o:Option Int):aN n d o<=n:=by
 cases o with
 | none=>exact hd
 | some v =>
  show (if v < 0 then (v + (n:Int)).toNat else min v.toNat n)<=n
  by_cases hv:v < 0
  ·rw [if_pos hv];lia
  ·rw [if_neg hv];exact Uj _ _
def z0 (v:Int) (n d:Nat):(if v < 0 then max (v + (n:Int)) 0 else min v (n:Int))=((aN n d (some v):Nat):Int):=by
 show (if v < 0 then max (v + (n:Int)) 0 else min v (n:Int))=(((if v < 0 then (v + (n:Int)).toNat else min v.toNat n):Nat):Int)
 by_cases hv:v < 0
 ·simp only [if_pos hv];lia
 ·simp only [if_neg hv];lia
def Bx (lo hi:Option Int) (n:Nat):Builtin.Slice.sliceAdjust lo hi 1 (n:Int)=(((aN n 0 lo:Nat):Int),((aN n n hi:Nat):Int)):=by
 have h1:¬ ((1:Int) < 0):=by lia
 unfold Builtin.Slice.sliceAdjust;simp only [h1,if_false];refine Prod.ext ?_ ?_
 ·cases lo with
  | none=>rfl
  | some v=>exact z0 v n 0
 ·cases hi with
  | none=>rfl
  | some v=>exact z0 v n n
def BI (i j:Nat):Builtin.Slice.slicePlaces (i:Int) (j:Int) 1=j - i:=by
 unfold Builtin.Slice.slicePlaces;have h1:(1:Int) > 0:=by lia
 simp only [h1,if_true,Int.ediv_one];split <;> lia
def tW {v:Value}{o:Option Int}{Q:Option Int->Shared->Prop}(p:IsPart v o)(h:Q o s):wpAny (model prog w) A (Builtin.Slice.slicePartIndex v) Q E s:=by
 cases p with
 | none=>exact slicePart_none h
 | int i t=>exact slicePart_int h
def kF {sl:Addr}{vl vu:Value}{lo hi:Option Int}{n:Nat}{Q:Int×Int×Nat->Shared->Prop}(hs:s.heap.IsSliceOf sl vl vu .none)(pl:IsPart vl lo)(pu:IsPart vu hi)
  (h:Q (((aN n 0 lo:Nat):Int),1,aN n n hi - aN n 0 lo) s):wpAny (model prog w) A (Builtin.Slice.sliceApplied (.ref sl) (pure (n:Int))) Q E s:=by
 obtain ⟨os,hos,hcs,hds⟩:=id hs;unfold Builtin.Slice.sliceApplied Builtin.Slice.sliceFields;refine Q0 (Q0 (Rz hos hds (x:=vl) rfl (Q0 (Rz hos hds (x:=vu) rfl (Q0 (Rz hos hds (x:=.none) rfl (Q5 ?_)))))));refine Q0 (slicePart_none ?_);show wpAny _ _ (if ((1:Int) == 0)=true then _ else _) _ _ s
 rw [if_neg (by decide)]
 refine Q0 (tW pl (Q0 (tW pu (Q0 (Q5 ?_)))));show wpAny _ _ (match Builtin.Slice.sliceAdjust lo hi 1 (n:Int) with | (lo,hi)=>pure (lo,(1:Int),Builtin.Slice.slicePlaces lo hi 1)) _ _ s
 rw [Bx lo hi n];show wpAny _ _ (pure (((aN n 0 lo:Nat):Int),(1:Int),Builtin.Slice.slicePlaces ((aN n 0 lo:Nat):Int) ((aN n n hi:Nat):Int) 1)) _ _ s;rw [BI];exact Q5 h
def GU (xs:VN) (i k:Nat):((List.range k).filterMap fun (m:Nat)=>xs[((i:Int) + (m:Int) * 1).toNat]?).toArray=((xs.toList.drop i).take k).toArray:=by
 have e:(fun (m:Nat)=>xs[((i:Int) + (m:Int) * 1).toNat]?)=fun m=>xs[i + m]?:=by
  funext m;have:((i:Int) + (m:Int) * 1).toNat=i + m:=by lia
  rw [this]
 rw [e];have:=pick_run xs i k;rw [List.filterMap_map] at this;have e2:((fun x=>xs[x]?) ∘ fun x=>i + x)=fun m=>xs[i + m]?:=rfl
 rw [e2] at this;rw [this]
def qv {t sl:Addr}{items:VN}{vl vu:Value}{lo hi:Option Int}{Q:VC}(ht:IsTup s.heap t items)(hs:s.heap.IsSliceOf sl vl vu .none)(pl:IsPart vl lo)(pu:IsPart vu hi)
  (hw:¬ (aN items.size 0 lo=0/\aN items.size items.size hi=items.size))
  (h:Q (.ref s.heap.objs.size) { s with heap:=s.heap.push { cls:=.type "tuple",data:=.seq ((items.toList.drop (aN items.size 0 lo)).take (aN items.size items.size hi - aN items.size 0 lo)).toArray } })
  (hsz:items.size<=sizeLine):wpAny (model prog w) A (getItem (.ref t) (.ref sl)) Q E s:=by
 have htake:sizeOk (.seq ((items.toList.drop (aN items.size 0 lo)).take (aN items.size items.size hi - aN items.size 0 lo)).toArray):=by
  show ((items.toList.drop (aN items.size 0 lo)).take (aN items.size items.size hi - aN items.size 0 lo)).toArray.size<=sizeLine;rw [QJ,Rq,Sv,Rg];exact QW (Uj _ _) (QW (Nat.sub_le _ _) hsz)
 have hj:aN items.size items.size hi<=items.size:=Mx _ _ (Q6 _) hi;obtain ⟨os,hos,hcs,hds⟩:=id hs;have hTs:s.TypeIs (.ref sl) "slice":=⟨os,hos,hcs⟩;unfold getItem
 try with_reducible refine RX ?_
 first | refine Q0 (Q5 ?_) | skip
 refine Q0 (wpAny_sequenceKey ht.typeIs (by decide) ?_)
 refine Q0 (UE (name:=Str.ofString "__getitem__") ht.typeIs UG
  (S6 UG ht.typeIs entry_tuple_getitem ?_ (args_tuple_getitem _ _)))
 show wpAny _ _ (Builtin.Tuple.tupleItemsOf (.ref t) >>= _) _ _ s;refine Q0 (tupleItemsOf_ ht ?_);refine Q0 (Sw hTs ?_);rw [if_pos (by decide)]
 refine Q0 (kF hs pl pu ?_);have hno:¬ ((((aN items.size 0 lo:Nat):Int) == 0 && (1:Int) == 1 && (aN items.size items.size hi - aN items.size 0 lo) == items.size)=true):=by
  intro q;rw [QC,QC] at q;have q1:((aN items.size 0 lo:Nat):Int)=0:=SX q.1.1;have q2:aN items.size items.size hi - aN items.size 0 lo=items.size:=SX q.2;exact hw ⟨by lia,by lia⟩
 show wpAny _ _ (if (((aN items.size 0 lo:Nat):Int) == 0 && (1:Int) == 1 && (aN items.size items.size hi - aN items.size 0 lo) == items.size)=true then _ else _) _ _ s
 rw [if_neg hno,GU]
 first
  | exact Q0 (m:=Builtin.Tuple.tupleExact _) (Rr (Q5 ⟨_,rfl,Q5 h⟩) htake)
  | exact Q0 (m:=Builtin.Tuple.tupleExact _) (Rr (Q0 (Q5 (Q5 ⟨_,rfl,Q5 h⟩))) htake)
  | exact Q0 (Q0 (m:=Builtin.Tuple.tupleExact _) (Rr (Q5 (Q5 ⟨_,rfl,Q5 h⟩)) htake))
  | exact Q0 (Q0 (m:=Builtin.Tuple.tupleExact _) (Rr (Q5 ⟨_,rfl,Q5 h⟩) htake))
end
end HT
namespace L2
open PySem PySem.Spec PyProof.Rows
abbrev TO:=St->Hp->(Option Int->Hp->Prop)->Prop
def PO (X:Cx)(e:Option Expr)(t:TO):Prop :=
 ∀ (pins:VF)(s:Shared)(U:St)(H:Hp)(Q:Option Int->Hp->Prop),Inv X pins U H s->t U H Q ->
  wpAny (model X.prog X.w) X.A (evalPart e X.env) (fun u s'=>∃ o H',Inv X pins U H' s'/\IsPart u o/\Q o H') X.xe s
def JX:TO:=fun _ H Q=>Q none H
def NC (t:TE):TO:=fun U H Q=>t U H fun x H1=>∃ i,x=.int i/\Q (some i) H1
def intsAre_of {ns:VW}:∀ {us:VQ},Vals (ns.map V.int) us->IntsAre us ns:=by
 induction ns with
 | nil=>intro us r;rw [List.map_nil] at r;cases r;exact .nil
 | cons n ns ih =>
  intro us r;rw [QO] at r;cases r with
  | cons r1 r2 =>
   obtain ⟨t,e⟩:=r1;subst e;exact .cons n t (ih r2)
section
variable {X:Cx}{e:Expr}{te:TE}{lo hi:Option Expr}{tl th:TO}{pos p2:Pos}
def Ja:PO X none JX:=by
 intro pins s U H Q I h;rw [evalPart_none];exact Q5 ⟨none,H,I,.none,h⟩
def Kl (h:PE X e te):PO X (some e) (NC te):=by
 intro pins s U H Q I hw;rw [evalPart_some];refine aR (h pins s U H _ I hw) fun u s1 ⟨x,H1,I1,r1,q1⟩=>?_
 obtain ⟨i,rfl,q⟩:=q1;obtain ⟨t,rfl⟩:=r1;exact ⟨some i,H1,I1,.int i t,q⟩
def Dt (X:Cx)(r:V->Option Int->Option Int->Hp->VK->Prop):Prop :=
 ∀ (pins:VF)(s:Shared)(U:St)(H:Hp) (x:V)(v vl vu:Value)(lo hi:Option Int)(sl:Addr)(Q:VK),Inv X pins U H s->RelV x v->s.heap.IsSliceOf sl vl vu .none->IsPart vl lo->IsPart vu hi->r x lo hi H Q ->
  ∃ T id,typeLookup (.type T) "__getitem__"=pure (some (.builtin id))/\s.TypeIs v T/\wpAny (model X.prog X.w) X.A (getItem v (.ref sl)) (EP X pins U Q) X.xe s
def Qn (r:V->Option Int->Option Int->Hp->VK->Prop)(te:TE)(tl th:TO):TE:=fun U H Q=>te U H fun x H1=>tl U H1 fun l H2=>th U H2 fun u H3=>r x l u H3 Q
def FJ {r:V->Option Int->Option Int->Hp->VK->Prop}(hr:Dt X r)(he:PE X e te)(hl:PO X lo tl)(hu:PO X hi th):PE X (.Subscript e (.Slice lo hi none p2) pos) (Qn r te tl th):=by
 intro pins s U H Q I h;refine Subscript_ (aR (he pins s U H _ I h) fun v s1 ⟨x,H1,I1,r1,q1⟩=>?_)
 refine wpAny_Slice (aR (hl pins s1 U H1 _ I1 q1) fun vl s2 ⟨l,H2,I2,pl,q2⟩=>aR (hu pins s2 U H2 _ I2 q2) fun vu s3 ⟨u,H3,I3,pu,q3⟩=>?_)
 rw [evalPart_none];refine Q5 ?_;have I4:Inv X pins U H3 { s3 with heap:=s3.heap.push { cls:=.type "slice",data:=.fields #[vl,vu,.none] } }:=I3.kept (t':=s3.toks) fun b ob q=>QL _ q
 obtain ⟨T,id,hT,ht,hg⟩:=hr pins { s3 with heap:=s3.heap.push { cls:=.type "slice",data:=.fields #[vl,vu,.none] } } U H3 x v vl vu l u s3.heap.objs.size Q I4 r1 (Heap.IsSliceOf.new ..) pl pu q3
 show wpAny (model X.prog X.w) X.A (subscriptTail e (.Slice lo hi none p2) v (.ref s3.heap.objs.size)) (EP X pins U Q) X.xe { s3 with heap:=s3.heap.push { cls:=.type "slice",data:=.fields #[vl,vu,.none] } }
 exact tail_any (ops:=[.ref s3.heap.objs.size,v]) ht hT hg (by with_unfolding_all rfl)
def m6 (xs:List V)(lo hi:Option Int):List V:=(xs.drop (HT.aN xs.length 0 lo)).take (HT.aN xs.length xs.length hi - HT.aN xs.length 0 lo)
def qT (xs:List V)(lo hi:Option Int):(m6 xs lo hi).length<=xs.length:=by
 unfold m6;rw [Rq,Sv];exact QW (Uj _ _) (Nat.sub_le _ _)
def OX (K:VL):V->Option Int->Option Int->Hp->VK->Prop:=fun x lo hi H Q=>∃ a xs,x=.ref a/\cj K H a xs /\
 ¬ (HT.aN xs.length 0 lo=0/\HT.aN xs.length xs.length hi=xs.length)/\∀ p,H p=none->Q (.ref p) (upd H p (.tup (m6 xs lo hi)))
def Lp:Dt X (OX X.K):=by
 intro pins s U H x v vl vu lo hi sl Q I rx hs pl pu h;obtain ⟨a,xs,rfl,hx,hw,q⟩:=h;cases rx;obtain ⟨its,r,ht,hz⟩:=I.tuple hx;have hlen:its.toArray.size=xs.length:=by rw [QJ];exact r.length.symm
 refine ⟨"tuple",_,V7,ht.typeIs,?_⟩;refine HT.qv ht hs pl pu (by rw [hlen];exact hw) ?_ (by rw [hlen];exact hz)
 rw [hlen];refine ⟨.ref s.heap.objs.size,_,I.laid (t':=s.toks) (o:=.tup (m6 xs lo hi)) (fun b ob q=>QL _ q) (Q6 _) ?_,rfl,q _ (I.hok.fresh (Q6 _))⟩
 exact ⟨QW (qT xs lo hi) hz,_,(r.drop (HT.aN xs.length 0 lo)).take (HT.aN xs.length xs.length hi - HT.aN xs.length 0 lo),IsTup.new _ _⟩
def Hy (K:VL):R2:=fun x y H Q=>∃ a b xs ys,x=.ref a/\y=.ref b/\cj K H a xs/\cj K H b ys/\xs≠[]/\xs.length + ys.length<=sizeLine /\
 (ys=[]->Q (.ref a) H)/\(ys≠[]->∀ p,H p=none->Q (.ref p) (upd H p (.tup (xs++ys))))
def Vals.uU {xs:List V}{us:VQ}(r:Vals xs us):us=[]↔xs=[]:=by
 cases r with
 | nil=>simp
 | cons _ _=>simp
def JY:bN X (binaryOp .Add) (Hy X.K):=by
 intro pins s U H x y v u Q I rx ry h;obtain ⟨a,b,xs,ys,rfl,rfl,ha,hb,hx,hz,q1,q2⟩:=h;cases rx;cases ry;obtain ⟨its,r1,p1,_⟩:=I.tuple ha;obtain ⟨its2,r2,p2,_⟩:=I.tuple hb;refine HT.JO p1 p2 (fun z=>hx (r1.uU.mp z)) (fun z=>⟨.ref a,H,I,rfl,q1 (r2.uU.mp z)⟩) (fun z=>?_) (by rw [<- r1.length,<- r2.length];exact hz)
 refine ⟨.ref s.heap.objs.size,_,I.laid (t':=s.toks) (o:=.tup (xs++ys)) (fun b ob q=>QL _ q) (Q6 _) ?_,rfl,q2 (fun w=>z (r2.uU.mpr w)) _ (I.hok.fresh (Q6 _))⟩
 exact ⟨by rw [QE];exact hz,_,r1.append r2,IsTup.new _ _⟩
end
def nU (n:Nat) (i:Int):Option Nat:=if 0<=i then (if i < n then some i.toNat else none) else if -(n:Int)<=i then some (i + n).toNat else none
def eE {α:Type}(xs:List α) (i:Int):Option α:=(nU xs.length i).bind fun j=>xs[j]?
def AM {n:Nat}{i:Int}{j:Nat}(h:nU n i=some j):seqIndex? i n=some j/\j < n/\-(n:Int)<=i/\i < n:=by
 unfold nU at h
 by_cases h0:0<=i
 ·rw [if_pos h0] at h
  by_cases h1:i < n
  ·rw [if_pos h1] at h;have e:i.toNat=j:=Option.some.inj h;exact ⟨by rw [seqIndex_of h0 h1,e],by lia,by lia,h1⟩
  ·rw [if_neg h1] at h;cases h
 ·rw [if_neg h0] at h
  by_cases h1:-(n:Int)<=i
  ·rw [if_pos h1] at h;have e:(i + n).toNat=j:=Option.some.inj h;exact ⟨by rw [seqIndex_neg (by lia) h1,e],by lia,h1,by lia⟩
  ·rw [if_neg h1] at h;cases h
def uR {α:Type}{xs:List α}{i:Int}{v:α}(h:eE xs i=some v):∃ j,seqIndex? i xs.length=some j/\xs[j]?=some v/\j < xs.length/\-(xs.length:Int)<=i/\i < xs.length:=by
 unfold eE at h;cases e:nU xs.length i with
 | none=>rw [e] at h;cases h
 | some j =>
  rw [e] at h;obtain ⟨h1,h2,h3,h4⟩:=AM e;exact ⟨j,h1,h,h2,h3,h4⟩
def mK (b:Expr):Prop:=∀ o i,subscripted b false o i=operate [o,i] (getItem o i)
def nR (X:Cx)(r:R2):Prop :=
 ∀ (value slice:Expr)(pins:VF)(s:Shared)(U:St)(H:Hp) (x y:V)(v u:Value)(Q:VK),Inv X pins U H s->RelV x v->RelV y u->r x y H Q ->
  subscripted slice false v u=operate [v,u] (getItem v u)->wpAny (model X.prog X.w) X.A (subscriptTail value slice v u) (EP X pins U Q) X.xe s
def OD (X:Cx)(id:String)(r:V->List V->Hp->VK->Prop):Prop :=
 ∀ (pins:VF)(s:Shared)(U:St)(H:Hp) (x:V)(xs:List V)(v:Value)(us:VQ)(Q:VK),Inv X pins U H s->RelV x v->Vals xs us->r x xs H Q ->
  wpAny (model X.prog X.w) X.A (call (.builtin id) (v::us)) (EP X pins U Q) X.xe s
section
variable {X:Cx}{a b:Expr}{ta tb:TE}{pos:Pos}
def nR.or {r r':R2}(h:nR X r)(h':nR X r'):nR X (fun x y H Q=>r x y H Q\/r' x y H Q):=by
 intro value slice pins s U H x y v u Q I rx ry q hs;rcases q with q | q
 ·exact h value slice pins s U H x y v u Q I rx ry q hs
 ·exact h' value slice pins s U H x y v u Q I rx ry q hs
def Hz {r:R2}(hr:nR X r)(ha:PE X a ta)(hb:PE X b tb)(hs:mK b):PE X (.Subscript a b pos) (KW r ta tb):=by
 intro pins s U H Q I h;exact Subscript_ (GD ha hb I h fun v u s2 x y H2 I2 rx ry q=>hr a b pins s2 U H2 x y v u Q I2 rx ry q (hs _ _))
inductive Hg (K:VL) (x:V) (y:V)(H:Hp)(Q:VK):Prop
 | mk:∀ p xs i v,(x=.ref p)->(y=.int i)->(bX K H p xs)->(eE xs i=some v)->(Q v H)->Hg K x y H Q
def KP (K:VL):R2:=fun x y H Q=>Hg K x y H Q
inductive Hw (K:VL) (x:V) (y:V)(H:Hp)(Q:VK):Prop
 | mk:∀ p xs i v,(x=.ref p)->(y=.int i)->(cj K H p xs)->(eE xs i=some v)->(Q v H)->Hw K x y H Q
def KQ (K:VL):R2:=fun x y H Q=>Hw K x y H Q
inductive HP (x:V) (y:V)(H:Hp)(Q:VK):Prop
 | mk:∀ z i c,(x=.str z)->(y=.int i)->(z.length<=sizeLine)->(eE z.cps.toList i=some c)->(Q (.str ⟨#[c]⟩) H)->HP x y H Q
def MJ:R2:=fun x y H Q=>HP x y H Q
def Ji:nR X (KP X.K):=by
 intro value slice pins s U H x y v u Q I rx ry h hs;obtain ⟨p,xs,i,z,rfl,rfl,hq,he,q⟩:=h;cases rx;obtain ⟨t,rfl⟩:=ry;obtain ⟨its,r,pl,hz⟩:=I.list hq;obtain ⟨j,h1,h2,h3,h4,h5⟩:=uR he;obtain ⟨w,ew,rw'⟩:=r.get h2;have hl:=r.length;have hn:=mS;have fin:EP X pins U Q w s:=⟨z,H,I,rw',q⟩
 by_cases h0:0<=i
 ·have hj:i.toNat=j:=by
   rw [seqIndex_of h0 h5] at h1;exact Option.some.inj h1
  exact item_listR pl.isList h0 (by lia) (by rw [hj];simpa using ew) fin hs
 ·have hj:(i + (its.toArray.size:Int)).toNat=j:=by
   rw [seqIndex_neg (by lia) h4] at h1
   rw [QJ,<- hl];exact Option.some.inj h1
  exact subscriptTail_builtinR (x:=w) pl.isList.typeIs slot_list_getitem.lookup
   (wpAny_getItem_list_neg (Q:=fun r s'=>r=w/\EP X pins U Q r s') pl.isList (by lia) (by rw [QJ] <;> lia) (by lia) (by rw [hj];simpa using ew) ⟨rfl,fin⟩) hs
def M3:nR X (KQ X.K):=by
 intro value slice pins s U H x y v u Q I rx ry h hs;obtain ⟨p,xs,i,z,rfl,rfl,hq,he,q⟩:=h;cases rx;obtain ⟨t,rfl⟩:=ry;obtain ⟨its,r,pl,hz⟩:=I.tuple hq;obtain ⟨j,h1,h2,h3,h4,h5⟩:=uR he;obtain ⟨w,ew,rw'⟩:=r.get h2;have hl:=r.length;have hn:=mS;have fin:EP X pins U Q w s:=⟨z,H,I,rw',q⟩;exact subscriptTail_builtinR (x:=w) pl.typeIs slot_tuple_getitem.lookup
  (getItem_tuple (j:=j) (Q:=fun r s'=>r=w/\EP X pins U Q r s') pl (by lia) (by lia) (by rw [QJ,<- hl];exact h1) (by simpa using ew) ⟨rfl,fin⟩) hs
def L5:nR X MJ:=by
 intro value slice pins s U H x y v u Q I rx ry h hs;obtain ⟨z,i,c,rfl,rfl,hz,he,q⟩:=h;obtain ⟨t,rfl⟩:=rx;obtain ⟨t',rfl⟩:=ry;obtain ⟨j,h1,h2,h3,h4,h5⟩:=uR he;have hl:z.cps.toList.length=z.length:=by simp [Str.length]
 rw [hl] at h1 h4 h5;have hn:=mS;exact tail_any (typeIs_str s z t) slot_str_getitem.lookup (getItem_str (c:=c) (by
  have e1:decide (i < -(2 ^ 63:Int))=false:=Rf (by lia)
  have e2:decide (i >= 2 ^ 63)=false:=Rf (by lia)
  rw [e1,e2,Bool.or_false]) (by rw [h1];simpa using h2) ⟨.str ⟨#[c]⟩,H,I.tok _,⟨_,rfl⟩,q⟩) hs
def Lm (K:VL):R2:=fun x y H Q=>KP K x y H Q\/KQ K x y H Q\/MJ x y H Q
def Fe:nR X (Lm X.K):=Ji.or (M3.or L5)
def Cf (its:VQ) (n j:Nat)(u:Value):Obj.mapSeq (·.setIfInBounds j u) { cls:=.type "list",data:=.seq its.toArray n }={ cls:=.type "list",data:=.seq (its.set j u).toArray n }:=by
 simp [Obj.mapSeq]
theorem Inv.lst {pins:VF}{U:St}{H:Hp}{s:Shared}{p:Addr}{xs:List V}(I:Inv X pins U H s)(h:H p=some (.lst xs)) :
  ∃ (its:VQ) (n:Nat),Vals xs its/\s.heap.get? p=some { cls:=.type "list",data:=.seq its.toArray n }/\xs.length<=sizeLine:=by
 obtain ⟨z,its,n,r,e⟩:=I.hok p _ h;exact ⟨its,n,r,e,z⟩
def Inv.K1 {pins:VF}{U:St}{H:Hp}{s:Shared}{p:Addr}{xs ys:List V}{its its':VQ}{n n':Nat}{f:Obj->Obj}(I:Inv X pins U H s)(h:H p=some (.lst xs))
  (ho:s.heap.get? p=some { cls:=.type "list",data:=.seq its.toArray n })(hf:f { cls:=.type "list",data:=.seq its.toArray n }={ cls:=.type "list",data:=.seq its'.toArray n' })(r:Vals ys its')(hz:ys.length<=sizeLine) (t:Nat) :
  Inv X pins U (upd H p (.lst ys)) { s with heap:=s.heap.update p f,toks:=t }:=by
 have e:(s.heap.update p f).get? p=some { cls:=.type "list",data:=.seq its'.toArray n' }:=by
  rw [S0 f ho (by rw [hf] <;> rfl),hf]
 refine I.write (x:=p) (e:=p) (by rw [h];trivial) (.inl rfl) (fun b u hb q=>(RY _ _ (Ne.symm hb)).trans q) ⟨_,e⟩ ?_
 exact ⟨hz,its',n',r,e⟩
inductive Dz (o:V) (i:V) (v:V)(H:Hp)(Q:(Hp->Prop)):Prop
 | mk:∀ p xs k j,(o=.ref p)->(i=.int k)->(H p=some (.lst xs))->(nU xs.length k=some j)->(Q (upd H p (.lst (xs.set j v))))->Dz o i v H Q
def Io:V->V->V->Hp->(Hp->Prop)->Prop:=fun o i v H Q=>Dz o i v H Q
def set_list:Gn X Io:=by
 intro pins s U H o i v ov iv u Q I ro ri rv h;obtain ⟨p,xs,k,j,rfl,rfl,hp,hj,q⟩:=h;cases ro;obtain ⟨t,rfl⟩:=ri;obtain ⟨its,n,r,ho,hz⟩:=I.lst hp;obtain ⟨h1,h2,h3,h4⟩:=AM hj;have hl:=r.length;have hn:=mS;have I':Inv X pins U (upd H p (.lst (xs.set j v))) { s with heap:=s.heap.update p (Obj.mapSeq (·.setIfInBounds j u)) } :=
  I.K1 hp ho (Cf its n j u) (r.set rv j) (by rw [RJ];exact hz) s.toks
 by_cases h0:0<=k
 ·have hk:k.toNat=j:=by
   rw [seqIndex_of h0 h4] at h1;exact Option.some.inj h1
  exact PySem.W.ki_setAt ho h0 (by lia) (by rw [QJ,<- hl];exact h4) (by rw [hk];exact ⟨_,I',q⟩)
 ·have hk:(k + (its.toArray.size:Int)).toNat=j:=by
   rw [seqIndex_neg (by lia) h3] at h1
   rw [QJ,<- hl];exact Option.some.inj h1
  exact PySem.W.ki_setBack ho (by lia) (by rw [QJ,<- hl];exact h3) (by lia) (by rw [hk];exact ⟨_,I',q⟩)
def yi (lo hi:Option Int) (n:Nat):(sliceBounds lo hi none n).1=((HT.aN n 0 lo:Nat):Int)/\(sliceBounds lo hi none n).2.1=((HT.aN n n hi:Nat):Int)/\(sliceBounds lo hi none n).2.2=1:=by
 have one:∀ i:Int,(sliceBounds (some i) none none n).1=((HT.aN n 0 (some i):Nat):Int):=fun i=>by
  simp only [sliceBounds,HT.aN,Option.getD_none,show (1:Int) > 0 by decide,if_true]
  by_cases h:i < 0
  ·simp only [h,if_true] <;> lia
  ·simp only [h,if_false] <;> lia
 refine ⟨?_,?_,rfl⟩
 ·cases lo with
  | none=>simp [sliceBounds,HT.aN]
  | some i=>exact one i
 ·cases hi with
  | none=>simp [sliceBounds,HT.aN]
  | some i=>exact one i
def vW (its:VQ)(lo hi:Option Int):slicePick its.toArray lo hi none=((its.drop (HT.aN its.length 0 lo)).take (HT.aN its.length its.length hi - HT.aN its.length 0 lo)).toArray:=by
 obtain ⟨h1,h2,h3⟩:=yi lo hi its.toArray.size;unfold slicePick;rw [h1,h2,h3];simp only [sliceRange_one,pick_run,QJ] <;> rfl
inductive ID (K:VL) (x:V)(lo:Option Int)(hi:Option Int)(H:Hp)(Q:VK):Prop
 | mk:∀ a xs,(x=.ref a)->(bX K H a xs)->(∀ p,H p=none->Q (.ref p) (upd H p (.lst (m6 xs lo hi))))->ID K x lo hi H Q
def LB (K:VL):V->Option Int->Option Int->Hp->VK->Prop:=fun x lo hi H Q=>ID K x lo hi H Q
def JJ:Dt X (LB X.K):=by
 intro pins s U H x v vl vu lo hi sl Q I rx hs pl pu h;obtain ⟨a,xs,rfl,hx,q⟩:=h;cases rx;obtain ⟨its,r,ht,hz⟩:=I.list hx;have hlen:=r.length;refine ⟨"list",_,slot_list_getitem.lookup,ht.isList.typeIs,?_⟩;refine wpAny_getItem_list_slice ht.isList hs pl pu .none (by simp) ?_ (by rw [QJ] <;> lia)
 rw [vW,<- hlen];refine ⟨.ref s.heap.objs.size,_,I.laid (t':=s.toks) (o:=.lst (m6 xs lo hi)) (fun b ob q=>QL _ q) (Q6 _) ?_,rfl,q _ (I.hok.fresh (Q6 _))⟩
 exact ⟨QW (qT xs lo hi) hz,_,0,(r.drop (HT.aN xs.length 0 lo)).take (HT.aN xs.length xs.length hi - HT.aN xs.length 0 lo),R7 _ rfl⟩
def yC:b8 X (.builtin "len") (fun xs H Q=>∃ p ys,xs=[.ref p]/\(bX X.K H p ys\/cj X.K H p ys)/\Q (.int ys.length) H):=by
 intro pins s U H xs us Q I r h;obtain ⟨p,ys,rfl,hq,q⟩:=h;obtain ⟨u,rfl,rx⟩:=vals1 r;cases rx;have hn:=mS;rcases hq with hq | hq
 ·obtain ⟨its,r',pl,hz⟩:=I.list hq;have hlen:=r'.length;exact Calls.call_len_list pl.isList (by simp only [QJ] <;> lia) ⟨.int ys.length,H,I.tok _,⟨s.toks + 1,by rw [QJ,hlen]⟩,q⟩
 ·obtain ⟨its,r',pl,hz⟩:=I.tuple hq;have hlen:=r'.length;exact len_tuple pl (by simp only [QJ] <;> lia) ⟨.int ys.length,H,I.tok _,⟨s.toks + 1,by rw [QJ,hlen]⟩,q⟩
def b8.or {f:Value}{r r':List V->Hp->VK->Prop}(h:b8 X f r)(h':b8 X f r'):b8 X f (fun xs H Q=>r xs H Q\/r' xs H Q):=by
 intro pins s U H xs us Q I rs q;rcases q with q | q
 ·exact h pins s U H xs us Q I rs q
 ·exact h' pins s U H xs us Q I rs q
def xw:b8 X (.type "list") (fun xs H Q=>∃ p ys,xs=[.ref p]/\(bX X.K H p ys\/cj X.K H p ys)/\∀ l,H l=none->Q (.ref l) (upd H l (.lst ys))):=by
 intro pins s U H xs us Q I r h;obtain ⟨p,ys,rfl,hq,q⟩:=h;obtain ⟨u,rfl,rx⟩:=vals1 r;cases rx;have fin:∀ (its:VQ),Vals ys its->ys.length<=sizeLine->∀ (h':Heap) (c':Nat),(∀ b o',s.heap.get? b=some o'->h'.get? b=some o') ->
   h'.get? s.heap.objs.size=some { cls:=.type "list",dict:=none,data:=.seq its.toArray c',slots:=#[] }->EP X pins U Q (.ref s.heap.objs.size) { s with heap:=h' }:=fun its r' hz h' c' kp e =>
  ⟨.ref s.heap.objs.size,_,I.laid (t':=s.toks) kp (Q6 _) (show cI X.prog X.w _ h' _ (.lst ys) from ⟨hz,its,c',r',e⟩),rfl,q _ (I.hok.fresh (Q6 _))⟩
 rcases hq with hq | hq
 ·obtain ⟨its,r',pl,hz⟩:=I.list hq;have hlen:=r'.length;obtain ⟨o,ho,hc,n,hd⟩:=pl.isList;exact call_list_seq p (.inl rfl) ho hc hd (fun h' c' kp e=>fin its r' hz h' c' kp e) (by simp only [QJ] <;> lia)
 ·obtain ⟨its,r',pl,hz⟩:=I.tuple hq;have hlen:=r'.length;obtain ⟨o,ho,hc,n,hd⟩:=pl;exact call_list_seq p (.inr rfl) ho hc hd (fun h' c' kp e=>fin its r' hz h' c' kp e) (by simp only [QJ] <;> lia)
def vU:b8 X (.type "tuple") (fun xs H Q=>∃ p ys,xs=[.ref p]/\((bX X.K H p ys/\∀ l,H l=none->Q (.ref l) (upd H l (.tup ys)))\/(cj X.K H p ys/\Q (.ref p) H))):=by
 intro pins s U H xs us Q I r h;obtain ⟨p,ys,rfl,h⟩:=h;obtain ⟨u,rfl,rx⟩:=vals1 r;cases rx;rcases h with ⟨hq,q⟩ | ⟨hq,q⟩
 ·obtain ⟨its,r',pl,hz⟩:=I.list hq;have hlen:=r'.length;refine call_tuple_list pl.isList (fun h' kp=>?_) (by simp only [QJ] <;> lia)
  have I1:Inv X pins U H { s with heap:=h' }:=I.kept (t':=s.toks) kp
  have I2:Inv X pins U (upd H h'.objs.size (.tup ys)) { s with heap:=h'.push { cls:=.type "tuple",data:=.seq its.toArray } } :=
   I1.laid (t':=s.toks) (fun b o e=>QL _ e) (Q6 _) (show cI X.prog X.w _ _ _ (.tup ys) from ⟨hz,its,r',IsTup.new _ _⟩)
  exact ⟨.ref h'.objs.size,_,I2,rfl,q _ (I1.hok.fresh (Q6 _))⟩
 ·obtain ⟨its,r',pl,hz⟩:=I.tuple hq;exact call_tuple_same pl ⟨.ref p,H,I,rfl,q⟩
def Nh (K:VL)(T:String) (x:V)(H:Hp):Prop:=match x with
 | .str _=>T="str"
 | .int _=>T="int"
 | .ref p=>(T="list"/\∃ xs,bX K H p xs)\/(T="tuple"/\∃ o,K.lookup p=some o/\o.cls=.type "tuple"/\o.dict=none) \/
   (T="dict"/\((∃ kvs,H p=some (.dK kvs))\/∃ kvs,H p=some (.dT kvs)))\/(T="set"/\∃ S n,H p=some (.set S n))
 | _=>False
def CL {pins:VF}{U:St}{H:Hp}{s:Shared}{T:String}{x:V}{v:Value}(I:Inv X pins U H s)(r:RelV x v)(ty:Nh X.K T x H) :
  s.TypeIs v T/\∀ a,v=.ref a->∃ ob,s.heap.get? a=some ob/\ob.dict=none:=by
 cases x with
 | str z =>
  obtain ⟨t,rfl⟩:=r;cases (show T="str" from ty)
  exact ⟨typeIs_str s z t,fun _ e=>nomatch e⟩
 | int i =>
  obtain ⟨t,rfl⟩:=r;cases (show T="int" from ty)
  exact ⟨typeIs_int s i t,fun _ e=>nomatch e⟩
 | ref p =>
  cases r;rcases ty with ⟨rfl,xs,hq⟩ | ⟨rfl,o,hk,hc,hd⟩ | ⟨rfl,hk⟩ | ⟨rfl,S,n,hk⟩
  ·obtain ⟨its,_,pl,_⟩:=I.list hq;refine ⟨pl.isList.typeIs,fun a e=>?_⟩
   cases e;obtain ⟨o,n,e,c,hd,_⟩:=pl;exact ⟨o,e,hd⟩
  ·refine ⟨⟨o,I.qG p o hk,hc⟩,fun a e=>?_⟩
   cases e;exact ⟨o,I.qG _ o hk,hd⟩
  ·have z:∃ o,s.heap.get? p=some o/\o.ExactDict:=by
    rcases hk with ⟨kvs,hk⟩ | ⟨kvs,hk⟩
    ·obtain ⟨_,_,_,_,o,_,_,e,ex,_⟩:=I.hok p _ hk;exact ⟨o,e,ex⟩
    ·obtain ⟨_,_,_,_,o,_,_,e,ex,_⟩:=I.hok p _ hk;exact ⟨o,e,ex⟩
   obtain ⟨o,e,ex⟩:=z;refine ⟨⟨o,e,ex.1⟩,fun a e2=>?_⟩
   cases e2;exact ⟨o,e,ex.2.1⟩
  ·obtain ⟨o,_,_,_,e,ex,_⟩:=I.hok p _ hk;refine ⟨⟨o,e,ex.1⟩,fun a e2=>?_⟩
   cases e2;exact ⟨o,e,ex.2.1⟩
 | _=>exact False.elim ty
def Pn (K:VL)(T:String)(r:V->List V->Hp->VK->Prop)(to:TE):TE:=fun U H Q=>to U H fun x H1=>Nh K T x H1/\r x [] H1 Q
def PU (K:VL)(T:String)(r:V->List V->Hp->VK->Prop)(to:TE)(t:TA):TE:=fun U H Q=>to U H fun x H1=>Nh K T x H1/\t U H1 fun xs H2=>r x xs H2 Q
variable {o e:Expr}{es:VT}{to:TE}{t:TA}{name:Str}{apos cpos:Pos}{T id:String}{r:V->List V->Hp->VK->Prop}
def LC (pa:PlainAttrs T)(slot:Slot T name id)(hty:typeOf (.builtin id)=pure (.type "method_descriptor"))(hm:OD X id r)(ho:PE X o to)
  (hbase:attributeBase o name X.env (eval o X.env)=eval o X.env:=by rfl)(hline:(apos.endLine == cpos.line)=true:=by rfl):PE X (.Call (.Attribute o name apos) [] [] cpos) (Pn X.K T r to):=by
 intro pins s U H Q I h;refine wpAny_Call_method0_late hbase hline (aR (ho pins s U H _ I h) fun v s1 ⟨x,H1,I1,r1,ty,q1⟩=>?_)
 obtain ⟨h1,h2⟩:=CL I1 r1 ty;exact ⟨T,id,pa,slot,hty,h1,h2,Calls.callWith_builtin rfl (PySem.evalArgs_none (hm pins s1 U H1 x [] v [] Q I1 r1 .nil q1))⟩
def Iu (pa:PlainAttrs T)(slot:Slot T name id)(hty:typeOf (.builtin id)=pure (.type "method_descriptor"))(hm:OD X id r)(ho:PE X o to)(ha:PA X (e::es) t)
  (hbase:attributeBase o name X.env (eval o X.env)=eval o X.env:=by rfl)
  (hfew:((backTo cpos (starEach (e::es) X.env)).all (fun x=>!x.1) && (backToKw cpos (keywordEach [] X.env)).all (fun x=>x.1.isSome)
   && decide ((e::es).length + ([]:List Keyword).length + (if ([]:List Keyword).isEmpty then 0 else 1) < 30))=true:=by rfl)
  (hline:(apos.endLine == cpos.line)=true:=by rfl)(hs:starEach (e::es) X.env=(false,eval e X.env)::starEach es X.env:=by rfl)(hplain:(backTo cpos (starEach es X.env)).any (·.1)=false:=by rfl) :
  PE X (.Call (.Attribute o name apos) (e::es) [] cpos) (PU X.K T r to t):=by
 intro pins s U H Q I h;refine wpAny_Call_method_late hbase hfew hline rfl (aR (ho pins s U H _ I h) fun v s1 ⟨x,H1,I1,r1,ty,q1⟩=>?_)
 obtain ⟨h1,h2⟩:=CL I1 r1 ty;refine ⟨T,id,pa,slot,hty,h1,h2,?_⟩;have hA:=ha cpos pins s1 U H1 _ I1 q1;rw [hs] at hA ⊢;refine Calls.callWith_builtin (by show (false || (backTo cpos (starEach es X.env)).any (·.1))=false;rw [hplain] <;> rfl) (Calls.evalArgs_plain ?_)
 exact aR hA fun us s2 ⟨vs,H2,I2,r2,q2⟩=>hm pins s2 U H2 x vs v us Q I2 r1 r2 q2
/- xs.append(e),list.index on a module's tuple .. are MtR facts of 06m -/
end
def sN (X:Cx)(id:String)(r:V->List V->Hp->VK->Prop):Prop :=
 ∀ (pins:VF)(s:Shared)(U:St)(H:Hp) (x:V)(xs:List V)(v:Value)(us:VQ)(Q:VK),Inv X pins U H s->RelV x v->Vals xs us->r x xs H Q ->
  wpAny (model X.prog X.w) X.A (call (.builtin id) (v::us)) (EP X pins U Q) X.xe s
def Vals.one {x:V}{us:VQ}(h:Vals [x] us):∃ u,us=[u]/\RelV x u:=by
 cases h with | cons r t=>cases t;exact ⟨_,rfl,r⟩
def Vals.zero:∀ {us:VQ},Vals [] us->us=[]
 | _,.nil=>rfl
theorem Vals.dropLast {xs:List V}{us:VQ}(h:Vals xs us):Vals xs.dropLast us.dropLast:=by
 induction h with
 | nil=>exact .nil
 | cons r t ih =>
  cases t with
  | nil=>exact .nil
  | cons q t'=>exact .cons r ih
theorem Vals.eraseIdx:∀ {xs:List V}{us:VQ} (i:Nat),Vals xs us->Vals (xs.eraseIdx i) (us.eraseIdx i)
 | _,_,_,.nil=>.nil
 | _,_,0,.cons _ t=>t
 | _,_,i + 1,.cons r t=>.cons r (Vals.eraseIdx i t)
theorem Vals.rep {xs:List V}{us:VQ}(h:Vals xs us):∀ k:Nat,Vals (List.replicate k xs).flatten (List.replicate k us).flatten
 | 0=>.nil
 | k + 1=>by
  rw [SY,SY,RO,RO];exact Vals.append h (Vals.rep h k)
def Bq {α:Type}(l:List α):l.eraseIdx (l.length - 1)=l.dropLast:=by
 induction l with
 | nil=>rfl
 | cons a r ih =>
  cases r with
  | nil=>rfl
  | cons b r =>
   have e:(a::b::r).length - 1=((b::r).length - 1) + 1:=by
    have h1:(a::b::r).length=r.length + 2:=rfl;have h2:(b::r).length=r.length + 1:=rfl;lia
   rw [e,UH,ih]
   all_goals rfl
theorem vf {α:Type}:∀ (l:List α) (i:Nat),(l.eraseIdx i).length<=l.length
 | [],_=>Q6 _
 | _::_,0=>Sx _
 | _::r,i + 1=>Nat.succ_le_succ (vf r i)
theorem foldl_rep (its:VQ):∀ (k:Nat)(acc:VQ),
  List.foldl (fun x1 x2=>x1++x2) acc.toArray (List.replicate k its.toArray)=(acc++(List.replicate k its).flatten).toArray
 | 0,acc=>by simp
 | k + 1,acc=>by
  have e:acc.toArray++its.toArray=(acc++its).toArray:=by simp
  have e2:(acc++its)++(List.replicate k its).flatten=acc++(List.replicate (k + 1) its).flatten:=by
   rw [SY,RO,Qs]
  rw [<- e2,<- foldl_rep its k (acc++its),<- e,SY,Td]
section
variable {X:Cx}{pins:VF}{U:St}{H:Hp}{s:Shared}{l b:Addr}{xs ys zs:List V}
def Inv.xP {its its':VQ}{n:Nat}{f:VN->VN}{t':Nat}(I:Inv X pins U H s)(hH:H l=some (.lst xs))
  (e:s.heap.get? l=some { cls:=.type "list",data:=.seq its.toArray n })(hf:f its.toArray=its'.toArray)(hv:Vals ys its')(hz:ys.length<=sizeLine) :
  Inv X pins U (upd H l (.lst ys)) { s with heap:=s.heap.update l (Obj.mapSeq f),toks:=t' }:=by
 have q:=PySem.IsL.update e f;rw [hf] at q;refine I.write (x:=l) (e:=l) (by rw [hH];exact trivial) (.inl rfl) (fun b' u hb hu=>(RY s.heap (Obj.mapSeq f) (Ne.symm hb)).trans hu) ⟨_,q⟩ ?_
 exact ⟨hz,its',_,hv,q⟩
def Inv.Mp {its:VQ}{t':Nat}(I:Inv X pins U H s)(hv:Vals ys its)(hz:ys.length<=sizeLine) :
  Inv X pins U (upd H s.heap.objs.size (.lst ys)) { s with heap:=s.heap.push { cls:=.type "list",data:=.seq its.toArray },toks:=t' } :=
 I.laid (fun _ _ q=>QL _ q) (Q6 _) ⟨hz,its,0,hv,R7 _ rfl⟩
theorem Inv.fresh (I:Inv X pins U H s):H s.heap.objs.size=none:=I.hok.fresh (Q6 _)
def Inv.wU (I:Inv X pins U H s)(hH:H l=some (.lst xs)):xs.length<=sizeLine/\∃ (its:VQ) (n:Nat),Vals xs its/\xs.length=its.length/\s.heap.get? l=some { cls:=.type "list",data:=.seq its.toArray n }:=by
 obtain ⟨z,its,n,r,e⟩:=I.hok l _ hH;exact ⟨z,its,n,r,r.length,e⟩
def q9 {n:Nat}(h:n<=sizeLine):Builtin.List.listTooLong n=false:=by
 unfold Builtin.List.listTooLong;exact Rf (by lia)
end
section
variable {X:Cx}
def zZ:V->List V->Hp->VK->Prop:=fun x vs H Q=>∃ l xs y,x=.ref l/\vs=[y]/\H l=some (.lst xs)/\xs.length < sizeLine/\Q .bE (upd H l (.lst (xs++[y])))
def f7:sN X "list.append" zZ:=by
 intro pins s U H x vs v us Q I rx rv h;obtain ⟨l,xs,y,rfl,rfl,hH,hz,q⟩:=h;cases rx;obtain ⟨u,rfl,ru⟩:=rv.one;obtain ⟨z,its,n,r,hl,e⟩:=I.wU hH;refine Sa F.slot_list_append ⟨_,e,rfl⟩ F.entry_list_append (F.args_list_append_2 _ _) (PySem.list_append l its.toArray n u (by rw [QJ];lia)) ⟨e,?_⟩
 refine ⟨.bE,_,I.xP (its':=its++[u]) hH e (by simp) (r.append (.cons ru .nil)) ?_,rfl,q⟩
 rw [QE,Rm];lia
inductive Hx (x:V)(vs:List V)(H:Hp)(Q:VK):Prop
 | mk:∀ l xs y,(x=.ref l)->(vs=[])->(H l=some (.lst xs))->(xs[xs.length - 1]?=some y)->(Q y (upd H l (.lst xs.dropLast)))->Hx x vs H Q
def GV:V->List V->Hp->VK->Prop:=fun x vs H Q=>Hx x vs H Q
def MR:sN X "list.pop" GV:=by
 intro pins s U H x vs v us Q I rx rv h;obtain ⟨l,xs,y,rfl,rfl,hH,hy,q⟩:=h;cases rx;have hus:=rv.zero;subst hus;obtain ⟨z,its,n,r,hl,e⟩:=I.wU hH;obtain ⟨u,hu,ru⟩:=r.get hy;have hy':its.toArray[its.toArray.size - 1]?=some u:=by
  show its.toArray[its.length - 1]?=some u;rw [<- RC,<- hl];exact hu
 refine Sa F.slot_list_pop ⟨_,e,rfl⟩ F.entry_list_pop (F.args_list_pop_1 _) (MeetsSeq.list_pop_last l its.toArray n u hy' (by rw [QJ];lia)) ⟨e,?_⟩
 refine ⟨y,_,I.xP (its':=its.dropLast) hH e ?_ r.dropLast ?_,ru,q⟩
 ·show its.toArray.eraseIdxIfInBounds (its.toArray.size - 1)=its.dropLast.toArray;rw [QJ,V8,Bq]
 ·rw [List.length_dropLast];lia
inductive Ay (x:V)(vs:List V)(H:Hp)(Q:VK):Prop
 | mk:∀ l xs i k y,(x=.ref l)->(vs=[.int i])->(H l=some (.lst xs))->(-(2 ^ 63)<=i)->(i < 2 ^ 63)->(seqIndex? i xs.length=some k)->(xs[k]?=some y)->(Q y (upd H l (.lst (xs.eraseIdx k))))->Ay x vs H Q
def wB:V->List V->Hp->VK->Prop:=fun x vs H Q=>Ay x vs H Q
def Gi:sN X "list.pop" wB:=by
 intro pins s U H x vs v us Q I rx rv h;obtain ⟨l,xs,i,k,y,rfl,rfl,hH,h1,h2,hk,hy,q⟩:=h;cases rx;obtain ⟨u,rfl,ru⟩:=rv.one;obtain ⟨t,rfl⟩:=ru;obtain ⟨z,its,n,r,hl,e⟩:=I.wU hH;obtain ⟨w,hw,rw'⟩:=r.get hy;refine Sa F.slot_list_pop ⟨_,e,rfl⟩ F.entry_list_pop (F.args_list_pop_2 _ _)
  (MeetsSeq.list_pop_at l its.toArray n i t k w (fitsIndex_both h1 h2) (by rw [QJ,<- hl];exact hk) (by rw [<- RC];exact hw) (by rw [QJ];lia)) ⟨e,?_⟩
 refine ⟨y,_,I.xP (its':=its.eraseIdx k) hH e ?_ (r.eraseIdx k) ?_,rw',q⟩
 ·show its.toArray.eraseIdxIfInBounds k=(its.eraseIdx k).toArray;rw [V8]
 ·have:=vf xs k;lia
def len_rep {α:Type}(xs:List α) (k:Nat):(List.replicate k xs).flatten.length=k * xs.length:=by
 induction k with
 | zero=>simp
 | succ k ih=>rw [SY,RO,QE,ih,Nat.succ_mul,Nat.add_comm]
end
section
variable {prog:Program}{w:World}{A:Around}{E:VC}{s:Shared}
end
section
variable {X:Cx}
end
section
variable {κ:Type} [DecidableEq κ]
def cS (kvs:List (κ×V))(k:κ):Option V:=(kvs.find? fun kv=>decide (kv.1=k)).map (·.2)
def putK (kvs:List (κ×V))(k:κ) (v:V):List (κ×V) :=
 if (kvs.any fun kv=>decide (kv.1=k))=true then kvs.map (fun kv=>if kv.1=k then (kv.1,v) else kv) else kvs++[(k,v)]
def rJ {p:κ×V}{r:List (κ×V)}{k:κ}(e:p.1=k):cS (p::r) k=some p.2:=by simp [cS,Sy,e]
def rZ {p:κ×V}{r:List (κ×V)}{k:κ}(e:¬ p.1=k):cS (p::r) k=cS r k:=by simp [cS,Sy,e]
theorem xR (k:κ):∀ kvs:List (κ×V),(kvs.any fun kv=>decide (kv.1=k))=(cS kvs k).isSome
 | []=>rfl
 | p::r=>by
  rw [Sb]
  by_cases e:p.1=k
  ·simp only [rJ e,Qz e,Bool.true_or,Option.isSome_some]
  ·rw [rZ e,Rf e,Bool.false_or];exact xR k r
def qy (kvs:List (κ×V))(k:κ) (v:V):(putK kvs k v).length<=kvs.length + 1:=by
 unfold putK;split
 ·rw [Q8];lia
 ·rw [QE,QH,List.length_nil];lia
def lW.jP {o:Option V}{u:VM}(r:lW o u):o.isSome=u.isSome:=by
 cases o with
 | none=>cases u with
  | none=>rfl
  | some _=>exact (show False from r).elim
 | some _=>cases u with
  | none=>exact (show False from r).elim
  | some _=>rfl
def KV.val {kvs:List (κ×V)}{vs:List (κ×Value)}(r:KV kvs vs)(k:κ):lW (cS kvs k) (valueAt vs k):=by
 unfold KV at r
 induction r with
 | nil=>exact True.intro
 | @cons p q ps qs h t ih =>
  obtain ⟨h1,h2⟩:=h
  by_cases e:p.1=k
  ·have e':q.1=k:=h1.symm.trans e;have b:valueAt (q::qs) k=some q.2:=by simp [valueAt,Sy,e']
   rw [rJ e,b];exact h2
  ·have e':¬ q.1=k:=fun z=>e (h1.trans z)
   have b:valueAt (q::qs) k=valueAt qs k:=by simp [valueAt,Sy,e']
   rw [rZ e,b];exact ih
theorem KV.any {kvs:List (κ×V)}{vs:List (κ×Value)}(r:KV kvs vs)(k:κ):(kvs.any fun kv=>decide (kv.1=k))=vs.any fun kv=>decide (kv.1=k):=by
 unfold KV at r
 induction r with
 | nil=>rfl
 | cons h t ih=>rw [Sb,Sb,ih,h.1]
def KV.repl {kvs:List (κ×V)}{vs:List (κ×Value)}(r:KV kvs vs)(k:κ){y:V}{u:Value}(ry:RelV y u) :
  KV (kvs.map fun kv=>if kv.1=k then (kv.1,y) else kv) (vs.map fun kv=>if kv.1=k then (kv.1,u) else kv):=by
 unfold KV at r ⊢
 induction r with
 | nil=>exact .nil
 | @cons p q ps qs h t ih =>
  rw [QO,QO];refine .cons ?_ ih;obtain ⟨h1,h2⟩:=h
  by_cases e:p.1=k
  ·rw [if_pos e,if_pos (h1.symm.trans e)];exact ⟨h1,ry⟩
  ·rw [if_neg e,if_neg (fun z=>e (h1.trans z))];exact ⟨h1,h2⟩
def KV.put {kvs:List (κ×V)}{vs:List (κ×Value)}(r:KV kvs vs)(k:κ){y:V}{u:Value}(ry:RelV y u):KV (putK kvs k y) (stored vs k u):=by
 unfold putK stored;rw [r.any k]
 by_cases e:(vs.any fun kv=>decide (kv.1=k))=true
 ·rw [if_pos e,if_pos e];exact r.repl k ry
 ·rw [if_neg e,if_neg e];exact Paired.snoc r ⟨rfl,ry⟩
theorem KV.length {kvs:List (κ×V)}{vs:List (κ×Value)}(r:KV kvs vs):kvs.length=vs.length:=Paired.length r
end
def tD {P:Program}{w:World}{k:Key}{u:Value}(r:RelV (kV k) u):(cT P w).is k u=true:=by
 cases k with
 | inl i=>obtain ⟨t,e⟩:=(show ∃ t,u=Value.int i t from r);subst e;exact zG P w i t
 | inr x=>obtain ⟨t,e⟩:=(show ∃ t,u=Value.str x t from r);subst e;exact zF P w x t
theorem vc {P:Program}{w:World}:∀ {ks:List Key}{us:VQ},Vals (ks.map kV) us->ItemsAre (cT P w) ks us
 | [],_,r=>by rw [List.map_nil] at r;cases r;exact .nil
 | k::ks,_,r=>by
  rw [QO] at r;cases r with
  | cons h t=>exact .cons (tD h) (vc t)
abbrev KT (H:Hp):List (List Key×V)->List (List Key×Addr×Value)->Prop:=Paired fun p q=>p.1=q.1/\H q.2.1=some (.tup (p.1.map kV))/\RelV p.2 q.2.2
def KT.val {H:Hp}{kvs:List (List Key×V)}{xs:List (List Key×Addr×Value)}(r:KT H kvs xs)(k:List Key):lW (cS kvs k) ((atKey xs k).map (·.2)):=by
 induction r with
 | nil=>exact True.intro
 | @cons p q ps qs h t ih =>
  obtain ⟨h1,_,h2⟩:=h
  by_cases e:p.1=k
  ·have e':q.1=k:=h1.symm.trans e;have b:atKey (q::qs) k=some q.2:=by simp [atKey,Sy,e']
   rw [rJ e,b];exact h2
  ·have e':¬ q.1=k:=fun z=>e (h1.trans z)
   have b:atKey (q::qs) k=atKey qs k:=by simp [atKey,Sy,e']
   rw [rZ e,b];exact ih
def KT.repl {H:Hp}{kvs:List (List Key×V)}{xs:List (List Key×Addr×Value)}(r:KT H kvs xs)(k:List Key){y:V}{u:Value}(ry:RelV y u) :
  KT H (kvs.map fun kv=>if kv.1=k then (kv.1,y) else kv) (xs.map (putAt k u)):=by
 induction r with
 | nil=>exact .nil
 | @cons p q ps qs h t ih =>
  rw [QO,QO];refine .cons ?_ ih;obtain ⟨h1,h2,h3⟩:=h;unfold putAt
  by_cases e:p.1=k
  ·rw [if_pos e,if_pos (h1.symm.trans e)];exact ⟨h1,h2,ry⟩
  ·rw [if_neg e,if_neg (fun z=>e (h1.trans z))];exact ⟨h1,h2,h3⟩
def KT.put {H:Hp}{kvs:List (List Key×V)}{xs:List (List Key×Addr×Value)}(r:KT H kvs xs)(k:List Key){b:Addr}{y:V}{u:Value}(hb:H b=some (.tup (k.map kV)))(ry:RelV y u) :
  KT H (putK kvs k y) (storedH xs k b u):=by
 have e:(kvs.any fun kv=>decide (kv.1=k))=(atKey xs k).isSome:=by
  rw [xR,(r.val k).jP,Uk]
 unfold putK storedH;rw [e]
 by_cases q:(atKey xs k).isSome=true
 ·rw [if_pos q,if_pos q];exact r.repl k ry
 ·rw [if_neg q,if_neg q];exact Paired.snoc r ⟨rfl,hb,ry⟩
def KT.keeps {H H':Hp}{kvs:List (List Key×V)}{xs:List (List Key×Addr×Value)}(r:KT H kvs xs)(ht:∀ b ys,H b=some (.tup ys)->H' b=some (.tup ys)):KT H' kvs xs :=
 Paired.GL r fun _ _ z=>⟨z.1,ht _ _ z.2.1,z.2.2⟩
section
variable {P:Program}{w:World}{H:Hp}{h:Heap}{a:Addr}
def Ib {u:HO}(ok:dI P w H h)(e:Rd H a u):cI P w H h a u:=e.ok ok
def qc {kvs:List (Key×V)}(ok:dI P w H h)(e:Rd H a (.dK kvs)):kvs.length<=sizeLine/\(a == sysModules)=false/\∃ vs,KV kvs vs/\h.DictOf (cT P w) a vs :=
 show cI P w H h a (.dK kvs) from Ib ok e
def NR {kvs:List (Key×V)}(ok:dI P w H h)(e:H a=some (.dK kvs)):kvs.length<=sizeLine/\(a == sysModules)=false/\∃ vs,KV kvs vs/\h.DictOf (cT P w) a vs:=qc ok (.inl e)
def oN {ks:List Key}(ok:dI P w H h)(e:H a=some (.tup (ks.map kV))):(tupleKind (cT P w)).is h ks a:=by
 obtain ⟨_,its,r,o,h1,h2,n,h3⟩:=(show cI P w H h a (.tup (ks.map kV)) from ok a _ e)
 exact ⟨o,its.toArray,n,h1,h2,h3,by simpa using vc r⟩
def t6 {kvs:List (List Key×V)}(ok:dI P w H h)(e:Rd H a (.dT kvs)):kvs.length<=sizeLine/\(a == sysModules)=false /\
  ∃ xs,KT H kvs xs/\h.DictOfH (tupleKind (cT P w)) a xs:=by
 obtain ⟨z,y,xs,r,o,es,ep,h1,h2,h3,h4,h5⟩:=(show cI P w H h a (.dT kvs) from Ib ok e)
 refine ⟨z,y,xs,r,o,es,ep,h1,h2,h3,h4,fun x hx=>?_,h5⟩
 have all:∀ {l:List (List Key×V)}{m:List (List Key×Addr×Value)},KT H l m->∀ x∈m,(tupleKind (cT P w)).is h x.1 x.2.1:=by
  intro l m q
  induction q with
  | nil=>intro x hx;exact nomatch hx
  | @cons p q ps qs hq t ih =>
   intro x hx;rcases Q9.mp hx with e | hx
   ·subst e;exact oN ok (by rw [<- hq.1];exact hq.2.1)
   ·exact ih x hx
 exact all r x hx
def Oe {kvs:List (List Key×V)}(ok:dI P w H h)(e:H a=some (.dT kvs)):kvs.length<=sizeLine/\(a == sysModules)=false /\
  ∃ xs,KT H kvs xs/\h.DictOfH (tupleKind (cT P w)) a xs:=t6 ok (.inl e)
end
def iQ (H:Hp)(a:Addr) (y:V)(r:Option V):Prop :=
 (∃ kvs k,Rd H a (.dK kvs)/\y=kV k/\r=cS kvs k)\/∃ kvs k b,Rd H a (.dT kvs)/\y=.ref b/\H b=some (.tup (k.map kV))/\r=cS kvs k
def oX (H:Hp)(a:Addr) (y v:V)(H':Hp):Prop :=
 (∃ kvs k,H a=some (.dK kvs)/\y=kV k/\kvs.length < sizeLine/\H'=upd H a (.dK (putK kvs k v))) \/
 ∃ kvs k b,H a=some (.dT kvs)/\y=.ref b/\H b=some (.tup (k.map kV))/\kvs.length < sizeLine/\H'=upd H a (.dT (putK kvs k v))
theorem iQ.k {H:Hp}{a:Addr}{kvs:List (Key×V)}{k:Key}(e:H a=some (.dK kvs)):iQ H a (kV k) (cS kvs k):=.inl ⟨kvs,k,.inl e,rfl,rfl⟩
def iQ.t {H:Hp}{a b:Addr}{kvs:List (List Key×V)}{k:List Key}(e:H a=some (.dT kvs))(eb:H b=some (.tup (k.map kV))):iQ H a (.ref b) (cS kvs k):=.inr ⟨kvs,k,b,.inl e,rfl,eb,rfl⟩
theorem oX.k {H:Hp}{a:Addr}{kvs:List (Key×V)}{k:Key}{v:V}(e:H a=some (.dK kvs))(hl:kvs.length < sizeLine):oX H a (kV k) v (upd H a (.dK (putK kvs k v))):=.inl ⟨kvs,k,e,rfl,hl,rfl⟩
def oX.t {H:Hp}{a b:Addr}{kvs:List (List Key×V)}{k:List Key}{v:V}(e:H a=some (.dT kvs))(eb:H b=some (.tup (k.map kV)))(hl:kvs.length < sizeLine) :
  oX H a (.ref b) v (upd H a (.dT (putK kvs k v))):=.inr ⟨kvs,k,b,e,rfl,eb,hl,rfl⟩
section
variable {X:Cx}{pins:VF}{U:St}{H:Hp}{s:Shared}{a:Addr}{y v:V}{u r:Value}{o:Option V}{A:Around}{E:VC}
def Ep {Q:VC}(hu:A.units + 1 < cLine)(I:Inv X pins U H s)(g:iQ H a y (some v))(ry:RelV y u)(h:∀ w' s',Inv X pins U H s'->RelV v w'->Q w' s') :
  wpAny (model X.prog X.w) A (getItem (.ref a) u) Q E s:=by
 rcases g with ⟨kvs,k,e,ey,l⟩ | ⟨kvs,k,b,e,ey,eb,l⟩
 ·subst ey;obtain ⟨z,hd,vs,rel,dd⟩:=qc I.hok e;obtain ⟨w',hw,rw'⟩:=lW.some_of (v:=v) (o:=valueAt vs k) (by rw [l];exact rel.val k)
  exact wpAny_getItem_of (tD ry) dd.mapOf hw (h w' _ (I.tok _) rw')
 ·subst ey;cases (show u=Value.ref b from ry)
  obtain ⟨z,hd,xs,rel,dd⟩:=t6 I.hok e;obtain ⟨w',hw,rw'⟩:=lW.some_of (v:=v) (o:=(atKey xs k).map (·.2)) (by rw [l];exact rel.val k)
  obtain ⟨p,hp,hp2⟩:=S7.mp hw;refine wpAny_getItem_heap (UI hu) (oN I.hok eb) dd hp ?_;rw [hp2];exact h w' _ (I.tok _) rw'
def Pu {Q:VC}(hu:A.units + 1 < cLine)(I:Inv X pins U H s)(g:iQ H a y o)(ry:RelV y u)(h:∀ s',Inv X pins U H s'->Q (.bool o.isSome) s') :
  wpAny (model X.prog X.w) A (compareOp .In u (.ref a)) Q E s:=by
 rcases g with ⟨kvs,k,e,ey,l⟩ | ⟨kvs,k,b,e,ey,eb,l⟩
 ·subst ey;obtain ⟨z,hd,vs,rel,dd⟩:=qc I.hok e;refine wpAny_in_of (tD ry) hd dd.mapOf ?_;rw [<- (rel.val k).jP,<- l];exact h _ (I.tok _)
 ·subst ey;cases (show u=Value.ref b from ry)
  obtain ⟨z,hd,xs,rel,dd⟩:=t6 I.hok e;refine wpAny_in_heap (UI hu) (oN I.hok eb) hd dd ?_;have q:=(rel.val k).jP;rw [Uk] at q;rw [<- q,<- l];exact h _ (I.tok _)
def JL {Q:VC}(hu:A.units + 1 < cLine)(I:Inv X pins U H s)(g:iQ H a y o)(ry:RelV y u)(h:∀ s',Inv X pins U H s'->Q (.bool (!o.isSome)) s') :
  wpAny (model X.prog X.w) A (compareOp .NotIn u (.ref a)) Q E s:=by
 rcases g with ⟨kvs,k,e,ey,l⟩ | ⟨kvs,k,b,e,ey,eb,l⟩
 ·subst ey;obtain ⟨z,hd,vs,rel,dd⟩:=qc I.hok e;refine wpAny_notIn_of (tD ry) hd dd.mapOf ?_;rw [<- (rel.val k).jP,<- l];exact h _ (I.tok _)
 ·subst ey;cases (show u=Value.ref b from ry)
  obtain ⟨z,hd,xs,rel,dd⟩:=t6 I.hok e;refine wpAny_notIn_heap (UI hu) (oN I.hok eb) hd dd ?_;have q:=(rel.val k).jP;rw [Uk] at q;rw [<- q,<- l];exact h _ (I.tok _)
def An {h':Heap}{t':Nat}{ob:HO}(I:Inv X pins U H s)(mu:ED (H a))(hs:Heap.SameBut a s.heap h')(he:∃ q,h'.get? a=some q)(new:cI X.prog X.w (upd H a ob) h' a ob) :
  Inv X pins U (upd H a ob) { s with heap:=h',toks:=t' } :=
 I.write (x:=a) (e:=a) mu (.inl rfl) (fun b q hb z=>(hs.2 b hb).trans z) he new
def MI {P:Program}{w:World}{H':Hp}{h':Heap}{kvs:List (Key×V)}{vs:List (Key×Value)}(z:kvs.length<=sizeLine)(hd:(a == sysModules)=false)(rel:KV kvs vs)(dd:h'.DictOf (cT P w) a vs) :
  cI P w H' h' a (.dK kvs):=⟨z,hd,vs,rel,dd⟩
def CS {H':Hp}{Q:Unit->Shared->Prop}(hu:A.units + 1 < cLine)(I:Inv X pins U H s)(g:oX H a y v H')(ry:RelV y u)(rv:RelV v r)(h:∀ s',Inv X pins U H' s'->Q () s') :
  wpAny (model X.prog X.w) A (setItem (.ref a) u r) Q E s:=by
 rcases g with ⟨kvs,k,e,ey,l,eH⟩ | ⟨kvs,k,b,e,ey,eb,l,eH⟩
 ·subst ey eH;obtain ⟨z,hd,vs,rel,dd⟩:=NR I.hok e;have hz:vs.length<=sizeLine:=by rw [<- rel.length];exact z
  have hl:(putK kvs k v).length<=sizeLine:=by have:=qy kvs k v;lia
  refine wpAny_setItem_pairs (hsz:=hz) (tD ry) dd fun h' dd' hs=>h _ ?_
  have he:∃ q,h'.get? a=some q:=let ⟨q,_,_,hq,_⟩:=dd';⟨q,hq⟩
  exact An I (by rw [e];exact True.intro) hs he (MI hl hd (rel.put k rv) dd')
 ·subst ey eH;cases (show u=Value.ref b from ry)
  obtain ⟨z,hd,xs,rel,dd⟩:=Oe I.hok e;have hz:xs.length<=sizeLine:=by rw [<- Paired.length rel];exact z
  have hl:(putK kvs k v).length<=sizeLine:=by have:=qy kvs k v;lia
  refine wpAny_setItem_heap (hsz:=hz) (UI hu) (oN I.hok eb) dd fun h' dd' hs=>h _ ?_
  obtain ⟨q,es,ep,hq,h2,h3,h4,_,h5⟩:=dd';refine An I (by rw [e];exact True.intro) hs ⟨q,hq⟩ ⟨hl,hd,_,(rel.put k eb rv).keeps fun c ys ec=>?_,q,es,ep,hq,h2,h3,h4,h5⟩
  rw [au (Oi ec e (fun z=>nomatch z))]
  exact ec
end
section
variable {X:Cx}{pins:VF}{U:St}{H:Hp}{s:Shared}{a:Addr}{kvs:List (Key×V)}{k:Key}{u:Value}{A:Around}{E:VC}
def NP {Q:VC}(I:Inv X pins U H s)(e:Rd H a (.dK kvs))(h:∀ t s',Inv X pins U H s'->Q (.int kvs.length t) s'):wpAny (model X.prog X.w) A (call (.builtin "len") [.ref a]) Q E s:=by
 obtain ⟨z,hd,vs,rel,dd⟩:=qc I.hok e;refine call_len_dict hd dd (by rw [<- rel.length];rw [sizeLine_eq] at z;lia) ?_
 rw [<- rel.length];exact h _ _ (I.tok _)
end
def zM {X:Cx}{pins:VF}{U:St}{H:Hp}{s:Shared}{a:Addr}{y:V}{o:Option V}(I:Inv X pins U H s)(g:iQ H a y o):s.TypeIs (.ref a) "dict":=by
 rcases g with ⟨kvs,k,e,_,_⟩ | ⟨kvs,k,b,e,_,_,_⟩
 ·obtain ⟨_,_,vs,_,dd⟩:=qc I.hok e;exact dd.typeIs
 ·obtain ⟨_,_,xs,_,dd⟩:=t6 I.hok e;exact dd.typeIs
section
variable {X:Cx}{o i e value:Expr}{pos pos' tpos:Pos}{td ty tv:TE}
end
section
variable {X:Cx}{pos:Pos}
end
section
variable {X:Cx}{pins:VF}{U:St}{H:Hp}{s:Shared}{a:Addr}{y d:V}{u r:Value}{o:Option V}{A:Around}{E:VC}
end
section
variable {X:Cx}{o e f:Expr}{apos cpos:Pos}{td ty tx:TE}
end
section
variable {X:Cx}{pins:VF}{U:St}{H:Hp}{s:Shared}{a:Addr}{kvs:List (Key×V)}{A:Around}{E:VC}
end
section
variable {X:Cx}{pins:VF}{U:St}{H:Hp}{s:Shared}{a:Addr}{y:V}{u:Value}{A:Around}{E:VC}
end
end L2
namespace OH
open PySem PySem.W PySem.Calls PyProof.Rows
def sG {P:Params}{h:Heap}:∀ (ns:VW)(vs:VQ),WellAll P h vs (ns.map WData.int)->IntsAre vs ns:=by
 intro ns
 induction ns with
 | nil =>
  intro vs w;rw [List.map_nil] at w;cases w;exact .nil
 | cons n ns ih =>
  intro vs w;rw [QO] at w;cases w with
  | cons a b =>
   cases a;exact .cons _ _ (ih _ b)
def EV {l:OpenLaw}{n:Nat}(hn:l.most=some n){P:Params}{h:Heap}{args:List WData}{vals:VQ}
  (hpre:l.row.toRowW.claim.pre args=true)(hwl:WellAll P h vals args) :
  ∃ a vs ns,vals=[Value.ref a]/\args=[WData.list (ns.map WData.int)]/\h.get? a=some { cls:=.type "list",data:=.seq vs.toArray }/\IntsAre vs ns/\ns.length<=n:=by
 have hsh:WShape.hasAll [] args [.list .int]=true:=(pre_splitW hpre).1;have hc:l.pre.holds [] { args:=args }=true:=(pre_splitW hpre).2;obtain ⟨d,r,rfl,h1,h2⟩:=hasAllW_cons hsh;obtain rfl:=hasAllW_nil h2;obtain ⟨xs,rfl,h3⟩:=hasW_list h1;obtain ⟨ns,rfl⟩:=items_int h3;have hlen:ns.length<=n:=by
  unfold OpenLaw.pre at hc;have h4:(WTm.not (.lt (.lit (.int (n:Int))) (.len (.arg 0)))).holds [] { args:=[.list (ns.map .int)] }=true:=by
   have h4:=(holds_andW hc).1;rw [hn] at h4;exact h4
  have h5:=condW_of h4 (w_not (w_lt w_lit (w_len_list (w_arg rfl))));rw [Q8] at h5;refine Nat.le_of_not_lt fun q=>?_
  have q':(n:Int) < ((ns.length:Nat):Int):=by lia
  first
   | (rw [Qz q'] at h5;exact absurd h5 (by decide))
   | (simp at h5;lia)
 cases hwl with
 | cons w1 w2 =>
  cases w2;cases w1 with
  | list ho hall=>exact ⟨_,_,ns,rfl,rfl,ho,sG ns _ hall,hlen⟩
def Em (l:OpenLaw)(args:List WData):l.row.toRowW.claim.post args (.bool true) args=true :=
 postW_of (r:=l.row.toRowW) (X:=(true == true))
  (show WShape.has [] (.bool true) .bool=true by first | rfl | decide | simp [WShape.has,WShape.arms,WShape.armsAll])
  (show (WTm.eq .res (.lit (.bool true))).value [] { args:=args,res:=some (.bool true),after:=args }=some (.bool (true == true)) from w_eq_bool (w_res rfl) w_lit) rfl
def zN {l:OpenLaw}{n:Nat}{q:Program}{loose:VX}{XP:(VE)->Heap->Prop}{YP:World->Heap->Prop}{d:DefRec}
  (hn:l.most=some n)(hdf:d.params.defaults=[])
  (call:∀ (w:World)(s₀ s₁:Shared)(mg mb:VE)(fa:Addr)(o:Obj)(pm cd doc:Value)(a:Addr)(vs:VQ)(ns:VW),
   Ground q loose [] XP w s₀ mg mb s₁.heap->YP w s₁.heap ->
   s₁.heap.get? fa=some o->o.data=.func (docDef d.name d.params d.body d.scope pm cd doc)->s₁.heap.CodeRec cd d.name->mg d.name=some (.ref fa) ->
   s₁.heap.get? a=some { cls:=.type "list",data:=.seq vs.toArray }->IntsAre vs ns->ns.length<=n->s₁.gens=#[] ->
   codeAny (model l.prog w) callerA (.call (.ref fa) ⟨[.ref a],[]⟩) (fun r s'=>r=.ok (.ret (.bool true))/\OldK s₁.heap s'.heap/\s'.os=s₁.os/\AllBare s'.gens) s₁) :
  WalkO q loose XP YP l.row.toRowW d [] (fun f vs=>PySem.call f vs):=by
 intro w s₀ s₁ mg mb G Vf fa o pm cd doc dV kV ho hd hcd hD hmg hg args vals as hpre hlay hrd hwl hlo;obtain rfl:dV=.none:=Dflts.none hD hdf;obtain rfl:kV=.none:=Dflts.noKw hD;obtain ⟨a,vs,ns,rfl,rfl,hobj,hints,hlen⟩:=EV hn hpre hwl;refine enter_call (Su (call w s₀ s₁ mg mb fa o pm cd doc a vs ns G Vf ho (fd_plain hd) hcd hmg hobj hints hlen hg) fun r s' hq=>?_)
 obtain ⟨rfl,h2,h3,h4⟩:=hq;exact ⟨.inl ⟨.bool true,.bool true,[],rfl,fun _=>rfl,.bool true,Em l _,fun _=>⟨List.Pairwise.nil,fun _ hm=>(nomatch hm)⟩⟩,h2,h3,h4⟩
section
variable {prog:Program}{w:World}{A:Around}{E:VC}{s:Shared}{K:Frag}
end
end OH
namespace L2
open PySem PySem.Spec PyProof.Rows
theorem u7:∀ {vs:VQ}{ns:VW},IntsAre vs ns->Vals (ns.map V.int) vs
 | _,_,.nil=>.nil
 | _,_,.cons n t h=>.cons ⟨t,rfl⟩ (u7 h)
def GH (H:Hp):Prop:=∀ b,H b=none\/∃ o xs,H b=some (.iI o (.lst xs))
end L2
/- THE LAST THEOREM (shape;LID,My.* are yours):
   My.Adr: a structure of the addresses that your layer names (classes,functions);My.Txt K t: a structure (Prop) of the equations over K;
   My.txt_mk:{K} {implicit addresses ..}(e1:nsIn K mainGlobals "law"=some (some (.ref f)))(e2:K.lookup f=some ⟨oc,od,.func (fnOf "law" "law" params body scope dV kV doc pm an cdv ct),sl⟩)(e3:codeIn K cdv "law"=true) ..:∃ t,My.Txt K t
set_option maxRecDepth 100000 in
set_option maxHeartbeats 0 in
theorem PySem.Challenge.cw_LID_holds : PySem.Challenge.rw_LID.Holds := by
 w_on;o_law;k_head;(case hw=>w_witness2)
 k_fill
 refine L2.walk_of (l:=PySem.Challenge.rw_LID) (n:=63) (k:=40) (x:="script") (CX:=fun w=>..) (sp:=fun _=>My.sp_law) rfl (by decide) rfl ⟨rfl,by decide,by decide⟩ (fun w h Y=>PySem.W.kIn_of Y) ?F ?S ?C
 case F =>
  intro w mg fa h KX G hmg;have T:∃ t,My.Txt (L2.KOf KX) t:=by
   dsimp only [L2.KOf]                          -- K must stand as «<heap const> w.params» for k_is
   refine' My.txt_mk ?e1 ?e2 ?e3 ..
   (case e1=>PySem.W.k_is)                    -- in the order: a name -> its address -> its object -> its parts
   (case e2=>PySem.W.k_is)
   ..
  obtain ⟨t,T⟩:=T;have e0:=hmg.symm.trans (PySem.W.mg_of KX G T.law);cases e0                                       -- fa is the law's own address;exact ⟨_,fun s u=>.of_eq rfl,fun base kb nb=>My.law_fn T kb nb⟩     -- if «.of_eq rfl» comes too early: refine' ⟨_,?b,fun base kb nb=>My.law_fn T kb nb⟩;exact fun s u=>.of_eq rfl
 case S=>exact fun w H a ns hl hO hS=>..
 case C=>exact ..
(the tactic k_is has no namespace: write k_is) -/
namespace L2
open PySem PySem.Spec PyProof.Rows
def kB (s:Stmt):Arguments:=match s with
 | .FunctionDef _ a _ _ _ _ _ _ _ _=>a
 | _=>{ posonlyargs:=[],args:=[],vararg:=none,kwonlyargs:=[],kw_defaults:=[],kwarg:=none,defaults:=[] }
def iJ (s:Stmt):VU:=match s with
 | .FunctionDef _ _ b _ _ _ _ _ _ _=>b
 | _=>[]
def av (s:Stmt):Scope:=match s with
 | .FunctionDef _ _ _ _ _ _ sc _ _ _=>sc
 | _=>{ kind:=.function,names:=[],isGenerator:=false,isCoroutine:=false }
abbrev E0:XK:=fun _ _ _=>False
structure sI (K:VL) (x qual:Str)(st:Stmt)(f:Addr)(fd:FuncData):Prop where
 ex:∃ (oc:Value)(od:VP)(kV doc pm:Value)(an:VP)(cdv ct:Value)(osl:VB),
  fd=PySem.W.fnOf x qual (kB st) (iJ st) (av st) .none kV doc pm an cdv ct/\K.lookup f=some ⟨oc,od,.func fd,osl⟩/\PySem.W.codeIn K cdv qual=true
 kp:PySem.W.keepIn K (.ref f)=true
section
variable {P:Program}{w:World}{K:VL}{mg:VE}{base:Heap}
def sI.binds {x qual:Str}{st:Stmt}{f:Addr}{fd:FuncData}{ps:VX}(F:sI K x qual st f fd)
  (h:∀ (kV doc pm:Value)(an:VP)(cdv ct:Value)(us:VQ),us.length=ps.length->bindArgs (PySem.W.fnOf x qual (kB st) (iJ st) (av st) .none kV doc pm an cdv ct) ⟨us,[]⟩=pure (ps.zip us)):Binds K fd ps []:=by
 obtain ⟨oc,od,kV,doc,pm,an,cdv,ct,osl,rfl,lk,hcd⟩:=F.ex;exact .all (h kV doc pm an cdv ct)
def Lj {x qual:Str}{st:Stmt}{f:Addr}{oc:Value}{od an:VP}{osl:VB}{kV doc pm cdv ct:Value}(l:K.lookup f=some ⟨oc,od,.func (PySem.W.fnOf x qual (kB st) (iJ st) (av st) .none kV doc pm an cdv ct),osl⟩)
  (c:PySem.W.codeIn K cdv qual=true)(k:PySem.W.keepIn K (.ref f)=true):sI K x qual st f (PySem.W.fnOf x qual (kB st) (iJ st) (av st) .none kV doc pm an cdv ct):=⟨⟨oc,od,kV,doc,pm,an,cdv,ct,osl,rfl,l,c⟩,k⟩
end
section
variable {X:Cx}
def Eu:b8 X (.builtin "len") (fun xs H Q=>∃ a kvs,xs=[V.ref a]/\H a=some (.dK kvs)/\Q (.int kvs.length) H):=by
 intro pins s U H xs us Q I r h;obtain ⟨a,kvs,rfl,ha,q⟩:=h;obtain ⟨u,rfl,ru⟩:=vals1 r;cases ru;exact NP I (.inl ha) fun t s' I'=>⟨.int kvs.length,H,I',⟨t,rfl⟩,q⟩
end
def pQ {A B:Prop}(h:B):if false=true then A else B:=by
 rw [if_neg Qu];exact h
def oY {A B:Prop}(h:A):if true=true then A else B:=by
 rw [if_pos rfl];exact h
def ah (H H':Hp):Prop:=∀ b o,H b=some o->H' b=some o
def ah.refl (H:Hp):ah H H:=fun _ _ h=>h
def ah.trans {H H1 H2:Hp}(a:ah H H1)(b:ah H1 H2):ah H H2:=fun c o h=>b c o (a c o h)
def ah.free {H H':Hp}(e:ah H H'){l:Addr}(h:H' l=Option.none):H l=Option.none:=by
 cases q:H l with
 | none=>rfl
 | some o =>
  rw [e l o q] at h;cases h
section
variable {κ:Type} [DecidableEq κ]
end
def bU (cells:List (Str×Addr)):List (Str×NameKind)->List (Str×Addr)->List (Str×Addr)
 | [],acc=>acc
 | (n,k)::r,acc=>bU cells r (if (k == NameKind.free)=true then (n,(cells.lookup n).getD 0)::acc else acc)
theorem l6 {c:Addr}:∀ (names:List (Str×NameKind))(acc:List (Str×Addr)),(bU cells names acc).lookup y=some c ->
  ((y,NameKind.free)∈names/\(cells.lookup y).getD 0=c)\/acc.lookup y=some c
 | [],_,h=>.inr h
 | (n,k)::r,acc,h=>by
  rcases l6 r _ h with ⟨a,b⟩ | z
  ·exact .inl ⟨Q7 _ a,b⟩
  ·clear h
   by_cases e:(k == NameKind.free)=true
   ·rw [if_pos e] at z;rw [RH] at z;cases q:(y == n) with
    | true =>
     rw [q] at z;have ek:k=NameKind.free:=by simpa using e
     have en:y=n:=by simpa using q
     subst ek en;exact .inl ⟨Q2,Option.some.inj z⟩
    | false =>
     rw [q] at z;exact .inr z
   ·rw [if_neg e] at z;exact .inr z
theorem fD:∀ (names:List (Str×NameKind))(acc:List (Str×Addr)),((y,NameKind.free)∈names\/∃ c,acc.lookup y=some c)->∃ c,(bU cells names acc).lookup y=some c
 | [],_,h=>by
  rcases h with h | h
  ·cases h
  ·exact h
 | (n,k)::r,acc,h=>by
  refine fD r _ ?_;rcases h with h | ⟨c,h⟩
  ·rcases Q9.mp h with e | h
   ·cases e;refine .inr ⟨(cells.lookup y).getD 0,?_⟩;rw [if_pos (by decide),RH,UJ]
   ·exact .inl h
  ·by_cases e:(k == NameKind.free)=true
   ·rw [if_pos e,RH];cases q:(y == n) with
    | true=>exact .inr ⟨_,rfl⟩
    | false=>exact .inr ⟨c,h⟩
   ·rw [if_neg e];exact .inr ⟨c,h⟩
def lJ (h:∀ n,(n,NameKind.free)∈scope.names->∃ c,env.cells.lookup n=some c):closureFor scope env=pure (bU env.cells scope.names []):=by
 have key:∀ (names:List (Str×NameKind))(cs:List (Str×Addr)),(∀ n,(n,NameKind.free)∈names->∃ c,env.cells.lookup n=some c) ->
   (forIn names cs fun (x:Str×NameKind)(r:List (Str×Addr))=>(if (x.2 == NameKind.free)=true then (cellOf env x.1 >>= fun a=>pure (ForInStep.yield ((x.1,a)::r))) else pure (ForInStep.yield r):Sem _))=pure (bU env.cells names cs):=by
  intro names
  induction names with
  | nil=>intro cs _;rfl
  | cons p r ih =>
   intro cs hp;obtain ⟨n,k⟩:=p;rw [List.forIn_cons]
   by_cases e:(k == NameKind.free)=true
   ·have ek:k=NameKind.free:=by simpa using e
    obtain ⟨c,hc⟩:=hp n (by rw [ek];exact Q2)
    rw [if_pos e];have e2:cellOf env n=pure c:=by unfold cellOf;rw [hc]
    show ((cellOf env n >>= fun a=>pure (ForInStep.yield ((n,a)::cs))) >>= _)=_
    rw [e2];show (forIn r ((n,c)::cs) _:Sem _)=_;rw [ih _ fun n' h'=>hp n' (Q7 _ h')]
    show _=pure (bU env.cells r (if (k == NameKind.free)=true then (n,(env.cells.lookup n).getD 0)::cs else cs))
    rw [if_pos e,hc];rfl
   ·rw [if_neg e];show (forIn r cs _:Sem _)=_;rw [ih _ fun n' h'=>hp n' (Q7 _ h')]
    show _=pure (bU env.cells r (if (k == NameKind.free)=true then (n,(env.cells.lookup n).getD 0)::cs else cs))
    rw [if_neg e]
 unfold closureFor;have e:=key scope.names [] h;show ((forIn scope.names [] fun (x:Str×NameKind)(r:List (Str×Addr))=>(if (x.2 == NameKind.free)=true then (cellOf env x.1 >>= fun a=>pure (ForInStep.yield ((x.1,a)::r))) else pure (ForInStep.yield r):Sem _)) >>= fun r=>pure r)=_
 rw [e];rfl
theorem cY {α:Type}{y:Str}{k:α}:∀ {l:List (Str×α)},l.lookup y=some k->(y,k)∈l
 | [],h=>by cases h
 | (n,j)::r,h=>by
  rw [RH] at h;cases q:(y == n) with
  | true =>
   rw [q] at h;have en:y=n:=by simpa using q
   cases h;rw [en];exact Q2
  | false =>
   rw [q] at h;exact Q7 _ (cY h)
theorem nA {env:Env}{x:Str}{k:NameKind}:∀ {names:List (Str×NameKind)},names.lookup x=some k ->
  (relabel { (default:Scope) with names:=names } env).names.lookup x=some k\/(k=.free/\(relabel { (default:Scope) with names:=names } env).names.lookup x=some .cell)
 | [],h=>by cases h
 | (n,j)::r,h=>by
  have ih:=@nA env x k r;rw [RH] at h;show List.lookup x ((if (j == NameKind.free && env.scope.kind == .function && env.kindOf n == some .cell)=true then (n,NameKind.cell) else (n,j))::_)=_\/(_/\List.lookup x ((if (j == NameKind.free && env.scope.kind == .function && env.kindOf n == some .cell)=true then (n,NameKind.cell) else (n,j))::_)=_)
  cases q:(x == n) with
  | true =>
   rw [q] at h;cases h
   by_cases e:(k == NameKind.free && env.scope.kind == .function && env.kindOf n == some .cell)=true
   ·rw [if_pos e,RH,q];refine .inr ⟨?_,rfl⟩;have z:=(QC _ _ ▸ (QC _ _ ▸ e).1:_/\_).1
    simpa using z
   ·rw [if_neg e,RH,q];exact .inl rfl
  | false =>
   rw [q] at h
   by_cases e:(j == NameKind.free && env.scope.kind == .function && env.kindOf n == some .cell)=true
   ·rw [if_pos e,RH,q];exact ih h
   ·rw [if_neg e,RH,q];exact ih h
theorem qX {env:Env}{x:Str}{k:NameKind}:∀ {names:List (Str×NameKind)},(relabel { (default:Scope) with names:=names } env).names.lookup x=some k->names.lookup x=some k\/(names.lookup x=some .free/\k=.cell)
 | [],h=>by cases h
 | (n,j)::r,h=>by
  have ih:=@qX env x k r;have h:List.lookup x ((if (j == NameKind.free && env.scope.kind == .function && env.kindOf n == some .cell)=true then (n,NameKind.cell) else (n,j))::(relabel { (default:Scope) with names:=r } env).names)=some k:=h
  rw [RH];cases q:(x == n) with
  | true =>
   by_cases e:(j == NameKind.free && env.scope.kind == .function && env.kindOf n == some .cell)=true
   ·rw [if_pos e,RH,q] at h;cases h;have z:=(QC _ _ ▸ (QC _ _ ▸ e).1:_/\_).1;exact .inr ⟨by simpa using z,rfl⟩
   ·rw [if_neg e,RH,q] at h;exact .inl h
  | false =>
   by_cases e:(j == NameKind.free && env.scope.kind == .function && env.kindOf n == some .cell)=true
   ·rw [if_pos e,RH,q] at h;exact ih h
   ·rw [if_neg e,RH,q] at h;exact ih h
def caps (ix:VV)(U:St):St:=ix.map fun i=>(U[i]?).join
def Cx.block (X:Cx)(scope:Scope)(C:Addr)(NB:VX)(s2:Shared)(H2:Hp)(fp:VR):Cx :=
 { X with N:=NB,s₀:=s2,H₀:=H2,env:=compEnvC scope (bU X.env.cells scope.names []) C X.env,outer:=X.stack,ex:=fp,fn:=fun _=>false,pn:=[],xe:=fun _ _=>False }
def nQ (X:Cx)(ifs:VT)(t:TT):Prop :=
 ∀ (pins:VF)(s:Shared)(U:St)(H:Hp)(Q:Bool->Hp->Prop),Inv X pins U H s->t U H Q ->
  wpAny (model X.prog X.w) X.A (forIn ifs true fun c r=>if r=true then do let ok <- isTrue c X.env (eval c X.env);pure (ForInStep.yield ok) else pure (ForInStep.yield r)) (TP X pins U Q) X.xe s
def Px:TT:=fun _ H Q=>Q true H
def Km:nQ X [] Px:=fun _ _ _ H _ I h=>wpAny_tests_nil ⟨H,I,h⟩
def Jc (h:PT X c t):nQ X [c] t:=fun pins s U H Q I hw=>wpAny_tests_one (h pins s U H Q I hw)
abbrev dG (its:VQ) (n:Nat):Obj:={ cls:=.type "list",data:=.seq its.toArray n }
section
variable {X:Cx}{scope:Scope}{x:Str}{NB:VX}{ix:VV}{pins:VF}{U:St}{H2:Hp}{s2:Shared}{fp:VR}
def xD (ix:VV)(U:St):(caps ix U).length=ix.length:=by unfold caps;rw [Q8]
end
section
variable {X:Cx}{scope:Scope}{x:Str}{NB:VX}{ix:VV}{pins:VF}{U:St}{H2:Hp}{s2:Shared}{fp:VR}
def CO {C D:Addr}{n:Nat}(I2:Inv X pins U H2 s2)(f2:∀ b∈fp,dN X pins H2 b)(hD:s2.heap.objs.size<=D)
  (I4:Inv (X.block scope C NB s2 H2 fp) [(D,dG its n)] σB H' s4)(rv:Vals ys its)(hz:ys.length<=sizeLine):Inv X pins U (upd H' D (.lst ys)) s4:=by
 have hp:=I4.pin (D,dG its n) (by show _∈[]++[(D,dG its n)];simp)
 have hfree:H' D=none:=hp.2.1;have neD:∀ b o,s2.heap.get? b=some o->b≠D:=fun b o e=>QG (QT (QD e) hD)
 have neT:∀ b o,H2 b=some o->b≠D:=fun b o e=>QG (QT (I2.hok.lt e) hD)
 have u:Un (frs X.stack) fp H2 H' s2.heap s4.heap:=I4.base;refine I2.wj (ch:=fp) I4.os ⟨u.keep,u.slot,fun b o e n hx=>?_,u.there,fun b xs e=>?_,fun b o v e=>?_,fun b ps e=>?_⟩ (fun b o e=>?_) I4.bare fun b hb=>?_
 ·rw [au (neD b o e)];exact u.free b o e n hx
 ·rw [au (neT b _ e)];exact u.tups b xs e
 ·rw [au (neT b _ e)];exact u.jB b o v e
 ·rw [au (neT b _ e)];exact u.jZ b ps e
 ·by_cases hb:b=D
  ·subst hb;rw [aL] at e;cases e;exact ⟨hz,its,n,rv,hp.1⟩
  ·rw [au hb] at e;have ne:∀ {c:Addr}{w:HO},H' c=some w->c≠D:=fun {c w} q z=>by rw [z,hfree] at q;cases q
   exact (I4.hok b o e).stay (fun _ _ _ q=>q) (fun c q=>by rw [au (ne q)];exact q) fun c xs q=>by rw [au (ne q)];exact q
 ·obtain ⟨_,g1,g2,g3,g4,g5⟩:=f2 b hb;exact ⟨g3,g1,g4,g5⟩
end
end L2
namespace L2
open PySem PySem.Spec PyProof.Rows PySem.W
def iZ (a C:Addr)(dd:VP):Heap->Prop:=fun h=>∃ (t0:Addr)(v1 v2 v3 v4 v5:Value)(sl:VB),h.get? a=some ⟨.ref C,dd,.fields #[.ref t0,v1,v2,v3,v4,v5],sl⟩
def EO {a C:Addr}(x:iZ a C dd h):cI P w H h a (.ext (iZ a C dd)):=by
 obtain ⟨t0,v1,v2,v3,v4,v5,sl,e⟩:=id x;exact ⟨x,⟨_,e⟩,fun h1 h2 ⟨t0,v1,v2,v3,v4,v5,sl,e⟩ k=>⟨t0,v1,v2,v3,v4,v5,sl,k _ e⟩⟩
def six (newId:String)(l:List (VM)):Bool:=l.length == 6 && (match (l[4]?:Option (VM)) with | some (some (Value.builtin n))=>n == newId | _=>false)
def AD (K:Frag)(C:Addr)(bmB:VQ):VQ->Bool
 | .ref C'::bm=>C' == C && tailIn K bmB bm
 | _=>false
def gX (K:Frag)(C:Addr)(bmB:VQ)(newId:String)(r:VM):Bool:=match K.lookup C with
 | some ob=>(match ob.cls with | .type t=>t == "type" | _=>false) && (match ob.data with
  | .cls cd=>(AD K C bmB cd.mro && six newId ob.slots.toList) && !cd.hasDel && (nsOkIn K cd.ns && nsIn K cd.ns "__init__" == some r)
  | _=>false)
 | none=>false
def Nj (h:six newId l=true):∃ k0 k1 k2 k3 k5,l=[k0,k1,k2,k3,some (.builtin newId),k5]:=by
 unfold six at h;rw [QC] at h;obtain ⟨h1,h2⟩:=h;have h1:l.length=6:=SX h1;rcases l with _ | ⟨k0,_ | ⟨k1,_ | ⟨k2,_ | ⟨k3,_ | ⟨k4,_ | ⟨k5,_ | ⟨k6,l⟩⟩⟩⟩⟩⟩⟩
 case cons.cons.cons.cons.cons.cons.nil =>
  cases k4 with
  | none=>cases h2
  | some v =>
   cases v with
   | builtin n=>exact ⟨k0,k1,k2,k3,k5,by rw [show n=newId from SX h2]⟩
   | _=>cases h2
 case cons.cons.cons.cons.cons.cons.cons=>cases h1
 all_goals cases h1
def AY {K:Frag}{C:Addr}{bmB l:VQ}(h:AD K C bmB l=true):∃ bm,l=.ref C::bm/\tailIn K bmB bm=true:=by
 cases l with
 | nil=>cases h
 | cons v bm =>
  cases v with
  | ref a =>
   have h:(a == C && tailIn K bmB bm)=true:=h;rw [QC] at h;exact ⟨bm,by rw [show a=C from SX h.1],h.2⟩
  | _=>cases h
structure OS (C:Addr)(bmB:VQ)(newId:String)(r:VM)(h:Heap):Prop where
 obj:∃ bm N nm q bs hdct sn sub ab col dd k0 k1 k2 k3 k5 mN,h.get? C=some (excClassObj nm q C N bs bm hdct sn sub ab col dd k0 k1 k2 k3 k5 newId)/\h.Ns N mN/\mN "__init__"=r/\OwnTail h bmB bm
def B8 {K:Frag}{h:Heap}{N:Addr}{mg:VE}(X:K.In h)(G:h.Ns N mg)(e:nsIn K N n=some r):mg n=r:=by
 obtain ⟨o,es,ep,ho,hd,_,hf⟩:=G;unfold nsIn at e;split at e
 ·rename_i c d es' n' sl q;have z:=X _ _ q;rw [ho] at z;cases z;cases hd;split at e
  ·rename_i en he;rw [<- hf];unfold nsFind findBy;rw [<- Array.find?_toList,he]
   first
    | (cases e;rfl)
    | (split at e <;> cases e <;> rfl)
  ·rename_i he;rw [<- hf];unfold nsFind findBy;rw [<- Array.find?_toList,he];split at e
   ·cases e
   ·cases e;rfl
 ·cases e
def Jv {K:Frag}{C:Addr}(X:K.In h)(q:gX K C bmB newId r=true):OS C bmB newId r h:=by
 unfold gX at q;cases ho:K.lookup C with
 | none =>
  rw [ho] at q;cases q
 | some ob =>
  rw [ho] at q;obtain ⟨cls,dd,data,sl⟩:=ob;dsimp only at q;rw [QC] at q;obtain ⟨q0,q⟩:=q;have hc:cls=.type "type":=by
   cases cls with
   | type t=>exact congrArg Value.type (SX q0)
   | _=>cases q0
  subst hc;cases data with
  | cls cd =>
   dsimp only at q;rw [QC,QC,QC,QC] at q;obtain ⟨⟨⟨q1,q2⟩,hdel⟩,hok,hni⟩:=q;obtain ⟨bm,hm,ht⟩:=AY q1;obtain ⟨l⟩:=sl;obtain ⟨k0,k1,k2,k3,k5,hs⟩:=Nj q2;have hs:l=_:=hs;obtain ⟨nm,bs,mro,ns,qn,hd,sn,sub,ab,col,del⟩:=cd;dsimp only at hm hdel hok hni;have hdel:del=false:=by cases del <;> first | rfl | cases hdel
   have hni:=SX hni;subst hm hdel hs;have G:h.Ns ns (h.nsMap ns):=.of_isNs (isNs_of_in X hok);exact ⟨bm,ns,nm,qn,bs,hd,sn,sub,ab,col,dd,k0,k1,k2,k3,k5,_,X _ _ ho,G,B8 X G hni,tail_of_in X ht⟩
  | _=>cases q
def FP {a:Addr}(x:cI P w H h a o):∃ ob,h.get? a=some ob:=by
 cases o with
 | lst xs=>obtain ⟨_,_,_,_,e⟩:=x;exact ⟨_,e⟩
 | tup xs=>obtain ⟨_,_,_,ob,e,_⟩:=x;exact ⟨_,e⟩
 | dK kvs=>obtain ⟨_,_,_,_,ob,_,_,e,_⟩:=x;exact ⟨_,e⟩
 | dT kvs=>obtain ⟨_,_,_,_,ob,_,_,e,_⟩:=x;exact ⟨_,e⟩
 | set S n=>obtain ⟨ob,_,_,_,e,_⟩:=x;exact ⟨_,e⟩
 | ins C dx fs=>obtain ⟨_,_,_,e,_⟩:=x;exact ⟨_,e⟩
 | own y=>exact x
 | xd fs=>obtain ⟨_,⟨od,_,_,e,_⟩,_⟩:=x;exact ⟨_,e⟩
 | qA lo hi=>obtain ⟨_,_,_,e⟩:=x;exact ⟨_,e⟩
 | iI ob u=>obtain ⟨e,_⟩:=x;exact ⟨_,e⟩
 | vK ps=>exact ⟨_,x⟩
 | met f y=>exact ⟨_,x⟩
 | ext φ=>obtain ⟨_,e,_⟩:=x;exact e
section
variable {X:Cx}{pins:VF}{U:St}{H:Hp}{s:Shared}{h':Heap}
def Inv.iG (I:Inv X pins U H s){a:Addr}(hn:s.heap.get? a=none):H a=none:=by
 cases z:H a with
 | none=>rfl
 | some o =>
  obtain ⟨ob,e⟩:=FP (I.hok a o z);rw [hn] at e;cases e
def Inv.v9 {a:Addr}{t':Nat}(I:Inv X pins U H s)(k:∀ b u,s.heap.get? b=some u->h'.get? b=some u)(hn:s.heap.get? a=none)(new:cI X.prog X.w (upd H a o) h' a o) :
  Inv X pins U (upd H a o) { s with heap:=h',toks:=t' }:=by
 have hf:=I.iG hn;have neA:∀ b u,s.heap.get? b=some u->b≠a:=fun b u e z=>by rw [z,hn] at e;cases e
 have neT:∀ b u,H b=some u->b≠a:=fun b u e z=>by rw [z,hf] at e;cases e
 refine I.un ⟨fun b u e _ _ _=>k b u e,fun b u e _ _ _=>⟨u.slots,k b u e⟩,fun b u e n _=>by rw [au (neA b u e)];exact n,fun b u e _=>⟨u,k b u e⟩,fun b xs e=>by rw [au (neT b _ e)];exact e,
  fun b u v e=>by rw [au (neT b _ e)];exact e,fun b ps e=>⟨#[],by rw [au (neT b _ e),e];simp⟩⟩ fun b u e=>?_
 by_cases hb:b=a
 ·subst hb;rw [aL] at e;cases e;exact new
 ·rw [au hb] at e;exact (I.hok b u e).stay (fun c v _ q=>k c v q) (fun c q=>by rw [au (neT c _ q)];exact q) fun c xs q=>by rw [au (neT c _ q)];exact q
end
abbrev vz:VQ:=[.type "ValueError",.type "Exception",.type "BaseException",.type "object"]
section
variable {X:Cx}{x:Str}{p pos:Pos}{e:Expr}{es:VT}{t:TA}{C:Addr}
variable {CX:lC}{k:Nat}{f:Addr}{fd:FuncData}{ps:VX}{sp:Sp}{E:XK}
end
end L2
namespace SM
open PySem PySem.SetTable
def run (M:Nat) (b:Nat):Nat->Nat×Nat
 | 0=>(b % M,b)
 | k + 1=>(((run M b k).1 * 5 + 1 + (run M b k).2 / 32) % M,(run M b k).2 / 32)
theorem qI (M b:Nat):∀ k,(run M b k).2=b / 32 ^ k
 | 0=>by simp [run]
 | k + 1=>by
  show (run M b k).2 / 32=_;rw [qI M b k,Nat.div_div_eq_div_mul,Nat.pow_succ]
def zb {M b:Nat}(hM:0 < M):∀ k,(run M b k).1 < M
 | 0=>Sd _ hM
 | k + 1=>Sd _ hM
def sr (M i:Nat):Nat:=(i * 5 + 1) % M
def jk (M:Nat):Nat->Nat->Nat
 | i,0=>i
 | i,r + 1=>sr M (jk M i r)
theorem qm (M i a:Nat):∀ b,jk M i (a + b)=jk M (jk M i a) b
 | 0=>rfl
 | b + 1=>by
  show sr M (jk M i (a + b))=sr M (jk M (jk M i a) b);rw [qm M i a b]
def FU (M:Nat):Nat->Nat->VV
 | _,0=>[]
 | i,r + 1=>i::FU M (sr M i) r
theorem vh (M i:Nat):∀ r,jk M (sr M i) r=jk M i (r + 1)
 | 0=>rfl
 | r + 1=>by
  show sr M (jk M (sr M i) r)=sr M (jk M i (r + 1));rw [vh M i r]
theorem yF (M:Nat):∀ (n i j:Nat),j∈FU M i n->∃ r,r < n/\jk M i r=j
 | 0,_,_,h=>by cases h
 | n + 1,i,j,h=>by
  rcases Q9.mp h with e | h
  ·exact ⟨0,Sz _,e.symm⟩
  ·obtain ⟨r,hr,e⟩:=yF M n _ j h;exact ⟨r + 1,Nat.succ_lt_succ hr,by rw [<- vh];exact e⟩
def full (M:Nat):Bool:=(List.range M).all (fun j=>(FU M 0 M).contains j) && decide (jk M 0 M=0)
def EK:full 8=true:=by decide +kernel
def J7:full 32=true:=by decide +kernel
def FG:full 128=true:=by decide +kernel
def Gd:full 512=true:=by decide +kernel
def vG {M:Nat}(h:full M=true){j:Nat}(hj:j < M):∃ r,r < M/\jk M 0 r=j:=by
 unfold full at h;rw [QC] at h;have z:=QK.mp h.1 j (Qv.mpr hj);exact yF M M 0 j (by simpa using z)
def yl {M:Nat}(h:full M=true){i j:Nat}(hi:i < M)(hj:j < M):∃ r,r < M/\jk M i r=j:=by
 obtain ⟨a,ha,ea⟩:=vG h hi;obtain ⟨b,hb,eb⟩:=vG h hj;have back:jk M 0 M=0:=by
  unfold full at h;rw [QC] at h;exact QS h.2
 by_cases q:a<=b
 ·refine ⟨b - a,by lia,?_⟩
  rw [<- ea,<- qm,show a + (b - a)=b by lia,eb]
 ·refine ⟨M - a + b,by lia,?_⟩
  rw [<- ea,<- qm,show a + (M - a + b)=M + b by lia,qm,back,eb]
theorem uu {M b k:Nat}(hb:b < 2 ^ 64)(hk:12<=k):∀ r,(run M b (k + r)).1=jk M (run M b k).1 r
 | 0=>rfl
 | r + 1=>by
  show ((run M b (k + r)).1 * 5 + 1 + (run M b (k + r)).2 / 32) % M=sr M (jk M (run M b k).1 r);rw [uu hb hk r,qI];have e:b / 32 ^ (k + r) / 32=0:=by
   rw [Nat.div_div_eq_div_mul,<- Nat.pow_succ];refine Nat.div_eq_of_lt (QT hb ?_);have h1:(32:Nat) ^ 13<=32 ^ (k + r).succ:=Nat.pow_le_pow_right (by decide) (by lia)
   exact QW (by decide) h1
  rw [e,Nat.add_zero];rfl
def nY (m:Nat)(p:Probe):Probe :=
 if p.more > 0 then { p with j:=p.j + 1,more:=p.more - 1 } else
 { p with j:=(leap m p.i p.perturb).1,more:=runEnd m (leap m p.i p.perturb).1 - (leap m p.i p.perturb).1,i:=(leap m p.i p.perturb).1,perturb:=(leap m p.i p.perturb).2 }
def Qk (m:Nat) (h:Int):Probe:={ j:=bits h % (m + 1),more:=runEnd m (bits h % (m + 1)) - bits h % (m + 1),i:=bits h % (m + 1),perturb:=bits h,dummy:=none }
def pr (m:Nat) (h:Int):Nat->Probe
 | 0=>Qk m h
 | n + 1=>nY m (pr m h n)
def Ai (h:Int):bits h < 2 ^ 64:=by
 unfold bits;have:=T4 h (show (0:Int) < 2 ^ 64 by decide)
 have h0:=T5 h (show (2 ^ 64:Int)≠0 by decide)
 lia
theorem yt (m:Nat) (h:Int):∀ n,(pr m h n).dummy=none
 | 0=>rfl
 | n + 1=>by
  show (nY m (pr m h n)).dummy=none;unfold nY;split <;> exact yt m h n
def qj (m:Nat) (h:Int) (n k:Nat):Prop:=pr m h n={ j:=(run (m + 1) (bits h) k).1,more:=runEnd m (run (m + 1) (bits h) k).1 - (run (m + 1) (bits h) k).1,i:=(run (m + 1) (bits h) k).1,perturb:=(run (m + 1) (bits h) k).2,dummy:=none }
theorem sX {m:Nat}{h:Int}{n k:Nat}(a:qj m h n k):∀ r,r<=runEnd m (run (m + 1) (bits h) k).1 - (run (m + 1) (bits h) k).1 ->
  pr m h (n + r)={ j:=(run (m + 1) (bits h) k).1 + r,more:=runEnd m (run (m + 1) (bits h) k).1 - (run (m + 1) (bits h) k).1 - r,i:=(run (m + 1) (bits h) k).1,perturb:=(run (m + 1) (bits h) k).2,dummy:=none }
 | 0,_=>a
 | r + 1,hr=>by
  show nY m (pr m h (n + r))=_;rw [sX a r (by lia)]
  unfold nY;rw [if_pos (show runEnd m (run (m + 1) (bits h) k).1 - (run (m + 1) (bits h) k).1 - r > 0 by lia)]
  congr 1
def vd (m i:Nat):runEnd m i - i<=9:=by
 unfold runEnd;split <;> lia
def F7 {m:Nat}{h:Int}{n k:Nat}(a:qj m h n k):∃ n',n'<=n + 10/\qj m h n' (k + 1):=by
 have z:=sX a _ (Q6 _);refine ⟨n + (runEnd m (run (m + 1) (bits h) k).1 - (run (m + 1) (bits h) k).1) + 1,by have:=vd m (run (m + 1) (bits h) k).1;lia,?_⟩
 show nY m (pr m h (n + (runEnd m (run (m + 1) (bits h) k).1 - (run (m + 1) (bits h) k).1)))=_;rw [z];unfold nY;rw [if_neg (show ¬ (runEnd m (run (m + 1) (bits h) k).1 - (run (m + 1) (bits h) k).1 - (runEnd m (run (m + 1) (bits h) k).1 - (run (m + 1) (bits h) k).1) > 0) by lia)]
 rfl
theorem CF (m:Nat) (h:Int):∀ k,∃ n,n<=10 * k/\qj m h n k
 | 0=>⟨0,Qw _,rfl⟩
 | k + 1=>by
  obtain ⟨n,hn,a⟩:=CF m h k;obtain ⟨n',hn',a'⟩:=F7 a;exact ⟨n',by lia,a'⟩
def LJ {m:Nat}(hf:full (m + 1)=true) (h:Int){j:Nat}(hj:j<=m):∃ n,n < 10 * turns m/\(pr m h n).j=j:=by
 obtain ⟨r,hr,e⟩:=yl hf (zb (b:=bits h) (Sz m) 12) (Ul hj);obtain ⟨n,hn,a⟩:=CF m h (12 + r);refine ⟨n,?_,?_⟩
 ·unfold turns;lia
 ·rw [a];show (run (m + 1) (bits h) (12 + r)).1=j;rw [uu (Ai h) (Q6 _),e]
def iy (xs:Array Nat):Prop:=∀ (i k x y:Nat),i < k->xs[i]?=some x->xs[k]?=some y->x < y
def iy.inj (h:iy xs){i k x:Nat}(a:xs[i]?=some x)(b:xs[k]?=some x):i=k:=by
 rcases Te i k with z | z | z
 ·exact absurd (h i k x x z a b) (R9 _)
 ·exact z
 ·exact absurd (h k i x x z b a) (R9 _)
def sA {α:Type}{xs:Array α}{i:Nat}{x:α}(h:xs[i]?=some x):i < xs.size:=(Tf.mp h).1
theorem rT (hr:iy xs) (j:Nat):∀ (fuel lo hi:Nat),lo<=hi->hi<=xs.size->hi - lo<=fuel->(∀ i x,xs[i]?=some x->i < lo->x < j)->(∀ i x,xs[i]?=some x->hi<=i->j<=x) ->
  below.go xs j fuel lo hi<=xs.size/\∀ i x,xs[i]?=some x->(i < below.go xs j fuel lo hi↔x < j)
 | 0,lo,hi,h1,h2,h3,h4,h5=>by
  have e:lo=hi:=by lia
  subst e;unfold below.go;refine ⟨h2,fun i x hx=>⟨h4 i x hx,fun lt=>?_⟩⟩
  by_cases q:i < lo
  ·exact q
  ·exact absurd lt (Se.mpr (h5 i x hx (Se.mp q)))
 | fuel + 1,lo,hi,h1,h2,h3,h4,h5=>by
  unfold below.go
  by_cases q:lo < hi
  ·rw [if_pos q];have hm:(lo + hi) / 2 < xs.size:=by lia
   have gm:xs[(lo + hi) / 2]?=some xs[(lo + hi) / 2]:=RZ hm;have gd:xs.getD ((lo + hi) / 2) j=xs[(lo + hi) / 2]:=by rw [S2,gm];rfl
   dsimp only;rw [gd]
   by_cases c:xs[(lo + hi) / 2] < j
   ·rw [if_pos c];refine rT hr j fuel _ hi (by lia) h2 (by lia) (fun i x hx hi'=>?_) h5
    by_cases e:i=(lo + hi) / 2
    ·subst e;rw [gm] at hx;cases hx;exact c
    ·exact Nat.lt_trans (hr i _ x _ (by lia) hx gm) c
   ·rw [if_neg c];refine rT hr j fuel lo _ (by lia) (by lia) (by lia) h4 fun i x hx hi'=>?_
    by_cases e:i=(lo + hi) / 2
    ·subst e;rw [gm] at hx;cases hx;exact Se.mp c
    ·exact QW (Se.mp c) (Ry (hr _ i _ x (by lia) gm hx))
  ·rw [if_neg q];have e:lo=hi:=by lia
   subst e;refine ⟨h2,fun i x hx=>⟨h4 i x hx,fun lt=>?_⟩⟩
   by_cases q:i < lo
   ·exact q
   ·exact absurd lt (Se.mpr (h5 i x hx (Se.mp q)))
def i8 {xs:Array Nat}(hr:iy xs) (j:Nat):below xs j<=xs.size/\∀ i x,xs[i]?=some x->(i < below xs j↔x < j) :=
 rT hr j xs.size 0 xs.size (Qw _) (Q6 _) (by lia) (fun _ _ _ h=>absurd h (S8 _)) fun i x hx h=>absurd (sA hx) (Se.mpr h)
def below_at {xs:Array Nat}(hr:iy xs){i j:Nat}(h:xs[i]?=some j):below xs j=i:=by
 obtain ⟨h1,h2⟩:=i8 hr j;have a:¬ i < below xs j:=fun q=>R9 _ ((h2 i j h).mp q)
 by_cases e:below xs j=i
 ·exact e
 ·have lt:below xs j < i:=by lia
  have hb:below xs j < xs.size:=Nat.lt_trans lt (sA h);have gb:xs[below xs j]?=some xs[below xs j]:=RZ hb;have:=hr _ _ _ _ lt gb h;exact absurd ((h2 _ _ gb).mpr this) (R9 _)
def Dm {t:SetTable}(hr:iy t.place){i j:Nat}(h:t.place[i]?=some j):t.slot j=.live i:=by
 unfold slot;dsimp only;rw [below_at hr h,h,if_pos (by simp)]
def Bj {t:SetTable}(hr:iy t.place)(hd:t.dummies=#[]){j:Nat}(h:∀ i:Nat,t.place[i]?≠some j):t.slot j=.empty:=by
 unfold slot;dsimp only;rw [if_neg (by simpa using h _)]
 have:has t.dummies j=false:=by
  unfold has;rw [hd];simp
 rw [this];rfl
def Ef {xs:Array Nat}(hr:iy xs){m:Nat}(hs:xs.size<=m):∃ j,j<=m/\∀ i:Nat,xs[i]?≠some j:=by
 refine UK fun no=>?_
 have all:∀ j,j<=m->∃ i:Nat,xs[i]?=some j:=fun j hj=>UK fun q=>no ⟨j,hj,fun i e=>q ⟨i,e⟩⟩
 have ge:∀ j,j<=m->∀ i:Nat,xs[i]?=some j->j<=i:=by
  intro j
  induction j with
  | zero=>intro _ i _;exact Qw _
  | succ j ih =>
   intro hj i hi;obtain ⟨i0,h0⟩:=all j (by lia)
   have l0:=ih (by lia) i0 h0
   rcases Te i0 i with z | z | z
   ·lia
   ·subst z;rw [h0] at hi;have:=Option.some.inj hi;lia
   ·have:=hr i i0 _ _ z hi h0;lia
 obtain ⟨i,hi⟩:=all m (Q6 _);have h1:=ge m (Q6 _) i hi;have h2:=sA hi;lia
def kq {α:Type}{xs:Array α}{p:Nat}(hp:p<=xs.size)(x:α) (i:Nat):(insertAt xs p x)[i]?=if i < p then xs[i]? else if i=p then some x else xs[i - 1]?:=by
 unfold insertAt;have s1:(xs.extract 0 p).size=p:=by rw [Ti];lia
 have s2:((xs.extract 0 p).push x).size=p + 1:=by rw [Array.size_push,s1]
 rw [Array.getElem?_append,s2]
 by_cases h1:i < p
 ·rw [if_pos (by lia),if_pos h1,Array.getElem?_push,s1,if_neg (by lia),Um,if_pos (by lia),Tj]
 ·rw [if_neg h1]
  by_cases h2:i=p
  ·subst h2;rw [if_pos (by lia),if_pos rfl,Array.getElem?_push,s1,if_pos rfl]
  ·rw [if_neg (by lia),if_neg h2,Um]
   by_cases h3:i - (p + 1) < xs.size - p
   ·rw [if_pos (by lia),show p + (i - (p + 1))=i - 1 by lia]
   ·rw [if_neg (by lia)]
    exact (UL (by lia)).symm
def kO {α:Type}{xs:Array α}{p:Nat}(hp:p<=xs.size)(x:α):(insertAt xs p x).size=xs.size + 1:=by
 unfold insertAt;rw [Array.size_append,Array.size_push,Ti,Ti];lia
abbrev Ent:=Int×Value
def In (t:SetTable) (j:Nat):Prop:=∃ i:Nat,t.place[i]?=some j
def Way (t:SetTable) (h:Int) (m:Nat):Prop:=∀ m',m' < m->In t (pr t.mask h m').j
structure TB (t:SetTable)(es:Array Ent):Prop where
 sz:t.place.size=es.size
 ri:iy t.place
 le:∀ i j:Nat,t.place[i]?=some j->j<=t.mask
 du:t.dummies=#[]
 fu:full (t.mask + 1)=true
 od:t.mask % 2=1
 nf:t.place.size<=t.mask
 rc:∀ (i j:Nat)(e:Ent),t.place[i]?=some j->es[i]?=some e->∃ m,m < 10 * turns t.mask/\(pr t.mask e.1 m).j=j/\Way t e.1 m
section
variable {t:SetTable}{es:Array Ent}
theorem TB.fits (T:TB t es):t.fits es.size=true:=by
 unfold SetTable.fits fill;rw [T.sz,T.du];have:=T.nf;rw [T.sz] at this
 simpa using this
def TB.first (T:TB t es) (h:Int):∃ N,N < 10 * turns t.mask/\¬ In t (pr t.mask h N).j/\Way t h N:=by
 obtain ⟨j,hj,hn⟩:=Ef T.ri T.nf;obtain ⟨n,hlt,e⟩:=LJ T.fu h hj;have key:∀ n,¬ In t (pr t.mask h n).j->∃ N,N<=n/\¬ In t (pr t.mask h N).j/\Way t h N:=by
  intro n
  induction n using Nat.strongRecOn with
  | ind n ih =>
   intro hq
   by_cases w:Way t h n
   ·exact ⟨n,Q6 _,hq,w⟩
   ·obtain ⟨m',q⟩:=Classical.not_forall.mp w;obtain ⟨lt,q⟩:=Classical.not_imp.mp q;obtain ⟨N,a,b,c⟩:=ih m' lt q;exact ⟨N,by lia,b,c⟩
 obtain ⟨N,a,b,c⟩:=key n (by rw [e];rintro ⟨i,hi⟩;exact hn i hi)
 exact ⟨N,by lia,b,c⟩
theorem Ad (hr:iy t.place)(hd:t.dummies=#[]){hashAt:Nat->Int}{h:Int}{N:Nat}(hN:¬ In t (pr t.mask h N).j)(hw:Way t h N):∀ (fuel n:Nat),n<=N->N - n < fuel ->
  (probe.go t hashAt h fuel (pr t.mask h n)=some (.empty (pr t.mask h N).j none)/\∀ m i:Nat,n<=m->m < N->t.place[i]?=some (pr t.mask h m).j->hashAt i≠h) \/
  (∃ m i:Nat,n<=m/\m < N/\t.place[i]?=some (pr t.mask h m).j/\hashAt i=h/\probe.go t hashAt h fuel (pr t.mask h n)=some (.candidate (pr t.mask h m).j i (pr t.mask h (m + 1)))/\∀ m' i':Nat,n<=m'->m' < m->t.place[i']?=some (pr t.mask h m').j->hashAt i'≠h)
 | 0,n,h1,h2=>absurd h2 (S8 _)
 | fuel + 1,n,h1,h2=>by
  unfold probe.go
  by_cases e:n=N
  ·subst e;rw [Bj hr hd (fun i q=>hN ⟨i,q⟩)]
   refine .inl ⟨?_,fun m i a b=>by lia⟩
   show some (Met.empty (pr t.mask h n).j (pr t.mask h n).dummy)=_;rw [yt]
  ·obtain ⟨i,hi⟩:=hw n (by lia)
   rw [Dm hr hi];dsimp only
   by_cases q:hashAt i=h
   ·rw [if_pos (by rw [q];exact UJ h)]
    exact .inr ⟨n,i,Q6 _,by lia,hi,q,rfl,fun m' i' a b=>by lia⟩
   ·rw [if_neg (by simpa using q)]
    show (probe.go t hashAt h fuel (pr t.mask h (n + 1))=_/\_)\/_;have other:∀ i':Nat,t.place[i']?=some (pr t.mask h n).j->hashAt i'≠h:=fun i' hi'=>by
     rw [hr.inj hi' hi];exact q
    rcases Ad hr hd (hashAt:=hashAt) hN hw fuel (n + 1) (by lia) (by lia) with ⟨a,b⟩ | ⟨m,i',c1,c2,c3,c4,c5,c6⟩
    ·refine .inl ⟨a,fun m i' u v x=>?_⟩
     by_cases z:m=n
     ·subst z;exact other i' x
     ·exact b m i' (by lia) v x
    ·refine .inr ⟨m,i',by lia,c2,c3,c4,c5,fun m' i'' u v x=>?_⟩
     by_cases z:m'=n
     ·subst z;exact other i'' x
     ·exact c6 m' i'' (by lia) v x
theorem TB.freeSlot (T:TB t es){h:Int}{N:Nat}(hl:N < 10 * turns t.mask)(hN:¬ In t (pr t.mask h N).j)(hw:Way t h N):t.freeSlot h=some ((pr t.mask h N).j,false):=by
 unfold SetTable.freeSlot;have z:=Ad T.ri T.du (hashAt:=fun _=>h + 1) hN hw (10 * turns t.mask) 0 (Qw _) (by lia)
 have e:t.probe (fun _=>h + 1) h (t.probeStart h)=some (.empty (pr t.mask h N).j none):=by
  rcases z with ⟨a,_⟩ | ⟨m,i,_,_,_,c,_⟩
  ·exact a
  ·exact absurd c (by lia)
 rw [e];rfl
def GJ (hr:iy xs) (j:Nat):below xs j<=xs.size:=(i8 hr j).1
theorem TB.put (T:TB t es){N:Nat}(hl:N < 10 * turns t.mask)(hN:¬ In t (pr t.mask e.1 N).j)(hw:Way t e.1 N)(room:es.size + 1<=t.mask)(hjm:(pr t.mask e.1 N).j<=t.mask) :
  TB (t.put (pr t.mask e.1 N).j).1 (insertAt es (t.put (pr t.mask e.1 N).j).2 e):=by
 obtain ⟨hb,hs⟩:=i8 T.ri (pr t.mask e.1 N).j;have hb2:below t.place (pr t.mask e.1 N).j<=es.size:=by rw [<- T.sz];exact hb
 have nd:has t.dummies (pr t.mask e.1 N).j=false:=by
  unfold has;rw [T.du];simp
 have ep:(t.put (pr t.mask e.1 N).j).1={ t with place:=insertAt t.place (below t.place (pr t.mask e.1 N).j) (pr t.mask e.1 N).j }:=by
  unfold SetTable.put;dsimp only;rw [nd];rfl
 have ep2:(t.put (pr t.mask e.1 N).j).2=below t.place (pr t.mask e.1 N).j:=rfl;rw [ep,ep2];generalize hp:below t.place (pr t.mask e.1 N).j=p at *;generalize hj:(pr t.mask e.1 N).j=j at *;have g:=kq hb j
 -- what was there is there
 have up:∀ (i x:Nat),t.place[i]?=some x->∃ i':Nat,(insertAt t.place p j)[i']?=some x:=fun i x hx=>by
  by_cases q:i < p
  ·exact ⟨i,by rw [g,if_pos q];exact hx⟩
  ·exact ⟨i + 1,by rw [g,if_neg (by lia),if_neg (by lia)];exact hx⟩
 have mine:(insertAt t.place p j)[p]?=some j:=by rw [g,if_neg (R9 _),if_pos rfl]
 have down:∀ (i x:Nat),(insertAt t.place p j)[i]?=some x->(i < p/\t.place[i]?=some x)\/(i=p/\x=j)\/(p < i/\t.place[i - 1]?=some x):=fun i x hx=>by
  rw [g] at hx
  by_cases q:i < p
  ·rw [if_pos q] at hx;exact .inl ⟨q,hx⟩
  ·rw [if_neg q] at hx
   by_cases q2:i=p
   ·rw [if_pos q2] at hx;exact .inr (.inl ⟨q2,(Option.some.inj hx).symm⟩)
   ·rw [if_neg q2] at hx;exact .inr (.inr ⟨by lia,hx⟩)
 have inUp:∀ x,In t x->In { t with place:=insertAt t.place p j } x:=fun x ⟨i,hi⟩=>up i x hi
 have noJ:∀ (i:Nat),t.place[i]?≠some j:=fun i q=>hN ⟨i,q⟩
 constructor
 ·show (insertAt t.place p j).size=_;rw [kO hb,kO hb2,T.sz]
 ·intro i k x y hik hx hy;rcases down i x hx with ⟨a1,a2⟩ | ⟨a1,a2⟩ | ⟨a1,a2⟩ <;> rcases down k y hy with ⟨b1,b2⟩ | ⟨b1,b2⟩ | ⟨b1,b2⟩
  ·exact T.ri i k x y hik a2 b2
  ·rw [b2];exact (hs i x a2).mp a1
  ·exact T.ri i (k - 1) x y (by lia) a2 b2
  ·lia
  ·lia
  ·rw [a2];have c:¬ y < j:=fun z=>by
    have:=(hs (k - 1) y b2).mpr z;lia
   have d:y≠j:=fun z=>noJ _ (z ▸ b2)
   lia
  ·lia
  ·lia
  ·exact T.ri (i - 1) (k - 1) x y (by lia) a2 b2
 ·intro i x hx;rcases down i x hx with ⟨_,a2⟩ | ⟨_,a2⟩ | ⟨_,a2⟩
  ·exact T.le _ _ a2
  ·rw [a2];exact hjm
  ·exact T.le _ _ a2
 ·exact T.du
 ·exact T.fu
 ·exact T.od
 ·show (insertAt t.place p j).size<=t.mask;rw [kO hb,T.sz];exact room
 ·intro i x f hx hf;have gf:=kq hb2 e i;rw [gf] at hf;have old:∀ i0:Nat,t.place[i0]?=some x->es[i0]?=some f->∃ m,m < 10 * turns t.mask/\(pr t.mask f.1 m).j=x/\Way { t with place:=insertAt t.place p j } f.1 m:=fun i0 u v=>by
   obtain ⟨m,c1,c2,c3⟩:=T.rc i0 x f u v;exact ⟨m,c1,c2,fun m' l=>inUp _ (c3 m' l)⟩
  rcases down i x hx with ⟨a1,a2⟩ | ⟨a1,a2⟩ | ⟨a1,a2⟩
  ·rw [if_pos a1] at hf;exact old i a2 hf
  ·rw [if_neg (by lia),if_pos a1] at hf
   cases hf;exact ⟨N,hl,by rw [a2];exact hj,fun m' l=>inUp _ (hw m' l)⟩
  ·rw [if_neg (by lia),if_neg (by lia)] at hf
   exact old (i - 1) a2 hf
end
def m5 {m i:Nat}(hi:i<=m):i + (runEnd m i - i)<=m:=by
 unfold runEnd;split <;> lia
theorem Ij (m:Nat) (h:Int):∀ n,(pr m h n).j + (pr m h n).more<=m
 | 0=>by
  have z:bits h % (m + 1) < m + 1:=Sd (bits h) (Sz m);show bits h % (m + 1) + (runEnd m (bits h % (m + 1)) - bits h % (m + 1))<=m;exact m5 (by lia)
 | n + 1=>by
  have ih:=Ij m h n;show (nY m (pr m h n)).j + (nY m (pr m h n)).more<=m;unfold nY;split
  ·dsimp only;lia
  ·dsimp only;have:(leap m (pr m h n).i (pr m h n).perturb).1 < m + 1:=Sd _ (Sz m);exact m5 (by lia)
def wg (m:Nat) (h:Int) (n:Nat):(pr m h n).j<=m:=by
 have:=Ij m h n;lia
def heads {m:Nat}(hf:full (m + 1)=true) (h:Int){j:Nat}(hj:j<=m):∃ k,k < turns m/\(run (m + 1) (bits h) k).1=j:=by
 obtain ⟨r,hr,e⟩:=yl hf (zb (b:=bits h) (Sz m) 12) (Ul hj);refine ⟨12 + r,?_,?_⟩
 ·unfold turns;lia
 ·rw [uu (Ai h) (Q6 _),e]
abbrev Own:=Array (Option Nat)
def Tk (o:Own) (j:Nat):Prop:=∃ k,o[j]?=some (some k)
def yI (m:Nat)(o:Own) (h:Int) (n:Nat):Prop:=∀ n',n' < n->Tk o (pr m h n').j
def getD_none {m:Nat}(hs:o.size=m + 1){j:Nat}(hj:j<=m):(o.getD j (some 0)).isNone=true↔¬ Tk o j:=by
 have g:o[j]?=some o[j]:=RZ (by lia)
 rw [S2,g];show (o[j]).isNone=true↔_;constructor
 ·rintro q ⟨k,e⟩;rw [g] at e;rw [Option.some.inj e] at q;cases q
 ·intro q;cases z:o[j] with
  | none=>rfl
  | some k=>exact absurd ⟨k,by rw [g,z]⟩ q
theorem vN {m:Nat}{h:Int}(hs:o.size=m + 1):∀ (fuel k n:Nat),qj m h n k->n<=10 * k->yI m o h n->(∃ k',k<=k'/\k' < k + fuel/\¬ Tk o (run (m + 1) (bits h) k').1) ->
  ∃ N,N < 10 * (k + fuel)/\layClean.free m o fuel (run (m + 1) (bits h) k).1 (run (m + 1) (bits h) k).2=some (pr m h N).j/\¬ Tk o (pr m h N).j/\yI m o h N
 | 0,k,n,_,_,_,⟨k',a,b,_⟩=>by lia
 | fuel + 1,k,n,a,hn,hw,⟨k',q1,q2,q3⟩=>by
  have hi:(run (m + 1) (bits h) k).1<=m:=by have:=zb (M:=m + 1) (b:=bits h) (Sz m) k;lia
  have hre:=m5 hi;have hle9:=vd m (run (m + 1) (bits h) k).1;have hge:(run (m + 1) (bits h) k).1<=runEnd m (run (m + 1) (bits h) k).1:=by unfold runEnd;split <;> lia
  have pos:∀ r,r<=runEnd m (run (m + 1) (bits h) k).1 - (run (m + 1) (bits h) k).1->(pr m h (n + r)).j=(run (m + 1) (bits h) k).1 + r:=fun r hr=>by rw [sX a r hr]
  unfold layClean.free;cases f:(List.range (runEnd m (run (m + 1) (bits h) k).1 + 1 - (run (m + 1) (bits h) k).1)).find? (fun k_1=>(o.getD ((run (m + 1) (bits h) k).1 + k_1) (some 0)).isNone) with
  | some r =>
   obtain ⟨p1,i,hi',e1,e2⟩:=List.find?_eq_some_iff_getElem.mp f;rw [List.getElem_range] at e1;subst e1;have hlen:i < runEnd m (run (m + 1) (bits h) k).1 + 1 - (run (m + 1) (bits h) k).1:=by simpa using hi'
   refine ⟨n + i,by lia,?_,?_,fun n' l=>?_⟩
   ·rw [pos i (by lia)]
   ·rw [pos i (by lia)]
    exact (getD_none hs (by lia)).mp p1
   ·by_cases c:n' < n
    ·exact hw n' c
    ·have e3:=e2 (n' - n) (by lia)
     rw [List.getElem_range] at e3;have e4:(!(o.getD ((run (m + 1) (bits h) k).1 + (n' - n)) (some 0)).isNone)=true:=e3;have z:¬ (o.getD ((run (m + 1) (bits h) k).1 + (n' - n)) (some 0)).isNone=true:=fun q=>by
      rw [q] at e4;cases e4
     have z2:=fun q=>z ((getD_none hs (by lia)).mpr q)
     have z3:=Classical.not_not.mp z2;rw [show n'=n + (n' - n) by lia,pos (n' - n) (by lia)]
     exact z3
  | none =>
   have no:∀ r,r<=runEnd m (run (m + 1) (bits h) k).1 - (run (m + 1) (bits h) k).1->Tk o ((run (m + 1) (bits h) k).1 + r):=fun r hr=>by
    have z:=List.find?_eq_none.mp f r (Qv.mpr (by lia))
    exact Classical.not_not.mp fun q=>z ((getD_none hs (by lia)).mpr q)
   have z:=sX a _ (Q6 _);have a':qj m h (n + (runEnd m (run (m + 1) (bits h) k).1 - (run (m + 1) (bits h) k).1) + 1) (k + 1):=by
    show nY m (pr m h (n + (runEnd m (run (m + 1) (bits h) k).1 - (run (m + 1) (bits h) k).1)))=_;rw [z];unfold nY;rw [if_neg (show ¬ (runEnd m (run (m + 1) (bits h) k).1 - (run (m + 1) (bits h) k).1 - (runEnd m (run (m + 1) (bits h) k).1 - (run (m + 1) (bits h) k).1) > 0) by lia)]
    rfl
   have w':yI m o h (n + (runEnd m (run (m + 1) (bits h) k).1 - (run (m + 1) (bits h) k).1) + 1):=fun n' l=>by
    by_cases c:n' < n
    ·exact hw n' c
    ·rw [show n'=n + (n' - n) by lia,pos (n' - n) (by lia)]
     exact no _ (by lia)
   have later:k + 1<=k':=by
    rcases RL k k' with c | c
    ·exact c
    ·have e:k'=k:=by lia
     subst e;exact absurd (by simpa using no 0 (Qw _)) q3
   obtain ⟨N,c1,c2,c3,c4⟩:=vN hs fuel (k + 1) _ a' (by lia) w' ⟨k',later,by lia,q3⟩
   exact ⟨N,by lia,c2,c3,c4⟩
def bJ (o:Own) (M:Nat):VI:=(List.range M).filterMap fun j=>(o.getD j none).map (j,·)
structure kh (m:Nat)(hs:VW)(o:Own):Prop where
 sz:o.size=m + 1
 pm:((bJ o (m + 1)).map (·.2)).Perm (List.range hs.length)
 rc:∀ (j k:Nat) (h:Int),o[j]?=some (some k)->hs[k]?=some h->∃ n,n < 10 * turns m/\(pr m h n).j=j/\yI m o h n
 kl:∀ j k:Nat,o[j]?=some (some k)->k < hs.length
def qQ {M j:Nat}(hj:j < M):List.range M=List.range j++j::List.range' (j + 1) (M - j - 1):=by
 rw [Uo,Uo,show (j::List.range' (j + 1) (M - j - 1))=List.range' j (M - j - 1 + 1) from rfl]
 have e:=List.range'_append (s:=0) (m:=j) (n:=M - j - 1 + 1) (step:=1);rw [Nat.one_mul,Tj] at e;rw [e,show j + (M - j - 1 + 1)=M by lia]
def qZ {o:Own}{j x:Nat}(hj:j < o.size):(o.setIfInBounds j v).getD x none=if x=j then v else o.getD x none:=by
 rw [S2,S2,Uq]
 by_cases e:j=x
 ·subst e;rw [if_pos rfl,if_pos hj,if_pos rfl];rfl
 ·rw [if_neg e,if_neg (fun z=>e z.symm)]
theorem rQ {f g:Nat->Option (Nat×Nat)}:∀ {l:VV},(∀ x∈l,f x=g x)->l.filterMap f=l.filterMap g
 | [],_=>rfl
 | a::r,h=>by
  rw [RM,RM,h a Q2,rQ fun x hx=>h x (Q7 _ hx)]
def Fv {m j k:Nat}(hs:o.size=m + 1)(hj:j<=m)(hn:¬ Tk o j):∃ A B,bJ o (m + 1)=A++B/\bJ (o.setIfInBounds j (some k)) (m + 1)=A++(j,k)::B:=by
 have hnone:o.getD j none=none:=by
  have g:o[j]?=some o[j]:=RZ (by lia)
  rw [S2,g];show o[j]=none;cases z:o[j] with
  | none=>rfl
  | some k=>exact absurd ⟨k,by rw [g,z]⟩ hn
 refine ⟨(List.range j).filterMap fun x=>(o.getD x none).map (x,·),(List.range' (j + 1) (m + 1 - j - 1)).filterMap fun x=>(o.getD x none).map (x,·),?_,?_⟩
 ·unfold bJ;rw [qQ (M:=m + 1) (j:=j) (by lia),Tn,RM,hnone]
  rfl
 ·unfold bJ;rw [qQ (M:=m + 1) (j:=j) (by lia),Tn,RM,qZ (by lia),if_pos rfl]
  show _++(j,k)::_=_;congr 1
  ·refine rQ fun x hx=>?_
   have:=Qv.mp hx;rw [qZ (by lia),if_neg (by lia)]
  ·congr 1;refine rQ fun x hx=>?_
   have:=(List.mem_range'_1.mp hx).1;rw [qZ (by lia),if_neg (by lia)]
def E9 {j k x:Nat}(h:Tk o x)(hn:¬ Tk o j):Tk (o.setIfInBounds j (some k)) x:=by
 obtain ⟨k',e⟩:=h;refine ⟨k',?_⟩;have ne:j≠x:=fun z=>hn ⟨k',by rw [z];exact e⟩
 rw [Uq,if_neg ne];exact e
def kh.more {m:Nat}{h:Int}{N:Nat}(O:kh m hs o)(hl:N < 10 * turns m)(hn:¬ Tk o (pr m h N).j)(hw:yI m o h N):kh m (hs++[h]) (o.setIfInBounds (pr m h N).j (some hs.length)):=by
 have hj:=wg m h N;have hjs:(pr m h N).j < o.size:=by rw [O.sz];lia
 have set:∀ x,(o.setIfInBounds (pr m h N).j (some hs.length))[x]?=if (pr m h N).j=x then some (some hs.length) else o[x]?:=fun x=>by
  rw [Uq]
  by_cases e:(pr m h N).j=x
  ·rw [if_pos e,if_pos hjs,if_pos e]
  ·rw [if_neg e,if_neg e]
 refine ⟨by rw [Array.size_setIfInBounds,O.sz],?_,fun j k g hk hg=>?_,fun j k hk=>?_⟩
 ·obtain ⟨A,B,e1,e2⟩:=Fv (k:=hs.length) O.sz hj hn;have p:=O.pm;rw [e1,QY] at p;rw [e2,QY,QO,QE,Rm,UM];exact (List.perm_middle.trans (List.Perm.cons _ p)).trans (List.perm_append_singleton _ _).symm
 ·rw [set] at hk
  by_cases e:(pr m h N).j=j
  ·rw [if_pos e] at hk;cases hk;rw [S5 (Q6 _),Nat.sub_self] at hg;cases hg;exact ⟨N,hl,e,fun n' l=>E9 (hw n' l) hn⟩
  ·rw [if_neg e] at hk;have kl:=O.kl j k hk;rw [SW kl] at hg;obtain ⟨n,c1,c2,c3⟩:=O.rc j k g hk hg;exact ⟨n,c1,c2,fun n' l=>E9 (c3 n' l) hn⟩
 ·rw [QE,Rm];rw [set] at hk
  by_cases e:(pr m h N).j=j
  ·rw [if_pos e] at hk;cases hk;lia
  ·rw [if_neg e] at hk;have:=O.kl j k hk;lia
theorem DY {f:Nat->Option (Nat×Nat)}:∀ {l:VV},(∀ x∈l,∃ y,f x=some y)->(l.filterMap f).length=l.length
 | [],_=>rfl
 | a::r,h=>by
  obtain ⟨y,e⟩:=h a Q2;rw [RM,e];show ((r.filterMap f).length + 1)=r.length + 1;rw [DY fun x hx=>h x (Q7 _ hx)]
def mF {o:Own}{j k:Nat}:o.getD j none=some k↔o[j]?=some (some k):=by
 rw [S2];cases z:o[j]? with
 | none=>exact ⟨fun q=>(nomatch q),fun q=>(nomatch q)⟩
 | some v=>exact ⟨fun q=>congrArg some q,fun q=>Option.some.inj q⟩
def kh.room {m:Nat}{hs:VW}(O:kh m hs o)(hl:hs.length<=m):∃ j,j<=m/\¬ Tk o j:=by
 refine UK fun no=>?_
 have all:∀ j,j<=m->Tk o j:=fun j hj=>UK fun q=>no ⟨j,hj,q⟩
 have e:=O.pm.length_eq;rw [Q8,QI] at e;unfold bJ at e;rw [DY (fun x hx=>by
  obtain ⟨k,hk⟩:=all x (by have:=Qv.mp hx;lia)
  exact ⟨(x,k),by rw [mF.mpr hk];rfl⟩),QI] at e
 lia
def qf (m:Nat)(acc:Option (Own×Nat)) (h:Int):Option (Own×Nat):=do
 let (owner,k) <- acc
 let j <- layClean.free m owner (turns m) (bits h % (m + 1)) (bits h)
 pure (owner.setIfInBounds j (some k),k + 1)
theorem wO {m:Nat}(hf:full (m + 1)=true):∀ (hs2 hs1:VW)(o:Own),kh m hs1 o->hs1.length + hs2.length<=m->∃ o',hs2.foldl (qf m) (some (o,hs1.length))=some (o',(hs1++hs2).length)/\kh m (hs1++hs2) o'
 | [],hs1,o,O,_=>⟨o,by rw [RN];rfl,by rw [RN];exact O⟩
 | h::r,hs1,o,O,hl=>by
  rw [QH] at hl;obtain ⟨j0,hj0,n0⟩:=O.room (by lia)
  obtain ⟨k',hk',e'⟩:=heads hf h hj0;obtain ⟨N,c1,c2,c3,c4⟩:=vN (h:=h) O.sz (turns m) 0 0 rfl (Q6 _) (fun _ l=>absurd l (S8 _)) ⟨k',Qw _,by lia,by rw [e'];exact n0⟩
  have O2:=O.more (by lia) c3 c4
  obtain ⟨o',e1,O3⟩:=wO hf r (hs1++[h]) _ O2 (by rw [QE,Rm];lia)
  have st:qf m (some (o,hs1.length)) h=some (o.setIfInBounds (pr m h N).j (some hs1.length),hs1.length + 1):=by
   show (layClean.free m o (turns m) (bits h % (m + 1)) (bits h)).bind _=_;have c2:layClean.free m o (turns m) (bits h % (m + 1)) (bits h)=some (pr m h N).j:=c2;rw [c2];rfl
  rw [Qs] at e1 O3;refine ⟨o',?_,O3⟩;rw [Td,st];rw [QE,Rm] at e1;exact e1
def rV {n j:Nat}:(Array.replicate n (none:Option Nat)).getD j none=none:=by
 rw [S2,Array.getElem?_replicate];split <;> rfl
def DZ (m:Nat):kh m [] (Array.replicate (m + 1) none):=by
 refine ⟨by rw [Array.size_replicate],?_,fun j k h hk=>?_,fun j k hk=>?_⟩
 ·have e:bJ (Array.replicate (m + 1) none) (m + 1)=[]:=by
   unfold bJ;rw [List.filterMap_eq_nil_iff];intro x _;rw [rV];rfl
  rw [e];exact List.Perm.refl _
 ·have:=mF.mpr hk;rw [rV] at this;cases this
 ·have:=mF.mpr hk;rw [rV] at this;cases this
def zq {m:Nat}(hf:full (m + 1)=true)(hl:hs.size<=m):∃ o,layClean m hs=some o/\kh m hs.toList o:=by
 obtain ⟨o,e,O⟩:=wO hf hs.toList [] _ (DZ m) (by simpa using hl)
 refine ⟨o,?_,O⟩;have e2:layClean m hs=(hs.foldl (qf m) (some (Array.replicate (m + 1) none,0))).map (·.1):=rfl;have e:hs.toList.foldl (qf m) (some (Array.replicate (m + 1) none,0))=some (o,([]++hs.toList).length):=e;rw [e2,<- Array.foldl_toList,e];rfl
def rU {o:Own}{M j k:Nat}:(j,k)∈bJ o M↔j < M/\o[j]?=some (some k):=by
 unfold bJ;rw [UA];constructor
 ·rintro ⟨x,hx,e⟩;cases z:o.getD x none with
  | none=>rw [z] at e;cases e
  | some k' =>
   rw [z] at e;cases e;exact ⟨Qv.mp hx,mF.mp z⟩
 ·rintro ⟨h1,h2⟩;exact ⟨j,Qv.mpr h1,by rw [mF.mpr h2];rfl⟩
theorem sd {o:Own}:∀ (l:VV),((l.filterMap fun j=>(o.getD j none).map (j,·)).map (·.1))=l.filter fun j=>(o.getD j none).isSome
 | []=>rfl
 | a::r=>by
  rw [RM,To];cases z:o.getD a none with
  | none=>exact sd r
  | some k =>
   show a::_=a::_;rw [<- sd r]
def DN (o:Own) (M:Nat):iy ((bJ o M).map (·.1)).toArray:=by
 intro i k x y hik hx hy;have p:((bJ o M).map (·.1)).Pairwise (· < ·):=by
  unfold bJ;rw [sd];exact (Ur).filter _
 rw [Us] at hx hy;obtain ⟨h1,e1⟩:=RT.mp hx;obtain ⟨h2,e2⟩:=RT.mp hy;rw [<- e1,<- e2];exact UN.mp p i k h1 h2 hik
theorem Cy {α β:Type}{f:α->Option β}{g:α->β}:∀ {l:List α},(∀ x∈l,f x=some (g x))->l.filterMap f=l.map g
 | [],_=>rfl
 | a::r,h=>by
  rw [RM,h a Q2,QO,Cy fun x hx=>h x (Q7 _ hx)]
def Fp {t:SetTable}{es:Array Ent}{wanted:Nat}(hf:full (sizeAbove wanted - 1 + 1)=true)(ho:(sizeAbove wanted - 1) % 2=1)(hl:es.size<=sizeAbove wanted - 1) :
  ∃ es' t',relayAll t es wanted=(es',t',false)/\TB t' es'/\es'.toList.Perm es.toList/\t'.led=t.led/\t'.plain=t.plain/\t'.mask=sizeAbove wanted - 1:=by
 obtain ⟨o,e,O⟩:=zq hf (hs:=es.map (·.1)) (by simpa using hl)
 generalize hm:sizeAbove wanted - 1=m at *;have hn:(es.map (·.1)).toList.length=es.size:=by simp
 have pm:=O.pm;rw [hn] at pm;have order_lt:∀ k∈(bJ o (m + 1)).map (·.2),k < es.size:=fun k hk=>Qv.mp (pm.mem_iff.mp hk)
 have hg:∀ k∈(bJ o (m + 1)).map (·.2),es[k]?=some (es.getD k (0,.none)):=fun k hk=>by
  have:=order_lt k hk;rw [S2,RZ this];rfl
 have esL:(((bJ o (m + 1)).map (·.2)).toArray.filterMap (es[·]?)).toList=((bJ o (m + 1)).map (·.2)).map fun k=>es.getD k (0,.none):=by
  rw [Array.toList_filterMap];exact Cy hg
 have len:(bJ o (m + 1)).length=es.size:=by
  have:=pm.length_eq;rw [Q8,QI] at this;exact this
 have es'sz:(((bJ o (m + 1)).map (·.2)).toArray.filterMap (es[·]?)).size=es.size:=by
  rw [<- Rg,esL,Q8,Q8,len]
 have rel:t.relaid (es.map (·.1)) wanted=some ({ mask:=m,place:=((bJ o (m + 1)).map (·.1)).toArray,dummies:=#[],finger:=t.finger,led:=t.led,moves:=t.movedTo m,plain:=t.plain },((bJ o (m + 1)).map (·.2)).toArray):=by
  unfold relaid laid;rw [hm];show (layClean m (es.map (·.1))).bind _=_;rw [e];rfl
 have psz:((bJ o (m + 1)).map (·.1)).toArray.size=es.size:=by rw [QJ,Q8,len]
 have T:TB { mask:=m,place:=((bJ o (m + 1)).map (·.1)).toArray,dummies:=#[],finger:=t.finger,led:=t.led,moves:=t.movedTo m,plain:=t.plain } (((bJ o (m + 1)).map (·.2)).toArray.filterMap (es[·]?)):=by
  have at_:∀ (i j:Nat),((bJ o (m + 1)).map (·.1)).toArray[i]?=some j->∃ k,(bJ o (m + 1))[i]?=some (j,k):=fun i j h=>by
   rw [Us,QN] at h;cases z:(bJ o (m + 1))[i]? with
   | none=>rw [z] at h;cases h
   | some p =>
    rw [z] at h;obtain ⟨a,b⟩:=p;cases h;exact ⟨b,rfl⟩
  have inj:∀ j k:Nat,o[j]?=some (some k)->j<=m->In { mask:=m,place:=((bJ o (m + 1)).map (·.1)).toArray,dummies:=#[],finger:=t.finger,led:=t.led,moves:=t.movedTo m,plain:=t.plain } j:=fun j k h hj=>by
   obtain ⟨i,hi⟩:=Rt (rU.mpr ⟨Ul hj,h⟩);refine ⟨i,?_⟩;show ((bJ o (m + 1)).map (·.1)).toArray[i]?=some j;rw [Us,QN,hi];rfl
  refine ⟨by rw [es'sz];exact psz,DN o (m + 1),fun i j h=>?_,rfl,hf,ho,by show _<=m;rw [psz];exact hl,fun i j f h hf'=>?_⟩
  ·obtain ⟨k,hk⟩:=at_ i j h;have:=(rU.mp (QX hk)).1;show j<=m;lia
  ·obtain ⟨k,hk⟩:=at_ i j h;have mem:=rU.mp (QX hk);have f1:(((bJ o (m + 1)).map (·.2)).toArray.filterMap (es[·]?)).toList[i]?=some f:=by rw [RC];exact hf'
   rw [esL,QN,QN,hk] at f1;have f2:es.getD k (0,.none)=f:=Option.some.inj f1;have xK:k∈(bJ o (m + 1)).map (·.2):=QB.mpr ⟨_,QX hk,rfl⟩;have f3:=hg k xK;rw [f2] at f3;have f4:(es.map (·.1)).toList[k]?=some f.1:=by
    rw [RC,Array.getElem?_map,f3];rfl
   obtain ⟨n,c1,c2,c3⟩:=O.rc j k f.1 mem.2 f4;refine ⟨n,c1,c2,fun n' l=>?_⟩
   obtain ⟨k',z⟩:=c3 n' l;exact inj _ k' z (wg m f.1 n')
 refine ⟨_,_,?_,T,?_,rfl,rfl,rfl⟩
 ·unfold relayAll;rw [rel];dsimp only;rw [if_pos];rw [QC];refine ⟨?_,T.fits⟩;unfold coversAll;exact List.isPerm_iff.mpr pm
 ·rw [esL];have p2:=pm.map fun k=>es.getD k (0,.none)
  refine p2.trans (List.Perm.of_eq ?_);refine Rx fun i=>?_
  rw [QN]
  by_cases q:i < es.size
  ·rw [RU q,RC,RZ q];show some (es.getD i (0,.none))=_;rw [S2,RZ q];rfl
  ·rw [RG (by rw [QI];lia),RC,UL (by lia)]
   rfl
def Kr:full 16=true:=by decide +kernel
def JM:full 64=true:=by decide +kernel
def FI:full 256=true:=by decide +kernel
def zD:∀ n,n<=127->[8,16,32,64,128,256,512].contains (sizeAbove (grown n))=true/\n < sizeAbove (grown n):=by decide +kernel
def IL {n:Nat}(hn:n<=127):full (sizeAbove (grown n) - 1 + 1)=true/\(sizeAbove (grown n) - 1) % 2=1/\n<=sizeAbove (grown n) - 1:=by
 obtain ⟨h1,h2⟩:=zD n hn;generalize sizeAbove (grown n)=z at *;have:z=8\/z=16\/z=32\/z=64\/z=128\/z=256\/z=512:=by simpa using h1
 rcases this with rfl | rfl | rfl | rfl | rfl | rfl | rfl
 ·exact ⟨EK,rfl,by lia⟩
 ·exact ⟨Kr,rfl,by lia⟩
 ·exact ⟨J7,rfl,by lia⟩
 ·exact ⟨JM,rfl,by lia⟩
 ·exact ⟨FG,rfl,by lia⟩
 ·exact ⟨FI,rfl,by lia⟩
 ·exact ⟨Gd,rfl,by lia⟩
section
variable {prog:Program}{w:World}{K:Type} [DecidableEq K]{knd:KeyKind prog w K}{A:Around}{E:VC}{s:Shared}{t:SetTable}{es:Array Ent}
def uh {p:Nat}(hp:p<=es.size)(e f:Ent):f∈(insertAt es p e).toList↔f=e\/f∈es.toList:=by
 constructor
 ·intro h;obtain ⟨i,hi⟩:=Rt h;rw [RC,kq hp] at hi
  by_cases c:i < p
  ·rw [if_pos c] at hi;exact .inr (QX (by rw [RC];exact hi))
  ·rw [if_neg c] at hi
   by_cases c2:i=p
   ·rw [if_pos c2] at hi;exact .inl (Option.some.inj hi).symm
   ·rw [if_neg c2] at hi;exact .inr (QX (by rw [RC];exact hi))
 ·intro h;rcases h with rfl | h
  ·refine QX (i:=p) ?_;rw [RC,kq hp,if_neg (R9 _),if_pos rfl]
  ·obtain ⟨i,hi⟩:=Rt h;rw [RC] at hi
   by_cases c:i < p
   ·refine QX (i:=i) ?_;rw [RC,kq hp,if_pos c,hi]
   ·refine QX (i:=i + 1) ?_;rw [RC,kq hp,if_neg (by lia),if_neg (by lia),Nat.add_sub_cancel,hi]
def EL:∀ n,n<=127->n * 5 < (sizeAbove (grown n) - 1) * 3/\sizeAbove (grown n)<=512:=by decide +kernel
end
end SM
namespace L2
open PySem PySem.Spec PyProof.Rows
section
variable {X:Cx}
theorem qq:∀ {xs:List V}{us:VQ},Vals xs us->∀ (i:Nat)(u:Value),us[i]?=some u->∃ x,xs[i]?=some x/\RelV x u
 | _,_,.nil,i,u,h=>by cases h
 | _,_,.cons h r,0,u,e=>by
  cases e;exact ⟨_,rfl,h⟩
 | _,_,.cons h r,i + 1,u,e=>qq r i u e
end
end L2
namespace L2
open PySem PySem.Spec PyProof.Rows PySem.SeqAt PySem.W
mutual
inductive ly (K:VL)(H:Hp):V->PyData->Prop
 | bE:ly K H .bE .none
 | bl (b:Bool):ly K H (.bl b) (.bool b)
 | int (i:Int):ly K H (.int i) (.int i)
 | str (x:Str):ly K H (.str x) (.str x)
 | lst {a:Addr}{xs:List V}{ds:VO}:bX K H a xs->rK K H xs ds->ly K H (.ref a) (.list ds)
 | tup {a:Addr}{xs:List V}{ds:VO}:cj K H a xs->rK K H xs ds->ly K H (.ref a) (.tuple ds)
inductive rK (K:VL)(H:Hp):List V->VO->Prop
 | nil:rK K H [] []
 | cons {x:V}{d:PyData}{xs:List V}{ds:VO}:ly K H x d->rK K H xs ds->rK K H (x::xs) (d::ds)
end
section
variable {X:Cx}{pins:VF}{U:St}{H:Hp}{s:Shared}
mutual
theorem Inv.reads (I:Inv X pins U H s):∀ {v:V}{d:PyData}{u:Value},ly X.K H v d->RelV v u->∃ as,Reads s.heap u d as
 | _,_,_,.bE,r=>by cases r;exact ⟨_,.none⟩
 | _,_,_,.bl b,r=>by cases r;exact ⟨_,.bool b⟩
 | _,_,_,.int i,r=>by obtain ⟨t,rfl⟩:=r;exact ⟨_,.int i t⟩
 | _,_,_,.str x,r=>by obtain ⟨t,rfl⟩:=r;exact ⟨_,.str x t⟩
 | _,_,_,.lst hq hs,r=>by
  cases r;obtain ⟨its,rv,p,_⟩:=I.list hq;obtain ⟨as,ra⟩:=I.readsAll hs rv;obtain ⟨o,ho,hc,n,hd⟩:=p.isList;exact ⟨_,.list ho hc hd (by simpa using ra)⟩
 | _,_,_,.tup hq hs,r=>by
  cases r;obtain ⟨its,rv,p,_⟩:=I.tuple hq;obtain ⟨as,ra⟩:=I.readsAll hs rv;obtain ⟨o,ho,hc,n,hd⟩:=(show s.heap.IsTuple _ its.toArray from p)
  exact ⟨_,.tuple ho hc hd (by simpa using ra)⟩
theorem Inv.readsAll (I:Inv X pins U H s):∀ {vs:List V}{ds:VO}{us:VQ},rK X.K H vs ds->Vals vs us->∃ as,ReadsAll s.heap us ds as
 | _,_,_,.nil,r=>by cases r;exact ⟨_,.nil⟩
 | _,_,_,.cons h hs,r=>by
  cases r with
  | cons r1 r2 =>
   obtain ⟨as,ra⟩:=I.reads h r1;obtain ⟨bs,rb⟩:=I.readsAll hs r2;exact ⟨_,.cons ra rb⟩
end
inductive HX (K:VL)(neg:Bool) (x:V) (y:V)(H:Hp)(Q:VK):Prop
 | mk:∀ d e,(ly K H x d)->(ly K H y e)->(shaped d=true)->(shaped e=true)->(noMix d e=true)->(Q (.bl (if neg then !same d e else same d e)) H)->HX K neg x y H Q
def Fq (K:VL)(neg:Bool):R2:=fun x y H Q=>HX K neg x y H Q
def MX (hu:X.A.units + 64 < cLine):bN X (compareOp .Eq) (Fq X.K false):=by
 intro pins s U H x y v u Q I rx ry h;obtain ⟨d,e,h1,h2,s1,s2,nm,q⟩:=h;obtain ⟨as,ra⟩:=I.reads h1 rx;obtain ⟨bs,rb⟩:=I.reads h2 ry;exact eq_dataH_same ra rb s1 s2 hu nm ⟨.bl _,H,I,rfl,q⟩
def Nc (hu:X.A.units + 64 < cLine):bN X (compareOp .NotEq) (Fq X.K true):=by
 intro pins s U H x y v u Q I rx ry h;obtain ⟨d,e,h1,h2,s1,s2,nm,q⟩:=h;obtain ⟨as,ra⟩:=I.reads h1 rx;obtain ⟨bs,rb⟩:=I.reads h2 ry;exact ne_dataH_same ra rb s1 s2 hu nm ⟨.bl _,H,I,rfl,q⟩
end
end L2
namespace L2
open PySem PySem.Spec PyProof.Rows
section
variable {prog:Program}{w:World}{A:Around}{E:VC}{s:Shared}
end
section
variable {X:Cx}{e:Expr}{te:TE}
def EM (hc:X.calm=true):b8 X (.builtin "all") (fun xs H Q=>∃ (a:Addr)(bs:VS),xs=[.ref a]/\bX X.K H a (bs.map V.bl)/\Q (.bl (bs.all id)) H):=by
 intro pins s U H xs us Q I r h;obtain ⟨a,bs,rfl,hq,q⟩:=h;obtain ⟨u,rfl,ru⟩:=vals1 r;cases ru;obtain ⟨its,rv,p,_⟩:=I.list hq;have hl:=p.isList;have hlt:a < s.heap.objs.size:=by
  obtain ⟨o,ho,_⟩:=id hl;exact QD ho
 have hh:X.A.in1.handled=none:=by simp [I.ok.hd hc]
 refine call_all_walk (UO hl ?_);refine ⟨_,_,_,_,_,_,fun i=>bs.getD i false,rfl,Walks.list hh _ a (QG hlt) its.toArray,⟨⟨_,R7 _ rfl,rfl,rfl⟩,hl.push _⟩,fun i v s' Q' E' hP hQ=>?_,fun h' tk hk=>?_⟩
 ·have hP':its[i]?=some v:=by simpa using hP
  obtain ⟨x,hx,rx⟩:=qq rv i v hP';rw [QN] at hx;cases e:bs[i]? with
  | none=>rw [e] at hx;cases hx
  | some b =>
   rw [e] at hx;cases hx;cases rx;have e2:bs.getD i false=b:=by rw [RD,e];rfl
   dsimp only at hQ;rw [e2] at hQ;exact SR hQ
 ·have kp:∀ b o,s.heap.get? b=some o->h'.get? b=some o:=fun b o hb=>hk b o (by
   have:=QD hb;simp only [QF];exact QG this) (QL _ hb)
  have len:its.toArray.size=bs.length:=by rw [QJ,<- rv.length,Q8]
  refine ⟨.bl _,H,I.kept (t':=tk) kp,rfl,?_⟩;have e:(List.range its.toArray.size).all (fun i=>bs.getD i false)=bs.all id:=by
   rw [len];rw [Ro,QK,QK];constructor
   ·intro h b hb;obtain ⟨i,hi⟩:=Rt hb;have:=h i (Qv.mpr (RT.mp hi).1);rw [RD,hi] at this;exact this
   ·intro h i hi;have hi':=Qv.mp hi;rw [RD,QV hi'];exact h _ (Rn hi')
  rw [e];exact q
end
def cg {a:Addr}(h:H a=none):ah H (upd H a o):=fun b u e=>by rw [au (gx e h)];exact e
end L2
namespace Dv
open PySem L2 PySem.W
def bF:Key->PyData
 | .inl i=>.int i
 | .inr x=>.str x
def cy (K:Frag)(H:Hp)(a:Addr)(xs:List V):Prop:=Rd H a (.lst xs)\/∃ (its:VQ) (n:Nat),K.lookup a=some { cls:=.type "list",data:=.seq its.toArray n }/\its.length<=sizeLine/\Vals xs its
def Rd.mono {a:Addr}(s:ah H H'):Rd H a u->Rd H' a u
 | .inl h=>.inl (s _ _ h)
 | .inr ⟨o,h⟩=>.inr ⟨o,s _ _ h⟩
theorem cy.mono {a:Addr}(s:ah H H'):cy K H a xs->cy K H' a xs
 | .inl h=>.inl (Rd.mono s h)
 | .inr h=>.inr h
def cy.sq {a:Addr}(h:cy K H a xs):bX K H a xs:=by
 rcases h with h | ⟨its,n,hk,hl,r⟩
 ·exact .inl h
 ·exact .inr ⟨_,its.toArray,n,hk,rfl,rfl,rfl,by rw [QJ];exact hl,by simpa using r⟩
theorem cy.get {a:Addr}(I:L2.Inv X pins U H s)(h:cy X.K H a xs):xs.length<=sizeLine/\∃ its n,Vals xs its/\s.heap.get? a=some { cls:=.type "list",data:=.seq its.toArray n }:=by
 rcases h with h | ⟨its,n,hk,hl,r⟩
 ·obtain ⟨z,its,n,r,e⟩:=h.ok I.hok;exact ⟨z,its,n,r,e⟩
 ·exact ⟨by rw [r.length];exact hl,its,n,r,I.qG a _ hk⟩
mutual
inductive Rp (K:Frag)(H:Hp):V->PyData->Prop
 | bE:Rp K H .bE .none
 | bl (b:Bool):Rp K H (.bl b) (.bool b)
 | int (i:Int):Rp K H (.int i) (.int i)
 | str (x:Str):Rp K H (.str x) (.str x)
 | lst {a:Addr}{xs:List V}{ds:VO}:cy K H a xs->aA K H xs ds->Rp K H (.ref a) (.list ds)
 | tup {a:Addr}{xs:List V}{ds:VO}:H a=some (.tup xs)->aA K H xs ds->Rp K H (.ref a) (.tuple ds)
 | dk {a:Addr}{kvs:List (Key×V)}{ds:VA}:H a=some (.dK kvs)->fc K H kvs ds->Rp K H (.ref a) (.dict ds)
 | dt {a:Addr}{kvs:List (List Key×V)}{ds:VA}:H a=some (.dT kvs)->fj K H kvs ds->Rp K H (.ref a) (.dict ((.none,.none)::ds))
 | exc {a C:Addr}{c:Str}:H a=some (.ext (iZ a C none))->nsIn K mainGlobals c=some (some (.ref C))->Rp K H (.ref a) (.dict [(.none,.str c)])
inductive aA (K:Frag)(H:Hp):List V->VO->Prop
 | nil:aA K H [] []
 | cons {x:V}{d:PyData}{xs:List V}{ds:VO}:Rp K H x d->aA K H xs ds->aA K H (x::xs) (d::ds)
inductive fc (K:Frag)(H:Hp):List (Key×V)->List (PyData×PyData)->Prop
 | nil:fc K H [] []
 | cons {k:Key}{v:V}{d:PyData}{kvs:List (Key×V)}{ds:VA}:Rp K H v d->fc K H kvs ds->fc K H ((k,v)::kvs) ((bF k,d)::ds)
inductive fj (K:Frag)(H:Hp):List (List Key×V)->List (PyData×PyData)->Prop
 | nil:fj K H [] []
 | cons {k:List Key}{v:V}{d:PyData}{kvs:List (List Key×V)}{ds:VA}:Rp K H v d->fj K H kvs ds->fj K H ((k,v)::kvs) ((.tuple (k.map bF),d)::ds)
end
mutual
theorem Rp.mono (s:ah H H'):∀ {v:V}{d:PyData},Rp K H v d->Rp K H' v d
 | _,_,.bE=>.bE
 | _,_,.bl b=>.bl b
 | _,_,.int i=>.int i
 | _,_,.str x=>.str x
 | _,_,.lst h r=>.lst (cy.mono s h) (r.mono s)
 | _,_,.tup h r=>.tup (s _ _ h) (r.mono s)
 | _,_,.dk h r=>.dk (s _ _ h) (r.mono s)
 | _,_,.dt h r=>.dt (s _ _ h) (r.mono s)
 | _,_,.exc h n=>.exc (s _ _ h) n
theorem aA.mono (s:ah H H'):∀ {vs:List V}{ds:VO},aA K H vs ds->aA K H' vs ds
 | _,_,.nil=>.nil
 | _,_,.cons h r=>.cons (h.mono s) (r.mono s)
theorem fc.mono (s:ah H H'):∀ {kvs:List (Key×V)}{ds:VA},fc K H kvs ds->fc K H' kvs ds
 | _,_,.nil=>.nil
 | _,_,.cons h r=>.cons (h.mono s) (r.mono s)
theorem fj.mono (s:ah H H'):∀ {kvs:List (List Key×V)}{ds:VA},fj K H kvs ds->fj K H' kvs ds
 | _,_,.nil=>.nil
 | _,_,.cons h r=>.cons (h.mono s) (r.mono s)
end
def nd:PyData->Bool
 | .list ds=>nds ds
 | .tuple ds=>nds ds
 | .dict _=>false
 | _=>true
where nds:VO->Bool
 | []=>true
 | d::ds=>nd d && nds ds
mutual
theorem Rp.oz:∀ {v:V}{d:PyData},Rp K H v d->nd d=true->ly K H v d
 | _,_,.bE,_=>.bE
 | _,_,.bl b,_=>.bl b
 | _,_,.int i,_=>.int i
 | _,_,.str x,_=>.str x
 | _,_,.lst h r,e=>.lst h.sq (r.oz (by rw [nd] at e;exact e))
 | _,_,.tup h r,e=>.tup (cj.of h) (r.oz (by rw [nd] at e;exact e))
 | _,_,.dk _ _,e=>by rw [nd] at e;cases e
 | _,_,.dt _ _,e=>by rw [nd] at e;cases e
 | _,_,.exc _ _,e=>by rw [nd] at e;cases e
theorem aA.oz:∀ {vs:List V}{ds:VO},aA K H vs ds->nd.nds ds=true->rK K H vs ds
 | _,_,.nil,_=>.nil
 | _,_,.cons h r,e=>by
  rw [nd.nds,QC] at e;exact .cons (h.oz e.1) (r.oz e.2)
end
def lB (H H':Hp):Prop:=∀ a xs,H a=some (.tup xs)->H' a=some (.tup xs)
mutual
theorem Rp.lf (s:lB H H'):∀ {v:V}{d:PyData},Rp K H v d->Dv.lf d=true->Rp K H' v d
 | _,_,.bE,_=>.bE
 | _,_,.bl b,_=>.bl b
 | _,_,.int i,_=>.int i
 | _,_,.str x,_=>.str x
 | _,_,.lst h r,e=>by rw [Dv.lf] at e;cases e
 | _,_,.tup h r,e=>by
  rw [Dv.lf] at e;exact .tup (s _ _ h) (r.lf s e)
 | _,_,.dk _ _,e=>by rw [Dv.lf] at e;cases e
 | _,_,.dt _ _,e=>by rw [Dv.lf] at e;cases e
 | _,_,.exc _ _,e=>by rw [Dv.lf] at e;cases e
theorem aA.lf (s:lB H H'):∀ {vs:List V}{ds:VO},aA K H vs ds->Dv.lf.lfs ds=true->aA K H' vs ds
 | _,_,.nil,_=>.nil
 | _,_,.cons h r,e=>by
  rw [Dv.lf.lfs,QC] at e;exact .cons (h.lf s e.1) (r.lf s e.2)
end
section
variable {K:Frag}{H:Hp}
theorem aA.len:∀ {vs:List V}{ds:VO},aA K H vs ds->vs.length=ds.length
 | _,_,.nil=>rfl
 | _,_,.cons _ r=>congrArg (· + 1) r.len
theorem aA.get:∀ {vs:List V}{ds:VO}{i:Nat}{d:PyData},aA K H vs ds->ds[i]?=some d->∃ v,vs[i]?=some v/\Rp K H v d
 | _,_,_,_,.nil,e=>by simp at e
 | _,_,0,_,.cons h _,e=>by simp at e;subst e;exact ⟨_,rfl,h⟩
 | _,_,i + 1,_,.cons _ r,e=>r.get (i:=i) (by simpa using e)
theorem aA.KI:∀ {vs:List V}{ds:VO}{i:Nat}{v:V},aA K H vs ds->vs[i]?=some v->∃ d,ds[i]?=some d/\Rp K H v d
 | _,_,_,_,.nil,e=>by simp at e
 | _,_,0,_,.cons h _,e=>by simp at e;subst e;exact ⟨_,rfl,h⟩
 | _,_,i + 1,_,.cons _ r,e=>r.KI (i:=i) (by simpa using e)
theorem aA.app:∀ {vs us:List V}{ds es:VO},aA K H vs ds->aA K H us es->aA K H (vs++us) (ds++es)
 | _,_,_,_,.nil,s=>s
 | _,_,_,_,.cons h r,s=>.cons h (r.app s)
def aA.snoc (r:aA K H vs ds)(h:Rp K H v d):aA K H (vs++[v]) (ds++[d]):=r.app (.cons h .nil)
theorem aA.take:∀ {vs:List V}{ds:VO} (n:Nat),aA K H vs ds->aA K H (vs.take n) (ds.take n)
 | _,_,0,_=>.nil
 | _,_,_ + 1,.nil=>.nil
 | _,_,n + 1,.cons h r=>.cons h (r.take n)
theorem aA.drop:∀ {vs:List V}{ds:VO} (n:Nat),aA K H vs ds->aA K H (vs.drop n) (ds.drop n)
 | _,_,0,r=>r
 | _,_,_ + 1,.nil=>.nil
 | _,_,n + 1,.cons _ r=>r.drop n
theorem aA.set (h:Rp K H v d):∀ {vs:List V}{ds:VO} (i:Nat),aA K H vs ds->aA K H (vs.set i v) (ds.set i d)
 | _,_,_,.nil=>.nil
 | _,_,0,.cons _ r=>.cons h r
 | _,_,i + 1,.cons g r=>.cons g (r.set h i)
theorem aA.rev:∀ {vs:List V}{ds:VO},aA K H vs ds->aA K H vs.reverse ds.reverse
 | _,_,.nil=>.nil
 | _,_,.cons h r=>by rw [List.reverse_cons,List.reverse_cons];exact r.rev.snoc h
end
inductive eF (K:Frag)(H Hm:Hp):List V->VO->VR->Prop
 | nil:eF K H Hm [] [] []
 | kU {x:V}{d:PyData}{xs:List V}{ds:VO}{fp:VR}:Ah d=false->Rp K Hm x d->eF K H Hm xs ds fp->eF K H Hm (x::xs) (d::ds) fp
 | own {b:Addr}{ys:List V}{es:VO}{xs:List V}{ds:VO}{fp:VR}:H b=some (.lst ys)->aA K Hm ys es->b∉fp->eF K H Hm xs ds fp->eF K H Hm (.ref b::xs) (.list es::ds) (b::fp)
inductive sW (K:Frag)(H Hm:Hp):List (List Key×V)->List (PyData×PyData)->VR->Prop
 | nil:sW K H Hm [] [] []
 | own {k:List Key}{b:Addr}{ys:List V}{es:VO}{kvs:List (List Key×V)}{ds:VA}{fp:VR}:H b=some (.lst ys)->aA K Hm ys es->b∉fp->sW K H Hm kvs ds fp->sW K H Hm ((k,.ref b)::kvs) ((.tuple (k.map bF),.list es)::ds) (b::fp)
inductive Own (K:Frag)(H Hm:Hp):Kd->V->PyData->VR->Prop
 | sh {v:V}{d:PyData}:Rp K Hm v d->Own K H Hm .sh v d []
 | ow {p:Bool}{a:Addr}{xs:List V}{ds:VO}:H a=some (.lst xs)->aA K Hm xs ds->Own K H Hm (.ow p) (.ref a) (.list ds) [a]
 | dp {p:Bool}{a:Addr}{xs:List V}{ds:VO}{fp:VR}:H a=some (.lst xs)->a∉fp->eF K H Hm xs ds fp->Own K H Hm (.dp p) (.ref a) (.list ds) (a::fp)
 | dk {p:Bool}{a:Addr}{kvs:List (Key×V)}{ds:VA}:H a=some (.dK kvs)->fc K Hm kvs ds->Own K H Hm (.dk p) (.ref a) (.dict ds) [a]
 | dt {p:Bool}{a:Addr}{kvs:List (List Key×V)}{ds:VA}:H a=some (.dT kvs)->fj K Hm kvs ds->Own K H Hm (.dt p) (.ref a) (.dict ((.none,.none)::ds)) [a]
 | st {p:Bool}{a:Addr}{kvs:List (List Key×V)}{ds:VA}{fp:VR}:H a=some (.dT kvs)->a∉fp->sW K H Hm kvs ds fp->Own K H Hm (.st p) (.ref a) (.dict ((.none,.none)::ds)) (a::fp)
section
variable {K:Frag}{H H' Hm Hm':Hp}
def eF.step (s:ah Hm Hm'){xs:List V}{ds:VO}{fp:VR}(i:eF K H Hm xs ds fp):(∀ a∈fp,H' a=H a)->eF K H' Hm' xs ds fp:=by
 induction i with
 | nil=>exact fun _=>.nil
 | kU e r _ ih=>exact fun h=>.kU e (r.mono s) (ih h)
 | own e r n _ ih=>exact fun h=>.own ((h _ Q2).trans e) (r.mono s) n (ih fun a ha=>h a (Q7 _ ha))
def eF.live (i:eF K H Hm xs ds fp):∀ a∈fp,∃ ys,H a=some (.lst ys):=by
 induction i with
 | nil=>exact fun _ h=>absurd h QZ
 | kU _ _ _ ih=>exact ih
 | own e _ _ _ ih =>
  intro a h;rcases Q9.mp h with rfl | h
  ·exact ⟨_,e⟩
  ·exact ih a h
def sW.step (s:ah Hm Hm'){xs:List (List Key×V)}{ds:VA}{fp:VR}(i:sW K H Hm xs ds fp):(∀ a∈fp,H' a=H a)->sW K H' Hm' xs ds fp:=by
 induction i with
 | nil=>exact fun _=>.nil
 | own e r n _ ih=>exact fun h=>.own ((h _ Q2).trans e) (r.mono s) n (ih fun a ha=>h a (Q7 _ ha))
def sW.live (i:sW K H Hm xs ds fp):∀ a∈fp,∃ ys,H a=some (.lst ys):=by
 induction i with
 | nil=>exact fun _ h=>absurd h QZ
 | own e _ _ _ ih =>
  intro a h;rcases Q9.mp h with rfl | h
  ·exact ⟨_,e⟩
  ·exact ih a h
theorem Own.step {k:Kd}{v:V}{d:PyData}{fp:VR}(o:Own K H Hm k v d fp)(s:ah Hm Hm')(h:∀ a∈fp,H' a=H a):Own K H' Hm' k v d fp:=by
 cases o with
 | sh r=>exact .sh (r.mono s)
 | ow e r=>exact .ow ((h _ Q2).trans e) (r.mono s)
 | dp e n t=>exact .dp ((h _ Q2).trans e) n (t.step s fun a ha=>h a (Q7 _ ha))
 | dk e r=>exact .dk ((h _ Q2).trans e) (r.mono s)
 | dt e r=>exact .dt ((h _ Q2).trans e) (r.mono s)
 | st e n t=>exact .st ((h _ Q2).trans e) n (t.step s fun a ha=>h a (Q7 _ ha))
def qR (u:HO):Prop:=∀ xs,u≠.tup xs
def mO:qR (.lst xs):=fun _ z=>by cases z
def u9:qR (.dK xs):=fun _ z=>by cases z
def vE:qR (.dT xs):=fun _ z=>by cases z
theorem Own.live (o:Own K H Hm k v d fp):∀ a∈fp,∃ u,H a=some u/\qR u:=by
 intro a ha;cases o with
 | sh _=>cases ha
 | ow e _=>rw [QF.mp ha];exact ⟨_,e,by first | exact mO | exact u9 | exact vE⟩
 | dp e _ t =>
  rcases Q9.mp ha with rfl | ha
  ·exact ⟨_,e,by first | exact mO | exact u9 | exact vE⟩
  ·obtain ⟨ys,e⟩:=t.live a ha;exact ⟨_,e,by first | exact mO | exact u9 | exact vE⟩
 | dk e _=>rw [QF.mp ha];exact ⟨_,e,by first | exact mO | exact u9 | exact vE⟩
 | dt e _=>rw [QF.mp ha];exact ⟨_,e,by first | exact mO | exact u9 | exact vE⟩
 | st e _ t =>
  rcases Q9.mp ha with rfl | ha
  ·exact ⟨_,e,by first | exact mO | exact u9 | exact vE⟩
  ·obtain ⟨ys,e⟩:=t.live a ha;exact ⟨_,e,by first | exact mO | exact u9 | exact vE⟩
def eF.Qg (s:ah Hm Hm')(i:eF K H Hm xs ds fp):(∀ a∈fp,Hm' a=H a)->aA K Hm' xs ds:=by
 induction i with
 | nil=>exact fun _=>.nil
 | kU _ r _ ih=>exact fun h=>.cons (r.mono s) (ih h)
 | own e r _ _ ih=>exact fun h=>.cons (.lst (.inl (.inl ((h _ Q2).trans e))) (r.mono s)) (ih fun a ha=>h a (Q7 _ ha))
def Own.rp (o:Own K H Hm k v d fp)(hk:k.rd=true)(s:ah Hm Hm')(h:∀ a∈fp,Hm' a=H a):Rp K Hm' v d:=by
 cases o with
 | sh r=>exact r.mono s
 | ow e r=>exact .lst (.inl (.inl ((h _ Q2).trans e))) (r.mono s)
 | dp e _ t=>exact .lst (.inl (.inl ((h _ Q2).trans e))) (t.Qg s fun a ha=>h a (Q7 _ ha))
 | dk e r=>exact .dk ((h _ Q2).trans e) (r.mono s)
 | dt e r=>exact .dt ((h _ Q2).trans e) (r.mono s)
 | st _ _ _=>cases hk
def aA.yH (s:lB Hm Hm')(r:aA K Hm xs ds)(h:ds.all Dv.lf=true):aA K Hm' xs ds:=r.lf s (by rw [uS];exact h)
theorem eF.flat (s:lB Hm Hm'):∀ {xs:List V}{ds:VO}{fp:VR},eF K H Hm xs ds fp->(ds.all fun d=>match d with | .list es=>es.all Dv.lf | d=>Dv.lf d)=true->eF K H Hm' xs ds fp
 | _,_,_,.nil,_=>.nil
 | _,_,_,.kU (d:=d) e r t,h=>by
  rw [QM,QC] at h;refine .kU e (r.lf s ?_) (t.flat s h.2);have h1:=h.1;cases d <;> first | exact h1 | cases e
 | _,_,_,.own e r n t,h=>by
  rw [QM,QC] at h;exact .own e (r.yH s h.1) n (t.flat s h.2)
theorem fc.flat (s:lB Hm Hm'):∀ {kvs:List (Key×V)}{ds:VA},fc K Hm kvs ds->(ds.all fun kv=>Dv.lf kv.2)=true->fc K Hm' kvs ds
 | _,_,.nil,_=>.nil
 | _,_,.cons r t,h=>by
  rw [QM,QC] at h;exact .cons (r.lf s h.1) (t.flat s h.2)
theorem fj.flat (s:lB Hm Hm'):∀ {kvs:List (List Key×V)}{ds:VA},fj K Hm kvs ds->(ds.all fun kv=>Dv.lf kv.2)=true->fj K Hm' kvs ds
 | _,_,.nil,_=>.nil
 | _,_,.cons r t,h=>by
  rw [QM,QC] at h;exact .cons (r.lf s h.1) (t.flat s h.2)
theorem Own.flat (o:Own K H Hm k v d fp)(s:lB Hm Hm')(h:Dv.flat k d=true):Own K H Hm' k v d fp:=by
 cases o with
 | sh r=>exact .sh (r.lf s h)
 | ow e r=>exact .ow e (r.yH s h)
 | dp e n t=>exact .dp e n (t.flat s h)
 | dk e r=>exact .dk e (r.flat s h)
 | dt e r =>
  have h:(Dv.lf .none && _)=true:=h;rw [QC] at h;exact .dt e (r.flat s h.2)
 | st _ _ _=>cases h
end
def OE (o p:Option HO):Prop:=o=p\/(p=none/\∃ xs,o=some (.tup xs))
def OE.rfl':OE o o:=.inl rfl
def OE.trans (h:OE a b)(k:OE b c):OE a c:=by
 rcases h with rfl | ⟨rfl,h⟩
 ·exact k
 ·rcases k with rfl | ⟨rfl,_⟩
  ·exact .inr ⟨rfl,h⟩
  ·exact .inr ⟨rfl,h⟩
def OE.off {a:Addr}(h:OE (Hm a) p)(hp:p=none)(s:ah Hm H)(hu:H a=some u)(nt:qR u):Hm a=none:=by
 rcases h with e | ⟨_,xs,e⟩
 ·rw [e,hp]
 ·have:=s _ _ e;rw [hu] at this;cases this;exact absurd rfl (nt xs)
structure Gh where
 H0:Hp
 ji:Hp
 pins:List (Nat×Addr)
def Gh.M (g:Gh):VR:=g.pins.map (·.2)
structure Rl (K:Frag)(g:Gh)(E:En)(U:St)(H Hm:Hp)(F:Nat->VR):Prop where
 len:E.length=U.length
 sub:ah Hm H
 slot:∀ i k d,E[i]?=some (some (k,d))->∃ v,U[i]?=some (some v)/\Own K H Hm k v d (F i)
 off:∀ i a,a∈F i->Hm a=none
 bH:∀ i a,a∈F i->∃ u,H a=some u/\qR u
 aV:∀ i j a,a∈F i->a∈F j->i=j
 fr:∀ p o,p∉g.M->g.H0 p=some o->H p=some o
 new:∀ i a,a∈F i->a∈g.M\/g.H0 a=none
 pin:∀ q∈g.pins,U[q.1]?=some (some (.ref q.2))/\∃ ds,E[q.1]?=some (some (.ow true,.list ds))
 old:∀ a,g.H0 a≠none->OE (Hm a) (g.ji a)
structure Tm (K:Frag)(g:Gh)(F:Nat->VR)(H Hm:Hp)(k:Kd) (v:V)(d:PyData)(fp:VR):Prop where
 own:Own K H Hm k v d fp
 off:∀ a∈fp,Hm a=none
 aV:∀ a∈fp,∀ i,a∉F i
 new:∀ a∈fp,g.H0 a=none
section
variable {K:Frag}{g:Gh}{E:En}{U:St}{H H' Hm Hm':Hp}{F:Nat->VR}
def Rl.grow (R:Rl K g E U H Hm F)(h:ah H H')(s:ah Hm Hm')(b:ah Hm' H')(o:∀ i a,a∈F i->Hm' a=none)(od:∀ a,g.H0 a≠none->OE (Hm' a) (Hm a)):Rl K g E U H' Hm' F where
 len:=R.len
 sub:=b
 slot:=fun i k d e=>by
  obtain ⟨v,h1,h2⟩:=R.slot i k d e;refine ⟨v,h1,h2.step s fun a ha=>?_⟩
  obtain ⟨u,hu,_⟩:=h2.live a ha;rw [hu];exact h _ _ hu
 off:=o
 bH:=fun i a ha=>let ⟨u,hu,n⟩:=R.bH i a ha;⟨u,h _ _ hu,n⟩
 aV:=R.aV
 fr:=fun p o hp ho=>h _ _ (R.fr p o hp ho)
 new:=R.new
 pin:=R.pin
 old:=fun a ha=>(od a ha).trans (R.old a ha)
def Rl.more (R:Rl K g E U H Hm F)(s:ah Hm Hm')(b:ah Hm' H)(o:∀ i a,a∈F i->Hm' a=none)(od:∀ a,g.H0 a≠none->OE (Hm' a) (Hm a)):Rl K g E U H Hm' F:=R.grow (ah.refl _) s b o od
def Rl.A0 (R:Rl K g E U H Hm F)(hq:q∈g.pins):F q.1=[q.2]:=by
 obtain ⟨h1,ds,h2⟩:=R.pin q hq;obtain ⟨v,h3,h4⟩:=R.slot _ _ _ h2;rw [h1] at h3;cases h3;generalize F q.1=fi at h4;cases h4;rfl
def Rl.notM (R:Rl K g E U H Hm F){i:Nat}(e:E[i]?=some (some (k,d)))(hk:k.pin=false){a:Addr}(ha:a∈F i):g.H0 a=none:=by
 rcases R.new i a ha with m | m
 ·obtain ⟨q,hq,rfl⟩:=QB.mp m;have:=R.aV i q.1 q.2 ha (by rw [R.A0 hq];exact Q2)
  obtain ⟨_,ds,h2⟩:=R.pin q hq;rw [<- this,e] at h2;cases h2;cases hk
 ·exact m
def Rl.NT (R:Rl K g E U H Hm F){a:Addr}(ha:a∈g.M):H a≠none:=fun z=>by
 obtain ⟨q,hq,rfl⟩:=QB.mp ha;obtain ⟨u,hu,_⟩:=R.bH q.1 q.2 (by rw [R.A0 hq];exact Q2)
 rw [z] at hu;cases hu
def Rl.qk (R:Rl K g E U H Hm F){a:Addr}(ha:g.H0 a≠none):H a≠none:=fun z=>by
 by_cases m:a∈g.M
 ·exact R.NT m z
 ·cases e:g.H0 a with
  | none=>exact ha e
  | some o=>rw [R.fr a o m e] at z;cases z
def Rl.fresh (R:Rl K g E U H Hm F){p:Addr}(h:H p=none){i:Nat}:p∉F i:=fun z=>by
 obtain ⟨u,hu,_⟩:=R.bH i p z;rw [h] at hu;cases hu
def Rl.tR (R:Rl K g E U H Hm F){p:Addr}(h:H p=none):Hm p=none:=by
 cases e:Hm p with
 | none=>rfl
 | some o=>rw [R.sub _ _ e] at h;cases h
def Rl.fX (R:Rl K g E U H Hm F){p:Addr}(h:H p=none):g.H0 p=none:=by
 cases e:g.H0 p with
 | none=>rfl
 | some o=>exact absurd h (R.qk (by rw [e];simp))
end
open Classical in
def lend (Hm H:Hp)(fp:VR):Hp:=fun a=>if a∈fp then H a else Hm a
open Classical in
def back (Hm:Hp)(fp:VR):Hp:=fun a=>if a∈fp then none else Hm a
section
variable {Hm H:Hp}{fp:VR}{a:Addr}
def fO (h:a∈fp):lend Hm H fp a=H a:=by unfold lend;rw [if_pos h]
def cV (h:a∉fp):lend Hm H fp a=Hm a:=by unfold lend;rw [if_neg h]
def jl (h:a∈fp):back Hm fp a=none:=by unfold back;rw [if_pos h]
def cW (h:a∉fp):back Hm fp a=Hm a:=by unfold back;rw [if_neg h]
def jo (n:∀ a∈fp,Hm a=none):ah Hm (lend Hm H fp):=fun b o e=>by
 have:b∉fp:=fun z=>by rw [n b z] at e;cases e
 rw [cV this];exact e
def k7 (s:ah Hm H):ah (lend Hm H fp) H:=fun b o e=>by
 by_cases h:b∈fp
 ·rw [fO h] at e;exact e
 ·rw [cV h] at e;exact s _ _ e
def yg (s:ah Hm H):ah (back Hm fp) H:=fun b o e=>by
 by_cases h:b∈fp
 ·rw [jl h] at e;cases e
 ·rw [cW h] at e;exact s _ _ e
end
section
variable {K:Frag}{g:Gh}{E:En}{U:St}{H H' Hm Hm':Hp}{F:Nat->VR}{k:Kd}{v:V}{d:PyData}{fp:VR}
def Tm.iI (T:Tm K g F H Hm k v d fp)(R:Rl K g E U H Hm F)(hk:k.fz=true):∃ Hm',ah Hm Hm'/\Rl K g E U H Hm' F/\Rp K Hm' v d:=by
 have up:=jo (Hm:=Hm) (H:=H) T.off;refine ⟨lend Hm H fp,up,R.more up (k7 R.sub) (fun i a ha=>?_) fun a ha=>.inl (cV fun z=>ha (T.new a z)),T.own.rp (by cases k <;> first | rfl | cases hk) up fun a ha=>fO ha⟩
 rw [cV fun z=>T.aV a z i ha]
 exact R.off i a ha
def aF {α:Type}{l:List α}{i:Nat}{a:α}(h:i < l.length):(l.set i a)[i]?=some a:=by rw [TR];simp [h]
def ao {α:Type}{l:List α}{i j:Nat}{a:α}(h:i≠j):(l.set i a)[j]?=l[j]?:=by rw [TR];simp [h]
def Rl.put (R:Rl K g E U H Hm F)(T:Tm K g F H Hm k v d fp){i:Nat}(o:bL E i=true):Rl K g (E.set i (some (k,d))) (U.set i (some v)) H Hm (fun j=>if j=i then fp else F j) where
 len:=by rw [RJ,RJ];exact R.len
 sub:=R.sub
 slot:=fun j k' d' e=>by
  by_cases c:j=i
  ·subst c;have hl:j < E.length:=by
    rcases RL j E.length with h | h
    ·exact h
    ·rw [RG (by rw [RJ];exact h)] at e;cases e
   rw [aF hl] at e;cases e;exact ⟨v,aF (R.len ▸ hl),by rw [if_pos rfl];exact T.own⟩
  ·rw [ao (Ne.symm c)] at e;obtain ⟨u,h1,h2⟩:=R.slot j k' d' e;exact ⟨u,by rw [ao (Ne.symm c)];exact h1,by rw [if_neg c];exact h2⟩
 off:=fun j a ha=>by
  by_cases c:j=i
  ·rw [if_pos c] at ha;exact T.off a ha
  ·rw [if_neg c] at ha;exact R.off j a ha
 bH:=fun j a ha=>by
  by_cases c:j=i
  ·rw [if_pos c] at ha;exact T.own.live a ha
  ·rw [if_neg c] at ha;exact R.bH j a ha
 aV:=fun j l a h1 h2=>by
  by_cases c:j=i
  ·rw [if_pos c] at h1
   by_cases c':l=i
   ·rw [c,c']
   ·rw [if_neg c'] at h2;exact absurd h2 (T.aV a h1 l)
  ·rw [if_neg c] at h1
   by_cases c':l=i
   ·rw [if_pos c'] at h2;exact absurd h1 (T.aV a h2 j)
   ·rw [if_neg c'] at h2;exact R.aV j l a h1 h2
 fr:=R.fr
 new:=fun j a ha=>by
  by_cases c:j=i
  ·rw [if_pos c] at ha;exact .inr (T.new a ha)
  ·rw [if_neg c] at ha;exact R.new j a ha
 pin:=fun q hq=>by
  obtain ⟨h1,ds,h2⟩:=R.pin q hq;have c:i≠q.1:=fun z=>by
   unfold bL at o;rw [z,h2] at o;cases o
  exact ⟨by rw [ao c];exact h1,ds,by rw [ao c];exact h2⟩
 old:=R.old
theorem Tm.sh (h:Rp K Hm v d):Tm K g F H Hm .sh v d []:=⟨.sh h,(fun _ z=>by cases z),(fun _ z=>by cases z),fun _ z=>by cases z⟩
def Rl.chg (R:Rl K g E U H Hm F){i:Nat}{p:Bool}{ds es:VO}{ys:List V}(e:E[i]?=some (some (.ow p,.list ds)))(r:aA K Hm ys es):∃ a xs,U[i]?=some (some (.ref a))/\H a=some (.lst xs)/\aA K Hm xs ds/\Hm a=none/\Rl K g (E.set i (some (.ow p,.list es))) U (upd H a (.lst ys)) Hm F:=by
 obtain ⟨v,h1,h2⟩:=R.slot i _ _ e;generalize hf:F i=fi at h2;cases h2 with
 | @ow _ a xs _ ha hr =>
  have ma:a∈F i:=by rw [hf];exact Q2
  have na:=R.off i a ma;have up:∀ b,b≠a->upd H a (.lst ys) b=H b:=fun b hb=>au hb
  have li:i < E.length:=by
   rcases RL i E.length with h | h
   ·exact h
   ·rw [RG h] at e;cases e
  refine ⟨a,xs,h1,ha,hr,na,?_⟩;exact {
   len:=by rw [RJ];exact R.len
   sub:=fun b o hb=>by
    have:b≠a:=fun z=>by rw [z,na] at hb;cases hb
    rw [up b this];exact R.sub b o hb
   slot:=fun j k' d' e'=>by
    by_cases c:j=i
    ·subst c;rw [aF li] at e';cases e';exact ⟨_,h1,by rw [hf];exact .ow aL r⟩
    ·rw [ao (Ne.symm c)] at e';obtain ⟨u,g1,g2⟩:=R.slot j k' d' e';refine ⟨u,g1,g2.step (ah.refl _) fun b hb=>up b fun z=>c (R.aV j i a (z ▸ hb) ma)⟩
   off:=R.off
   bH:=fun j b hb=>by
    by_cases c:b=a
    ·rw [c];exact ⟨_,aL,mO⟩
    ·rw [up b c];exact R.bH j b hb
   aV:=R.aV
   fr:=fun q o hq ho=>by
    have:q≠a:=fun z=>by
     rcases R.new i a ma with y | y
     ·exact hq (z ▸ y)
     ·rw [z,y] at ho;cases ho
    rw [up q this];exact R.fr q o hq ho
   new:=R.new
   pin:=fun q hq=>by
    obtain ⟨g1,ds',g2⟩:=R.pin q hq
    by_cases c:i=q.1
    ·rw [<- c] at g1 g2 ⊢;rw [e] at g2;cases g2;exact ⟨g1,es,aF li⟩
    ·exact ⟨g1,ds',by rw [ao c];exact g2⟩
   old:=R.old }
theorem Rl.dD (R:Rl K g E U H Hm F){i:Nat}{E':En}{d:PyData}{k:Kd}(e:E[i]?=some (some (k,d)))(h:Dv.dD E i=some E'):∃ v Hm' F',U[i]?=some (some v)/\ah Hm Hm'/\Rl K g E' U H Hm' F'/\Rp K Hm' v d:=by
 unfold Dv.dD at h;rw [e] at h;have h:(if k.fz=true then some (E.set i (some (.sh,d))) else none)=some E':=h
 by_cases hk:k.fz=true
 ·rw [if_pos hk] at h;cases h;obtain ⟨v,h1,h2⟩:=R.slot i k d e;have up:=jo (Hm:=Hm) (H:=H) (fp:=F i) (R.off i);have rp:=h2.rp (by cases k <;> first | rfl | cases hk) up fun a ha=>fO ha
  have li:i < E.length:=by
   rcases RL i E.length with h | h
   ·exact h
   ·rw [RG h] at e;cases e
  refine ⟨v,lend Hm H (F i),fun j=>if j=i then [] else F j,h1,up,?_,rp⟩
  exact {
   len:=by rw [RJ];exact R.len
   sub:=k7 R.sub
   slot:=fun j k' d' e'=>by
    by_cases c:j=i
    ·subst c;rw [aF li] at e';cases e';exact ⟨v,h1,by rw [if_pos rfl];exact .sh rp⟩
    ·rw [ao (Ne.symm c)] at e';obtain ⟨u,g1,g2⟩:=R.slot j k' d' e';exact ⟨u,g1,by rw [if_neg c];exact g2.step up fun _ _=>rfl⟩
   off:=fun j a ha=>by
    by_cases c:j=i
    ·rw [if_pos c] at ha;cases ha
    ·rw [if_neg c] at ha;rw [cV fun z=>c (R.aV j i a ha z)]
     exact R.off j a ha
   bH:=fun j a ha=>by
    by_cases c:j=i
    ·rw [if_pos c] at ha;cases ha
    ·rw [if_neg c] at ha;exact R.bH j a ha
   aV:=fun j l a g1 g2=>by
    by_cases c:j=i
    ·rw [if_pos c] at g1;cases g1
    ·rw [if_neg c] at g1
     by_cases c':l=i
     ·rw [if_pos c'] at g2;cases g2
     ·rw [if_neg c'] at g2;exact R.aV j l a g1 g2
   fr:=R.fr
   new:=fun j a ha=>by
    by_cases c:j=i
    ·rw [if_pos c] at ha;cases ha
    ·rw [if_neg c] at ha;exact R.new j a ha
   pin:=fun q hq=>by
    obtain ⟨g1,ds',g2⟩:=R.pin q hq;have c:i≠q.1:=fun z=>by
     rw [<- z,e] at g2;cases g2;cases hk
    exact ⟨g1,ds',by rw [ao c];exact g2⟩
   old:=fun a ha=>by
    rw [cV fun z=>ha (R.notM e (by cases k <;> first | rfl | (rename_i p;cases p <;> first | rfl | cases hk) | cases hk) z)]
    exact R.old a ha }
 ·rw [if_neg hk] at h;cases h
end
end Dv
namespace L2
open PySem PySem.Spec PyProof.Rows
def iP (h:Heap)(e C T:Addr)(dd:VP):Prop :=
 ∃ (t0:Addr)(v2 v3 v4 v5:Value)(sl:VB)(oT:Obj)(ts:VN),h.get? e=some ⟨.ref C,dd,.fields #[.ref t0,.ref T,v2,v3,v4,v5],sl⟩/\T≠e/\h.get? T=some oT/\oT.data=.fields ts/\ts[3]?=some .none
structure Way (fs:VR)(e T:Addr)(h h':Heap):Prop where
 keep:∀ b o,b≠e->b≠T->b∉fs->h.get? b=some o->h'.get? b=some o
 slot:∀ b o,b≠e->b≠T->h.get? b=some o->∃ sl,h'.get? b=some { o with slots:=sl }
section
variable {M:Model}{A:Around}{E:VC}{s:Shared}
def oM {L e C t0 T0:Addr}{hadNext:Bool}
  (hfr:A.frames=some (env::outer))(hl:s.heap.FunFrames base (env::outer))(hf:env.frame=some L)(he:s.heap.get? e=some ⟨.ref C,dd,.fields #[.ref t0,w1,v2,v3,v4,v5],sl0⟩)
  (q:∀ h' T,s.heap.get? T=none->Way (frs (env::outer)) e T s.heap h'->iP h' e C T dd->Q () { s with heap:=h' }) :
  wpAny M A (do let a <- frameOf env;let pl <- entryPlaceOf L hadNext;let b <- EntryCells.newEntry head a .none (rawInt L) .none pl;setField (.ref e) 1 b) (fun _ s'=>wpAny M A (setFlight (.ref e) none) Q E s') E s:=by
 have ene:e∉frs (env::outer):=fun hm=>by
  obtain ⟨_,o,ho,hnf⟩:=hl.mem hm;rw [he] at ho;cases ho;exact hnf _ rfl
 refine Q0 (wpAny_frameOf_fun hfr hl hf fun h1 hs1=>Q0 (wpAny_entryPlaceOf fun pl hpl=>?_))
 unfold EntryCells.newEntry newFields;refine Q0 (Rr ?_ (hpl.sizeOk5 _ _ _ _ _));have he1:h1.get? e=some ⟨.ref C,dd,.fields #[.ref t0,w1,v2,v3,v4,v5],sl0⟩:=(hs1.2.1 e ene).trans he;generalize hO:({ cls:=.type "traceback",dict:=none,data:=.fields ([head,.ref L,.none,rawInt L,.none]++(if pl.isEmpty then List.replicate 6 Value.none else pl)).toArray }:Obj)=oT
 have he2:=QL (h:=h1) oT he1;refine Sf he2 rfl (by show 1 < 6;decide) ?_
 have ne:h1.objs.size≠e:=S4 (QD he1);have hdT:oT.data=.fields ([head,.ref L,.none,rawInt L,.none]++(if pl.isEmpty then List.replicate 6 Value.none else pl)).toArray:=by rw [<- hO]
 have fr:oT.isFreed=false:=by rw [<- hO];rfl
 have he3:((h1.push oT).update e (Obj.mapFields (·.setIfInBounds 1 (Value.ref h1.objs.size)))).get? e=some ⟨.ref C,dd,.fields #[.ref t0,.ref h1.objs.size,v2,v3,v4,v5],sl0⟩:=S0 _ he2 rfl;have hT3:((h1.push oT).update e (Obj.mapFields (·.setIfInBounds 1 (Value.ref h1.objs.size)))).get? h1.objs.size=some oT:=(RY _ _ (Ne.symm ne)).trans (R7 h1 fr);unfold setFlight;refine Q0 (Rz he3 rfl (x:=.ref h1.objs.size) rfl ?_);rw [if_pos (show (Value.ref h1.objs.size != Value.none)=true by simp)]
 have sz:s.heap.objs.size=h1.objs.size:=hs1.1.symm;refine Sf hT3 hdT (by simp only [QJ,QE,QH,List.length_nil] <;> lia) (q _ h1.objs.size ?_ ⟨fun b o b1 b2 b3 hb=>?_,fun b o b1 b2 hb=>?_⟩ ?_)
 ·exact TU (Sg sz)
 ·have hb1:h1.get? b=some o:=(hs1.2.1 b b3).trans hb;rw [RY _ _ (Ne.symm b2),RY _ _ (Ne.symm b1)];exact QL _ hb1
 ·obtain ⟨sl,hb1⟩:=hs1.2.2 b o hb;refine ⟨sl,?_⟩;rw [RY _ _ (Ne.symm b2),RY _ _ (Ne.symm b1)];exact QL _ hb1
 ·have dt:=Sh hdT (·.setIfInBounds 3 ((none:VP).elim Value.none fun f=>rawInt f))
  refine ⟨t0,v2,v3,v4,v5,sl0,_,_,?_,ne,S0 _ hT3 (Tp dt),dt,?_⟩
  ·rw [RY _ _ ne];exact he3
  ·first | (simp;done) | (rcases hpl with rfl | ⟨_,_,_,_,_,_,_,rfl⟩ <;> simp)
def leave_new {L e C t0:Addr}
  (hfr:A.frames=some (env::outer))(hl:s.heap.FunFrames base (env::outer))(hf:env.frame=some L)(he:s.heap.get? e=some ⟨.ref C,dd,.fields #[.ref t0,.none,v2,v3,v4,v5],sl0⟩)
  (q:∀ h' T,s.heap.get? T=none->Way (frs (env::outer)) e T s.heap h'->iP h' e C T dd->Q () { s with heap:=h' }):wpAny M A (leaving env (.ref e)) Q E s:=by
 unfold leaving noteFrame;simp only [hf];refine Q0 (Q0 (Rz he rfl (x:=.none) rfl ?_));rw [if_neg (show ¬ ((Value.none != Value.none)=true) by decide)]
 exact oM (T0:=e) hfr hl hf he q
def FZ {L e C T:Addr}
  (hfr:A.frames=some (env::outer))(hl:s.heap.FunFrames base (env::outer))(hf:env.frame=some L)(ho:iP s.heap e C T dd)
  (q:∀ h' T2,s.heap.get? T2=none->(∀ b o,b≠e->b≠T->b≠T2->b∉frs (env::outer)->s.heap.get? b=some o->h'.get? b=some o)->(∀ b o,b≠e->b≠T->b≠T2->s.heap.get? b=some o->∃ sl,h'.get? b=some { o with slots:=sl })->iP h' e C T2 dd->Q () { s with heap:=h' }):wpAny M A (leaving env (.ref e)) Q E s:=by
 obtain ⟨t0,v2,v3,v4,v5,sl0,oT,ts,he,hTe,hT,hdT,h3⟩:=ho;unfold leaving noteFrame;simp only [hf];refine Q0 (Q0 (Rz he rfl (x:=.ref T) rfl ?_));rw [if_pos (show (Value.ref T != Value.none)=true by simp)]
 refine Q0 (Rz hT hdT h3 ?_);rw [if_neg (show ¬ ((Value.none == rawInt L)=true) by simp [rawInt])]
 refine Q0 (Sf hT hdT (Tf.mp h3).1 ?_);have other:∀ b,b≠T->(s.heap.update T (Obj.mapFields (·.setIfInBounds 3 Value.none))).get? b=s.heap.get? b:=fun b hb=>RY _ _ (Ne.symm hb)
 have noRec:∀ b o,s.heap.get? b=some o->(∀ vs,o.data≠.fields vs)->b≠T:=fun b o hb hnf z=>by
  rw [z,hT] at hb;cases hb;exact hnf ts hdT
 refine oM (s:={ s with heap:=s.heap.update T (Obj.mapFields (·.setIfInBounds 3 Value.none)) }) (T0:=T) hfr (hl.of_keeps fun b o hb hnf=>⟨o,(other b (noRec b o hb hnf)).trans hb,rfl⟩) hf ((other e (Ne.symm hTe)).trans he) fun h' T2 n2 W O=>?_
 have n2':s.heap.get? T2=none:=by
  cases c:s.heap.get? T2 with
  | none=>rfl
  | some o =>
   exfalso
   by_cases z:T2=T
   ·subst z;rw [S0 _ hT (Tp (Sh hdT _))] at n2;cases n2
   ·rw [show ({ s with heap:=s.heap.update T (Obj.mapFields (·.setIfInBounds 3 Value.none)) }:Shared).heap.get? T2=s.heap.get? T2 from other T2 z,c] at n2
    cases n2
 exact q h' T2 n2' (fun b o b1 b2 b3 b4 hb=>W.keep b o b1 b3 b4 ((other b b2).trans hb)) (fun b o b1 b2 b3 hb=>W.slot b o b1 b3 ((other b b2).trans hb)) O
end
end L2
namespace L2
open PySem PySem.Spec PyProof.Rows PySem.W
def fh (P:Program)(w:World):lC:=fun outer H s E e s' =>
 ∃ a C T H',e=.ref a/\s'.os=s.os/\AllBare s'.gens/\Un (frs outer) [] H H' s.heap s'.heap/\dI P w H' s'.heap/\iP s'.heap a C T none/\s.heap.get? T=none/\H' T=none/\s.heap.get? a=none/\H' a=some (.ext (iZ a C none))/\E (.ref C) (some a) H'
def iP.OJ {e C T:Addr}(o:iP h e C T dd):iZ e C dd h:=by
 obtain ⟨t0,v2,v3,v4,v5,sl,_,_,he,_⟩:=o;exact ⟨t0,_,v2,v3,v4,v5,sl,he⟩
def AB {P:Program}{w:World}{H:Hp}{h h':Heap}{a C:Addr}{fs:VR}{N:Addr->Prop}(ok:dI P w H h)(ha:H a=some (.ext (iZ a C none)))(hN:∀ b,N b->H b=none)(hf:∀ b∈fs,H b=none)
  (k:∀ b o,b≠a->¬ N b->b∉fs->h.get? b=some o->h'.get? b=some o)(x:iZ a C none h'):dI P w H h':=fun b u e=>by
 by_cases z:b=a
 ·subst z;rw [ha] at e;cases e;exact EO x
 ·have nn:∀ c v,H c=some v->¬ N c/\c∉fs:=fun c v q=>⟨fun y=>(by rw [hN c y] at q;cases q),fun y=>(by rw [hf c y] at q;cases q)⟩
  refine (ok b u e).stay (fun c v hc r=>k c v ?_ ?_ ?_ r) (fun c r=>r) fun c xs r=>r
  ·rcases hc with y | y
   ·rw [y];exact z
   ·intro q;rw [q,ha] at y;cases y
  ·rcases hc with y | y
   ·rw [y];exact (nn b u e).1
   ·exact (nn c _ y).1
  ·rcases hc with y | y
   ·rw [y];exact (nn b u e).2
   ·exact (nn c _ y).2
section
variable {CX:lC}{P:Program}{w:World}{K:Frag}{mg:VE}{base:Heap}{N:VX}{qual:Str}{scope:Scope}{f:Addr}{cd:Value}{A:Around}{outer:List Env}{s0:Shared}{H0:Hp}{E:XK}
def Ax {pins:VF}{U:St}{H:Hp}{s:Shared}{a C T:Addr}{h':Heap}{Nw:Addr->Prop}(I:Inv (gO CX P w K mg base N qual scope f cd A outer s0 H0 E) pins U H s)(ha:H a=some (.ext (iZ a C none)))(na:s0.heap.get? a=none)
  (hN:∀ b,Nw b->H b=none)(hN0:∀ b,Nw b->s0.heap.get? b=none)(hT:Nw T)
  (k:∀ b o,b≠a->¬ Nw b->b∉frs (envOfC qual scope s0.heap.objs.size f cd::outer)->s.heap.get? b=some o->h'.get? b=some o)(sl:∀ b o,b≠a->¬ Nw b->s.heap.get? b=some o->∃ sl,h'.get? b=some { o with slots:=sl })
  (O:iP h' a C T none)(q:E (.ref C) (some a) H):fh P w outer H0 s0 E (.ref a) { s with heap:=h' }:=by
 have B:Un (frs outer) [] H0 H s0.heap s.heap:=I.base;have old:∀ b o,s0.heap.get? b=some o->b≠a/\¬ Nw b:=fun b o e=>⟨(fun z=>by rw [z,na] at e;cases e),fun z=>by rw [hN0 b z] at e;cases e⟩
 have notloc:∀ b o,s0.heap.get? b=some o->b∉frs outer->b∉frs (envOfC qual scope s0.heap.objs.size f cd::outer):=fun b o e nb z=>by
  have z2:b∈(envOfC qual scope s0.heap.objs.size f cd).frame.toList++frs outer:=by
   have:frs (envOfC qual scope s0.heap.objs.size f cd::outer)=s0.heap.objs.size::frs outer:=rfl;rw [this] at z;exact z
  rcases QA.mp z2 with y | y
  ·have y:some s0.heap.objs.size=some b:=by
    have y0:(envOfC qual scope s0.heap.objs.size f cd).frame=some b:=by simpa using y
    exact y0
   have y:s0.heap.objs.size=b:=Option.some.inj y;exact absurd (QD e) (by rw [<- y];exact R9 _)
  ·exact nb y
 refine ⟨a,C,T,H,rfl,I.os,I.bare,⟨fun b o e n nf nx=>?_,fun b o e n nf nx=>?_,fun b o e n nx=>B.free b o e n nx,fun b o e nx=>?_,B.tups,B.jB,B.jZ⟩,?_,O,hN0 T hT,hN T hT,na,ha,q⟩
 ·exact k b o (old b o e).1 (old b o e).2 (notloc b o e nf) (B.keep b o e n nf nx)
 ·obtain ⟨sl1,e1⟩:=B.slot b o e n nf nx;obtain ⟨sl2,e2⟩:=sl b _ (old b o e).1 (old b o e).2 e1;exact ⟨sl2,e2⟩
 ·obtain ⟨o1,e1⟩:=B.there b o e nx;obtain ⟨sl2,e2⟩:=sl b _ (old b o e).1 (old b o e).2 e1;exact ⟨_,e2⟩
 ·exact AB I.hok ha hN (I.mG) (fun b o b1 b2 b3 e=>k b o b1 b2 b3 e) O.OJ
def Me {a C t0:Addr}(I:Inv (gO (fh P w) P w K mg base N qual scope f cd A outer s0 H0 E) pins U H s)(ha:H a=some (.ext (iZ a C none)))
  (he:s.heap.get? a=some ⟨.ref C,none,.fields #[.ref t0,.none,v2,v3,v4,v5],sl0⟩)(na:s0.heap.get? a=none)(q:E (.ref C) (some a) H):(gO (fh P w) P w K mg base N qual scope f cd A outer s0 H0 E).xe (.ref a) s:=by
 refine leave_new (base:=base) (L:=s0.heap.objs.size) I.ok.frames I.stack rfl he fun h' T nT W O=>?_
 have nT0:s0.heap.get? T=none:=by
  cases c:s0.heap.get? T with
  | none=>rfl
  | some o =>
   obtain ⟨o1,e1⟩:=I.base.there T o c (by show T∉([]:VR);simp)
   rw [e1] at nT;cases nT
 exact Ax (Nw:=fun b=>b=T) I ha na (fun b z=>by rw [z];exact I.iG nT) (fun b z=>by rw [z];exact nT0) rfl (fun b o b1 b2 b3 e=>W.keep b o b1 b2 b3 e) (fun b o b1 b2 e=>W.slot b o b1 b2 e) O q
def aK:Passes (fh P w) (gO (fh P w) P w K mg base N qual scope f cd A outer s0 H0 E) E:=by
 intro pins U H s e s' I h;obtain ⟨a,C,T,H',rfl,os,bare,un,hok,O,nT,hT,na,ha,q⟩:=h;have I':=I.wj (s':=s') (ch:=[]) os un hok bare fun b z=>absurd z (by simp)
 have up:∀ b,s.heap.get? b=none->s0.heap.get? b=none:=fun b n=>by
  cases c:s0.heap.get? b with
  | none=>rfl
  | some o =>
   obtain ⟨o1,e1⟩:=I.base.there b o c (by show b∉([]:VR);simp)
   rw [e1] at n;cases n
 refine FZ (base:=base) (L:=s0.heap.objs.size) I'.ok.frames I'.stack rfl O fun h' T2 n2 k sl O2=>?_
 have nT2:s0.heap.get? T2=none:=by
  cases c:s0.heap.get? T2 with
  | none=>rfl
  | some o =>
   obtain ⟨o1,e1⟩:=I'.base.there T2 o c (by show T2∉([]:VR);simp)
   rw [e1] at n2;cases n2
 refine Ax (Nw:=fun b=>b=T\/b=T2) I' ha (up a na) (fun b z=>?_) (fun b z=>?_) (.inr rfl) (fun b o b1 b2 b3 e=>k b o b1 (fun z=>b2 (.inl z)) (fun z=>b2 (.inr z)) b3 e) (fun b o b1 b2 e=>sl b o b1 (fun z=>b2 (.inl z)) (fun z=>b2 (.inr z)) e) O2 q
 ·rcases z with rfl | rfl
  ·exact hT
  ·exact I'.iG n2
 ·rcases z with rfl | rfl
  ·exact up _ nT
  ·exact nT2
end
section
variable {P:Program}{w:World}{K:Frag}{mg:VE}{base:Heap}{N:VX}{qual:Str}{scope:Scope}{f:Addr}{cd:Value}{A:Around}{outer:List Env}{s0:Shared}{H0:Hp}{E:XK}
def M0 (C:Addr)(E:XK)(t:TA):TS:=fun _ U H=>t U H fun vs H1=>vs.length<=sizeLine/\∀ a,H1 a=none->E (.ref C) (some a) (upd H1 a (.ext (iZ a C none)))
def GZ {C:Addr}
  (hc:gX K C vz "ValueError.__new__" none=true)(hg:Gl (gO (fh P w) P w K mg base N qual scope f cd A outer s0 H0 E) x)(hm:mg x=some (.ref C))
  (ha:PA (gO (fh P w) P w K mg base N qual scope f cd A outer s0 H0 E) (e::es) t)(hdb:(x == ("__debug__":Str))=false:=by decide)
  (he:starEach (e::es) (envOfC qual scope s0.heap.objs.size f cd)=(false,eval e (envOfC qual scope s0.heap.objs.size f cd))::starEach es (envOfC qual scope s0.heap.objs.size f cd):=by rfl)
  (hpl:(backTo cpos (starEach es (envOfC qual scope s0.heap.objs.size f cd))).any (·.1)=false:=by rfl) :
  PS (gO (fh P w) P w K mg base N qual scope f cd A outer s0 H0 E) (.Raise (some (.Call (.Name x np) (e::es) [] cpos)) none pos) (M0 C E t):=by
 intro pins s U H D I h;obtain ⟨bm,N0,nm,qn,bs,hd,sn,sub,ab,col,dd,k0,k1,k2,k3,k5,mN,hC,hN,hni,T⟩:=(Jv I.ok.mod.xK hc).obj;refine wpAny_Raise_call_subT (C:=C) (nm:=nm) (q:=qn) (N:=N0) (bs:=bs) (bm:=bm) (hdct:=hd) (sn:=sn) (sub:=sub) (ab:=ab) (col:=col) (dd:=dd) (k0:=k0) (k1:=k1) (k2:=k2) (k3:=k3) (k5:=k5)
  PySem.F.excBase_ValueError (mN:=mN) (T.hasType (by decide)) (I.ok.hd rfl) (by show (backTo cpos (starEach (e::es) (envOfC qual scope s0.heap.objs.size f cd))).any (·.1)=false;rw [he];show (false || (backTo cpos (starEach es (envOfC qual scope s0.heap.objs.size f cd))).any (·.1))=false;rw [hpl];rfl) hni (qg I hg hm ⟨rfl,?_⟩ hdb)
 have go:=ha cpos pins s U H _ I h;show wpAny (model P w) _ (evalArgs (.ref C) true (backTo cpos (starEach (e::es) (envOfC qual scope s0.heap.objs.size f cd))) []) _ _ _;have go':wpAny (model P w) _ (spliced (backTo cpos (starEach (e::es) (envOfC qual scope s0.heap.objs.size f cd)))) _ _ _:=go;rw [he] at go' ⊢;refine Calls.evalArgs_plain (aR go' fun us s1 ⟨vs,H1,I1,r,hz,q⟩=>?_)
 have kp:∀ b o,base.get? b=some o->s1.heap.get? b=some o:=I1.bk;refine ⟨rfl,by rw [<- r.length];exact hz,kp _ _ hC,hN.keeps kp,T.keeps kp,fun h' a M=>?_⟩
 obtain ⟨hp,g,dr,tk,os⟩:=s1;obtain ⟨keeps,new,t0,hx,_,_⟩:=M;have I2:=I1.v9 (a:=a) (o:=.ext (iZ a C none)) (t':=tk) keeps new (EO ⟨_,_,_,_,_,_,_,hx⟩);have na:s0.heap.get? a=none:=by
  cases c:s0.heap.get? a with
  | none=>rfl
  | some o =>
   obtain ⟨o1,e1⟩:=I1.base.there a o c (by show a∉([]:VR);simp)
   rw [e1] at new;cases new
 exact Me I2 (aL) hx na (q a (I1.iG new))
end
section
variable {M:Model}{A:Around}{E:VC}{s:Shared}
def Kn {L e C T:Addr}
  (hfr:A.frames=some (env::outer))(hl:s.heap.FunFrames base (env::outer))(hf:env.frame=some L)(ho:iP s.heap e C T dd)
  (q:∀ h' T2,s.heap.get? T2=none->(∀ b o,b≠e->b≠T->b≠T2->b∉frs (env::outer)->s.heap.get? b=some o->h'.get? b=some o)->(∀ b o,b≠e->b≠T->b≠T2->s.heap.get? b=some o->∃ sl,h'.get? b=some { o with slots:=sl })->iP h' e C T2 dd->Q () { s with heap:=h' }):wpAny M A (noteFrame (.ref e) env) (fun _ s'=>wpAny M A (setFlight (.ref e) none) Q E s') E s:=by
 obtain ⟨t0,v2,v3,v4,v5,sl0,oT,ts,he,hTe,hT,hdT,h3⟩:=ho;unfold noteFrame;simp only [hf];refine Q0 (Rz he rfl (x:=.ref T) rfl ?_);rw [if_pos (show (Value.ref T != Value.none)=true by simp)]
 refine Q0 (Rz hT hdT h3 ?_);rw [if_neg (show ¬ ((Value.none == rawInt L)=true) by simp [rawInt])]
 refine Q0 (Sf hT hdT (Tf.mp h3).1 ?_);have other:∀ b,b≠T->(s.heap.update T (Obj.mapFields (·.setIfInBounds 3 Value.none))).get? b=s.heap.get? b:=fun b hb=>RY _ _ (Ne.symm hb)
 have noRec:∀ b o,s.heap.get? b=some o->(∀ vs,o.data≠.fields vs)->b≠T:=fun b o hb hnf z=>by
  rw [z,hT] at hb;cases hb;exact hnf ts hdT
 refine oM (s:={ s with heap:=s.heap.update T (Obj.mapFields (·.setIfInBounds 3 Value.none)) }) (T0:=T) hfr (hl.of_keeps fun b o hb hnf=>⟨o,(other b (noRec b o hb hnf)).trans hb,rfl⟩) hf ((other e (Ne.symm hTe)).trans he) fun h' T2 n2 W O=>?_
 have n2':s.heap.get? T2=none:=by
  cases c:s.heap.get? T2 with
  | none=>rfl
  | some o =>
   exfalso
   by_cases z:T2=T
   ·subst z;rw [S0 _ hT (Tp (Sh hdT _))] at n2;cases n2
   ·rw [show ({ s with heap:=s.heap.update T (Obj.mapFields (·.setIfInBounds 3 Value.none)) }:Shared).heap.get? T2=s.heap.get? T2 from other T2 z,c] at n2
    cases n2
 exact q h' T2 n2' (fun b o b1 b2 b3 b4 hb=>W.keep b o b1 b3 b4 ((other b b2).trans hb)) (fun b o b1 b2 b3 hb=>W.slot b o b1 b3 ((other b b2).trans hb)) O
end
section
variable {X:Cx}{pins:VF}{U:St}{H:Hp}{s:Shared}
structure FD (X:Cx)(pins:VF)(H:Hp)(b:Addr):Prop where
 new:X.s₀.heap.get? b=none
 free:H b=none
 loc:b≠X.env.locals
 cell:∀ x c,X.env.cells.lookup x=some c->c≠b
 pin:∀ p∈X.pn++pins,p.1≠b
def Inv.GK (I:Inv X pins U H s)(hx:X.ex=[]){b:Addr}(n:s.heap.get? b=none):FD X pins H b:=by
 refine ⟨?_,I.iG n,fun z=>?_,fun x c e z=>?_,fun p hp z=>?_⟩
 ·cases c:X.s₀.heap.get? b with
  | none=>rfl
  | some o =>
   obtain ⟨o1,e1⟩:=I.base.there b o c (by rw [hx];simp)
   rw [e1] at n;cases n
 ·obtain ⟨m,⟨o,_,_,ho,_⟩,_⟩:=I.loc;rw [<- z,n] at ho;cases ho
 ·obtain ⟨v,o,ho,_⟩:=I.cell x c e;rw [z,n] at ho;cases ho
 ·have:=(I.pin p hp).1;rw [z,n] at this;cases this
def Inv.way {a C:Addr}{h':Heap}{Nw:Addr->Prop}(I:Inv X pins U H s)(ha:H a=some (.ext (iZ a C none)))(na:X.s₀.heap.get? a=none)(hN:∀ b,Nw b->FD X pins H b)
  (k:∀ b o,b≠a->¬ Nw b->b∉frs X.stack->s.heap.get? b=some o->h'.get? b=some o)(sl:∀ b o,b≠a->¬ Nw b->s.heap.get? b=some o->∃ sl,h'.get? b=some { o with slots:=sl })
  (x:iZ a C none h'):Inv X pins U H { s with heap:=h' }:=by
 have B:=I.base;have old:∀ b o,X.s₀.heap.get? b=some o->b≠a/\¬ Nw b:=fun b o e=>⟨(fun z=>by rw [z,na] at e;cases e),fun z=>by rw [(hN b z).new] at e;cases e⟩
 have fre:∀ b,H b=none->b≠a:=fun b n z=>by rw [z,ha] at n;cases n
 have notst:∀ b,b≠X.env.locals->b∉X.fs->b∉frs X.stack:=fun b n1 n2 z=>by
  rcases Q9.mp (I.ja b z) with y | y
  ·exact n1 y
  ·exact n2 y
 have cells:∀ y c v,X.env.cells.lookup y=some c->s.heap.IsCell c v->h'.IsCell c v:=fun y c v e z=>by
  obtain ⟨o,ho,hd⟩:=z;obtain ⟨sl1,e1⟩:=sl c o (fre c (I.d9 y c e)) (fun z=>(hN c z).cell y c e rfl) ho
  exact ⟨_,e1,hd⟩
 refine ⟨I.ok,I.os,I.bare,⟨fun b o e n nf nx=>?_,fun b o e n nf nx=>?_,fun b o e n nx=>B.free b o e n nx,fun b o e nx=>?_,B.tups,B.jB,B.jZ⟩,?_,fun y c e=>?_,I.free,I.d9,fun p hp=>?_,?_,I.len⟩
 ·refine k b o (old b o e).1 (old b o e).2 (notst b (fun z=>?_) nf) (B.keep b o e n nf nx)
  exact absurd (QT (QD e) I.ok.above) (by rw [z];exact R9 _)
 ·obtain ⟨sl1,e1⟩:=B.slot b o e n nf nx;obtain ⟨sl2,e2⟩:=sl b _ (old b o e).1 (old b o e).2 e1;exact ⟨sl2,e2⟩
 ·obtain ⟨o1,e1⟩:=B.there b o e nx;obtain ⟨sl2,e2⟩:=sl b _ (old b o e).1 (old b o e).2 e1;exact ⟨_,e2⟩
 ·obtain ⟨m,⟨o,es,ep,ho,hd,hs,hf⟩,hl⟩:=I.loc;obtain ⟨sl1,e1⟩:=sl X.env.locals o (fre _ I.free) (fun z=>(hN _ z).loc rfl) ho
  refine ⟨m,⟨_,es,ep,e1,hd,hs,hf⟩,fun i y v h1 h2 h3=>?_⟩
  obtain ⟨u,r,q⟩:=hl i y v h1 h2 h3;refine ⟨u,r,?_⟩;rcases q with q | ⟨kk,c,e,z⟩
  ·exact .inl q
  ·exact .inr ⟨kk,c,e,cells y c _ e z⟩
 ·obtain ⟨v,z⟩:=I.cell y c e;exact ⟨v,cells y c v e z⟩
 ·obtain ⟨e,n,ne,nf,d⟩:=I.pin p hp;exact ⟨k p.1 p.2 (fre _ n) (fun z=>(hN _ z).pin p hp rfl) (notst _ ne nf) e,n,ne,nf,d⟩
 ·exact AB I.hok ha (fun b z=>(hN b z).free) I.mG (fun b o b1 b2 b3 e=>k b o b1 b2 b3 e) x
end
abbrev HD:=St->Addr->Addr->Hp->Prop
def gS (X:Cx)(pins:VF)(Hd:HD):Cx:={ X with pn:=X.pn++pins,xe:=fun e s'=>∃ a C T U H,e=.ref a/\Inv X pins U H s'/\iP s'.heap a C T none/\FD X pins H T/\X.s₀.heap.get? a=none/\H a=some (.ext (iZ a C none))/\Hd U C a H }
section
variable {X:Cx}{pins:VF}{U:St}{H:Hp}{s:Shared}{Hd:HD}
def Inv.Nl (I:Inv X pins U H s):Inv (gS X pins Hd) [] U H s :=
 ⟨⟨I.ok.mod,I.ok.kind,I.ok.glob,I.ok.blt,I.ok.above,I.ok.inj,I.ok.has,I.ok.vj,I.ok.hd,I.ok.frames,I.ok.stk,I.ok.Dw,I.ok.bs,I.ok.oO,I.ok.nH,I.ok.rG,I.ok.iS,I.ok.sC⟩,I.os,I.bare,I.base,I.loc,I.cell,I.free,I.d9,
  fun p hp=>I.pin p (by simpa [gS] using hp),I.hok,I.len⟩
def Inv.sU (I:Inv (gS X pins Hd) ps2 U H s):Inv X pins U H s :=
 ⟨⟨I.ok.mod,I.ok.kind,I.ok.glob,I.ok.blt,I.ok.above,I.ok.inj,I.ok.has,I.ok.vj,I.ok.hd,I.ok.frames,I.ok.stk,I.ok.Dw,I.ok.bs,I.ok.oO,I.ok.nH,I.ok.rG,I.ok.iS,I.ok.sC⟩,I.os,I.bare,I.base,I.loc,I.cell,I.free,I.d9,
  fun p hp=>I.pin p (QA.mpr (.inl hp)),I.hok,I.len⟩
def N6 (hx:X.ex=[])(I:Inv (gS X pins Hd) ps2 U H s)(h:fh X.prog X.w X.stack H s (fun c o H'=>∃ C a,c=.ref C/\o=some a/\Hd U C a H') e s'):(gS X pins Hd).xe e s':=by
 obtain ⟨a,C,T,H',rfl,os,bare,un,hok,O,nT,hT,na,ha,C',a',ec,eo,q⟩:=h;cases ec;cases eo;have J:=I.sU;have J':=J.wj (s':=s') (ch:=[]) os un hok bare fun b z=>absurd z (by simp)
 have mT:=J.GK hx nT;exact ⟨a,C,T,U,H',rfl,J',O,⟨mT.new,hT,mT.loc,mT.cell,mT.pin⟩,(J.GK hx na).new,ha,q⟩
end
def EE (X:Cx)(a:Addr):Cx:={ X with A:=X.A.mark (some (.ref a)),calm:=false,xe:=fun _ _=>False }
section
variable {X:Cx}{pins:VF}{U:St}{H:Hp}{s:Shared}{a:Addr}
def Inv.LW (I:Inv X pins U H s):Inv (EE X a) pins U H s :=
 ⟨⟨I.ok.mod,I.ok.kind,I.ok.glob,I.ok.blt,I.ok.above,I.ok.inj,I.ok.has,I.ok.vj,fun z=>(by cases z),I.ok.frames,I.ok.stk,I.ok.Dw,I.ok.bs,I.ok.oO,I.ok.nH,I.ok.rG,I.ok.iS,I.ok.sC⟩,I.os,I.bare,I.base,I.loc,I.cell,I.free,I.d9,I.pin,I.hok,I.len⟩
def Inv.BF (ok:X.Ok)(I:Inv (EE X a) pins U H s):Inv X pins U H s :=
 ⟨ok,I.os,I.bare,I.base,I.loc,I.cell,I.free,I.d9,I.pin,I.hok,I.len⟩
end
section
variable {X:Cx}{x n:Str}{np hpos pos:Pos}{B:Addr}{i:Nat}{body suite:VU}{b₀:Stmt}{tb:VF->HD->TS}{th:Addr->TS}
end
section
variable {X0:Cx}{pins0:VF}{Hd:HD}{k:Nat}{f:Addr}{fd:FuncData}{ps:VX}{sp:Sp}{dvs:List V}{ds:VQ}{x:Str}{p pos:Pos}{e:Expr}{es:VT}{t:TA}
def DH (sp:Sp)(dvs:List V)(Hd:HD)(t:TA):TE:=fun U H Q=>t U H fun vs H1=>sp (vs++dvs) H1 Q (fun c o H'=>∃ C a,c=.ref C/\o=some a/\Hd U C a H')
def FH (hex:X0.ex=[])(F:gj X0.prog X0.w X0.K X0.mg X0.base (fh X0.prog X0.w) k f fd ps sp)(hr:cZ k X0.A)(hg:Gl X0 x)(hm:X0.mg x=some (.ref f))(hk:PySem.W.keepIn X0.K (.ref f)=true)(hb:Binds X0.K fd ps ds)(hd:Vals dvs ds)
  (ha:PA (gS X0 pins0 Hd) (e::es) t)(hdb:(x == ("__debug__":Str))=false:=by decide)(he:starEach (e::es) X0.env=(false,eval e X0.env)::starEach es X0.env:=by rfl)(hpl:(backTo pos (starEach es X0.env)).any (·.1)=false:=by rfl) :
  PE (gS X0 pins0 Hd) (.Call (.Name x p) (e::es) [] pos) (DH sp dvs Hd t):=by
 intro pins s U H Q I h;refine UB (qg I hg hm ?_ hdb);refine PySem.W.callWith_K (h₀:=X0.base) I.ok.mod.xK hk (aR (ha pos pins s U H _ I h) fun us s1 ⟨vs,H1,I1,r,q⟩=>⟨I1.qG,?_⟩) he hpl
 have r2:Vals (vs++dvs) (us++ds):=r.append hd;have hl:(us++ds).length=ps.length:=by rw [<- r2.length];exact F.len _ _ _ _ q
 refine wpAny_call (Su (F.run X0.A X0.stack s1 H1 ⟨us,[]⟩ (us++ds) (vs++dvs) Q _ hr I1.MT (hb s1 us I1.qG hl) r2 q) fun r s' hq=>?_)
 cases r with
 | error e=>exact N6 hex I1 hq
 | ok fl =>
  cases fl with
  | ret u=>exact I1.after hq
  | next=>exact False.elim hq
  | brk=>exact False.elim hq
  | cont=>exact False.elim hq
end
section
variable {P:Program}{w:World}{K:VL}{mg:VE}{base:Heap}
def sI.Qd {x qual:Str}{st:Stmt}{f:Addr}{fd:FuncData}{N ps:VX}{k:Nat}{sp:Sp}(F:sI K x qual st f fd)(S:aM N ps (av st))(len:∀ vs H Q E,sp vs H Q E->vs.length=ps.length)
  (hbody:∀ (cdv:Value)(A:Around)(outer:List Env)(s:Shared)(H:Hp)(vs:List V)(Q:VK)(E:XK),cZ k (A.deeper (envOfC qual (av st) s.heap.objs.size f cdv))->sp vs H Q E ->
   ∃ t,lI (gO (fh P w) P w K mg base N qual (av st) f cdv A outer s H E) (iJ st) t/\t { nx:=fun _ H'=>Q .bE H',rt:=Q } (start N vs) H):gj P w K mg base (fh P w) (k + 1) f fd ps sp:=by
 obtain ⟨oc,od,kV,doc,pm,an,cdv,ct,osl,rfl,lk,hcd⟩:=F.ex;refine NH lk hcd S len fun A outer s H vs Q E hr hsp=>?_
 obtain ⟨t,h,q⟩:=hbody cdv A outer s H vs Q E hr hsp;exact ⟨t,h,q⟩
def bV (P:Program)(w:World)(K:VL)(mg:VE)(base:Heap) (k:Nat) (x:Str)(ps:VX)(sp:Sp):Prop :=
 ∃ f fd,mg x=some (.ref f)/\PySem.W.keepIn K (.ref f)=true/\Binds K fd ps []/\gj P w K mg base (fh P w) k f fd ps sp
end
def Jl {k:Nat}(hex:X0.ex=[])(h:bV X0.prog X0.w X0.K X0.mg X0.base k x ps sp)(hr:cZ k X0.A)(hg:Gl X0 x)
  (ha:PA (gS X0 pins0 Hd) (e::es) t)(hdb:(x == ("__debug__":Str))=false:=by decide)(he:starEach (e::es) X0.env=(false,eval e X0.env)::starEach es X0.env:=by rfl)(hpl:(backTo pos (starEach es X0.env)).any (·.1)=false:=by rfl) :
  PE (gS X0 pins0 Hd) (.Call (.Name x p) (e::es) [] pos) (DH sp [] Hd t):=by
 obtain ⟨f,fd,h1,h2,h3,h4⟩:=h;exact FH hex h4 hr hg h1 h2 h3 .nil ha hdb he hpl
end L2
namespace Dv
open PySem L2 PySem.W
def WE (X:Cx)(e:Expr):TE:=fun U H Q=>∀ (pins:VF)(s:Shared),Inv X pins U H s->wpAny (model X.prog X.w) X.A (eval e X.env) (EP X pins U Q) X.xe s
def bP:PE X e (WE X e):=fun pins s _ _ _ I h=>h pins s I
def WE.of (h:PE X e t)(q:t U H Q):WE X e U H Q:=fun pins s I=>h pins s U H Q I q
def WT (X:Cx)(e:Expr):TT:=fun U H Q=>∀ (pins:VF)(s:Shared),Inv X pins U H s->wpAny (model X.prog X.w) X.A (isTrue e X.env (eval e X.env)) (TP X pins U Q) X.xe s
def jJ:PT X e (WT X e):=fun pins s _ _ _ I h=>h pins s I
def WT.of (h:PT X e t)(q:t U H Q):WT X e U H Q:=fun pins s I=>h pins s U H Q I q
def vR (X:Cx):VT->TA
 | [],_,H,Q=>Q [] H
 | e::es,U,H,Q=>WE X e U H fun v H1=>vR X es U H1 fun vs H2=>Q (v::vs) H2
def sel (Y:VV)(U:St):St:=Y.map fun i=>(U[i]?).join
def eX {j i:Nat}(h:Y[j]?=some i)(e:U[i]?=some (some v)):(sel Y U)[j]?=some (some v):=by
 unfold sel;rw [QN,h];show some (U[i]?).join=_;rw [e];rfl
def XL (X:Cx)(Ex:XK)(x:XC)(g:Gh):Prop:=∀ (c:Str)(d:PyData)(C a:Addr)(H':Hp),X.mg c=some (.ref C)->x c d->(∀ p o,p∉g.M->g.H0 p=some o->H' p=some o)->H' a=some (.ext (iZ a C none))->g.H0 a=none->Ex (.ref C) (some a) H'
def XL.no:XL X Ex xF g:=fun _ _ _ _ _ _ z=>z.elim
def SE (X:Cx)(Ex:XK)(Y:VV)(e:Expr)(d:DE):Prop :=
 ∀ (g:Gh)(x:XC)(E:En)(U:St)(H Hm:Hp)(F:Nat->VR)(P:VY)(Q:VK),XL X Ex x g->Rl X.K g E U H Hm F->d x E P ->
  (∀ E' k v u H' Hm' F' fp,P E' k v->Rl X.K g E' U H' Hm' F'->ah Hm Hm'->Tm X.K g F' H' Hm' k u v fp->Q u H')->WE X e (sel Y U) H Q
def ST (X:Cx)(Ex:XK)(Y:VV)(e:Expr)(d:DT):Prop :=
 ∀ (g:Gh)(x:XC)(E:En)(U:St)(H Hm:Hp)(F:Nat->VR)(P:Vc)(Q:Bool->Hp->Prop),XL X Ex x g->Rl X.K g E U H Hm F->d x E P ->
  (∀ E' b H' Hm' F',P E' b->Rl X.K g E' U H' Hm' F'->ah Hm Hm'->Q b H')->WT X e (sel Y U) H Q
inductive aU (X:Cx)(Ex:XK)(Y:VV):VT->List Arg->Prop
 | nil:aU X Ex Y [] []
 | pk {e:Expr}{es:VT}{as:List Arg}{i j:Nat}:PE X e (nL j)->Y[j]?=some i->aU X Ex Y es as->aU X Ex Y (e::es) (.pk i::as)
 | ev {e:Expr}{es:VT}{as:List Arg}{d:DE}:SE X Ex Y e d->aU X Ex Y es as->aU X Ex Y (e::es) (.ev d::as)
inductive Got (K:Frag)(U:St)(Hm:Hp):List Arg->List (Option PyData)->List V->Prop
 | nil:Got K U Hm [] [] []
 | pk {i:Nat}{v:V}{as:List Arg}{os:VZ}{vs:List V}:U[i]?=some (some v)->Got K U Hm as os vs->Got K U Hm (.pk i::as) (none::os) (v::vs)
 | ev {e:DE}{v:V}{d:PyData}{as:List Arg}{os:VZ}{vs:List V}:Rp K Hm v d->Got K U Hm as os vs->Got K U Hm (.ev e::as) (some d::os) (v::vs)
def jW {F:Nat->VR}(R:Rl K g E U H Hm F){i:Nat}(h:here E i=true):∃ v,U[i]?=some (some v):=by
 unfold here at h;split at h
 ·rename_i kd e;obtain ⟨v,h1,_⟩:=R.slot i kd.1 kd.2 e;exact ⟨v,h1⟩
 ·cases h
section
variable {X:Cx}{Ex:XK}{Y:VV}{g:Gh}{x:XC}{U:St}
def kH (hx:XL X Ex x g)(S:aU X Ex Y es as):∀ {E:En}{H Hm:Hp}{F:Nat->VR}{P:En->List (Option PyData)->Prop}{Q:List V->Hp->Prop},Rl X.K g E U H Hm F->jj as x E P ->
  (∀ E' os vs H' Hm' F',P E' os->Rl X.K g E' U H' Hm' F'->ah Hm Hm'->Got X.K U Hm' as os vs->Q vs H')->vR X es (sel Y U) H Q:=by
 induction S with
 | nil=>exact fun R h q=>q _ _ _ _ _ _ h R (ah.refl _) .nil
 | @pk e es as i j hp hj _ ih =>
  intro E H Hm F P Q R h q
  replace h:bK (here E i) _:=h
  rw [dH] at h;obtain ⟨h1,h2⟩:=h;obtain ⟨v,hv⟩:=jW R h1;refine WE.of hp ⟨v,eX hj hv,ih R h2 fun E' os vs H' Hm' F' p R' s G=>q _ _ _ _ _ _ p R' s (.pk hv G)⟩
 | @ev e es as d hd _ ih =>
  intro E H Hm F P Q R h q;refine hd g x E U H Hm F _ _ hx R h fun E1 k v u H1 Hm1 F1 fp p R1 s1 T=>?_
  replace p:bK k.fz _:=p
  rw [dH] at p;obtain ⟨hk,p⟩:=p;obtain ⟨Hm2,s2,R2,r⟩:=T.iI R1 hk;exact ih R2 p fun E' os vs H' Hm' F' p' R' s' G=>q _ _ _ _ _ _ p' R' (s1.trans (s2.trans s')) (.ev (r.mono s') G)
def qh {F:Nat->VR}(R:Rl K g E U H Hm F)(s:ah Hm Hm1):∀ {as:List Arg}{os:VZ}{vs:List V}{ds:VO},Got K U Hm as os vs->fill as E os=some ds->(∀ i∈f6 as,∀ a∈F i,Hm1 a=H a)->aA K Hm1 vs ds:=by
 intro as os vs ds G
 induction G generalizing ds with
 | nil=>intro h _;cases h;exact .nil
 | @pk i v as os vs hv G ih =>
  intro h n;rw [fill] at h;split at h
  ·rename_i k d e
   by_cases hk:k.rd=true
   ·rw [if_pos hk] at h;cases hf:fill as E os with
    | none=>rw [hf] at h;cases h
    | some es =>
     rw [hf] at h;cases h;obtain ⟨v',h1,h2⟩:=R.slot i k d e;rw [hv] at h1;cases h1;exact .cons (h2.rp hk s (n i Q2)) (ih hf fun j hj=>n j (Q7 _ hj))
   ·rw [if_neg hk] at h;cases h
  ·cases h
 | @ev d v u as os vs r G ih =>
  intro h n;rw [fill] at h;cases hf:fill as E os with
  | none=>rw [hf] at h;cases h
  | some es =>
   rw [hf] at h;cases h;exact .cons (r.mono s) (ih hf n)
theorem m9:∀ {is:VV}{E E2:En},dX is E=some E2->E2.length=E.length/\∀ j,(j∉is->E2[j]?=E[j]?)/\(j∈is->∃ k d,E[j]?=some (some (k,d))/\k.fz=true/\E2[j]?=some (some (.sh,d)))
 | [],E,E2,h=>by
  cases h;exact ⟨rfl,fun j=>⟨fun _=>rfl,fun z=>by cases z⟩⟩
 | i::r,E,E2,h=>by
  have h:(dD E i).bind (dX r)=some E2:=h;cases hf:dD E i with
  | none=>rw [hf] at h;cases h
  | some E1 =>
   rw [hf] at h;obtain ⟨l1,g1⟩:=m9 (is:=r) (E:=E1) (E2:=E2) h;unfold dD at hf;split at hf
   ·rename_i k d e
    by_cases hk:k.fz=true
    ·rw [if_pos hk] at hf;cases hf;have li:i < E.length:=by
      rcases RL i E.length with h | h
      ·exact h
      ·rw [RG h] at e;cases e
     rw [RJ] at l1;refine ⟨l1,fun j=>⟨fun n=>?_,fun m=>?_⟩⟩
     ·have n1:j≠i:=fun z=>n (z ▸ Q2)
      rw [(g1 j).1 fun z=>n (Q7 _ z),ao (Ne.symm n1)]
     ·by_cases c:j=i
      ·subst c
       by_cases m':j∈r
       ·obtain ⟨k2,d2,e2,_,e3⟩:=(g1 j).2 m';rw [aF li] at e2;cases e2;exact ⟨k,d,e,hk,e3⟩
       ·exact ⟨k,d,e,hk,by rw [(g1 j).1 m',aF li]⟩
      ·have m':j∈r:=(Q9.mp m).resolve_left c;obtain ⟨k2,d2,e2,h2,e3⟩:=(g1 j).2 m';rw [ao (Ne.symm c)] at e2;exact ⟨k2,d2,e2,h2,e3⟩
    ·rw [if_neg hk] at hf;cases hf
   ·cases hf
def wZ {F:Nat->VR}(R:Rl K g E U H Hm F)(hE:(if flat k v=true then some E else dX is E)=some E2)
  (sH:ah H H')(s1:ah (lend Hm H (is.flatMap F)) Hm2)(s2:ah Hm2 H')(old:∀ a,H a≠none->OE (Hm2 a) (lend Hm H (is.flatMap F) a))(o:Own K H' Hm2 k u v fp)(fr:∀ a∈fp,H a=none/\Hm2 a=none) :
  ∃ Hm' F',Rl K g E2 U H' Hm' F'/\ah Hm Hm'/\Tm K g F' H' Hm' k u v fp:=by
 have mem:∀ {a i},a∈F i->i∈is->a∈is.flatMap F:=fun ha hi=>RI.mpr ⟨_,hi,ha⟩
 have off:∀ a∈is.flatMap F,Hm a=none:=fun a ha=>by
  obtain ⟨i,_,h⟩:=RI.mp ha;exact R.off i a h
 have up:ah Hm (lend Hm H (is.flatMap F)):=jo off;have bH:∀ {i a},a∈F i->H a≠none:=fun ha z=>by
  obtain ⟨u,hu,_⟩:=R.bH _ _ ha;rw [z] at hu;cases hu
 have nfp:∀ a∈fp,∀ i,a∉F i:=fun a ha i=>R.fresh (fr a ha).1
 by_cases hf:flat k v=true
 ·rw [if_pos hf] at hE;cases hE;refine ⟨back Hm2 (is.flatMap F),F,R.grow sH (fun b o e=>?_) (yg s2) (fun i a ha=>?_) (fun a ha=>?_),fun b o e=>?_,⟨o.flat (fun a xs h=>?_) hf,fun a ha=>?_,nfp,fun a ha=>R.fX (fr a ha).1⟩⟩
  ·rw [cW fun z=>by rw [off b z] at e;cases e]
   exact s1 _ _ (up _ _ e)
  ·by_cases c:a∈is.flatMap F
   ·exact jl c
   ·rw [cW c];obtain ⟨w,hw,nt⟩:=R.bH i a ha;exact (old a (bH ha)).off (by rw [cV c];exact R.off i a ha) s2 (sH _ _ hw) nt
  ·by_cases c:a∈is.flatMap F
   ·rw [jl c,off a c];exact .inl rfl
   ·have h:=old a (R.qk ha);rw [cV c] at h;rw [cW c];exact h
  ·rw [cW fun z=>by rw [off b z] at e;cases e]
   exact s1 _ _ (up _ _ e)
  ·have c:a∉is.flatMap F:=fun z=>by
    obtain ⟨i,_,hi⟩:=RI.mp z;obtain ⟨w,hw,nt⟩:=R.bH i a hi;have e2:Hm2 a=some w:=s1 _ _ (by rw [fO z];exact hw)
    rw [e2] at h;cases h;exact nt xs rfl
   rw [cW c];exact h
  ·by_cases c:a∈is.flatMap F
   ·exact jl c
   ·rw [cW c];exact (fr a ha).2
 ·rw [if_neg hf] at hE;obtain ⟨l2,g2⟩:=m9 hE;have R':Rl K g E2 U H' Hm2 (fun j=>if j∈is then [] else F j):={
   len:=l2.trans R.len
   sub:=s2
   slot:=fun j k' d' e'=>by
    by_cases c:j∈is
    ·obtain ⟨k0,d0,e0,hk0,e1⟩:=(g2 j).2 c;rw [e1] at e';cases e';obtain ⟨v',h1,h2⟩:=R.slot j k0 _ e0;refine ⟨v',h1,?_⟩;rw [if_pos c];exact .sh ((h2.rp (by cases k0 <;> first | rfl | cases hk0) up fun a ha=>fO (mem ha c)).mono s1)
    ·rw [(g2 j).1 c] at e';obtain ⟨v',h1,h2⟩:=R.slot j k' d' e';refine ⟨v',h1,?_⟩;rw [if_neg c];refine h2.step (up.trans s1) fun a ha=>?_
     obtain ⟨w,hw,_⟩:=h2.live a ha;rw [hw];exact sH _ _ hw
   off:=fun j a ha=>by
    by_cases c:j∈is
    ·rw [if_pos c] at ha;cases ha
    ·rw [if_neg c] at ha;obtain ⟨w,hw,nt⟩:=R.bH j a ha;refine (old a (bH ha)).off ?_ s2 (sH _ _ hw) nt;rw [cV]
     ·exact R.off j a ha
     ·intro z;obtain ⟨i,hi,h⟩:=RI.mp z;exact c (R.aV i j a h ha ▸ hi)
   bH:=fun j a ha=>by
    by_cases c:j∈is
    ·rw [if_pos c] at ha;cases ha
    ·rw [if_neg c] at ha;obtain ⟨w,hw,nt⟩:=R.bH j a ha;exact ⟨w,sH _ _ hw,nt⟩
   aV:=fun j l a h1 h2=>by
    by_cases c:j∈is
    ·rw [if_pos c] at h1;cases h1
    ·rw [if_neg c] at h1
     by_cases c':l∈is
     ·rw [if_pos c'] at h2;cases h2
     ·rw [if_neg c'] at h2;exact R.aV j l a h1 h2
   fr:=fun p o hp ho=>sH _ _ (R.fr p o hp ho)
   new:=fun j a ha=>by
    by_cases c:j∈is
    ·rw [if_pos c] at ha;cases ha
    ·rw [if_neg c] at ha;exact R.new j a ha
   pin:=fun q hq=>by
    obtain ⟨h1,ds',h2⟩:=R.pin q hq;have c:q.1∉is:=fun z=>by
     obtain ⟨k0,d0,e0,hk0,_⟩:=(g2 q.1).2 z;rw [h2] at e0;cases e0;cases hk0
    exact ⟨h1,ds',by rw [(g2 q.1).1 c];exact h2⟩
   old:=fun a ha=>by
    refine (old a (R.qk ha)).trans ?_;rw [cV]
    ·exact R.old a ha
    ·intro z;obtain ⟨i,hi,h⟩:=RI.mp z;obtain ⟨k0,d0,e0,hk0,_⟩:=(g2 i).2 hi;exact ha (R.notM e0 (by cases k0 <;> first | rfl | (rename_i p;cases p <;> first | rfl | cases hk0) | cases hk0) h) }
  refine ⟨Hm2,_,R',up.trans s1,⟨o,fun a ha=>(fr a ha).2,fun a ha i=>?_,fun a ha=>R.fX (fr a ha).1⟩⟩
  by_cases c:i∈is
  ·rw [if_pos c];simp
  ·rw [if_neg c];exact nfp a ha i
def cP (K:Frag)(f:DR)(r:List V->Hp->VK->Prop):Prop :=
 ∀ (H Hm:Hp)(vs:List V)(ds:VO)(P:Vb)(Q:VK),ah Hm H->aA K Hm vs ds->f ds P ->
  (∀ k v u H' Hm' fp,P k v->ah H H'->ah Hm Hm'->ah Hm' H'->(∀ a,H a≠none->OE (Hm' a) (Hm a))->Own K H' Hm' k u v fp->(∀ a∈fp,H a=none/\Hm' a=none)->Q u H')->r vs H Q
def i9 (S:aU X Ex Y es as)(hr:∀ U H Q,vR X es U H (fun vs H1=>r vs H1 Q)->WE X e U H Q)(D:cP X.K f r):SE X Ex Y e (aa f as):=by
 intro g x E U H Hm F P Q hx R h q;refine hr _ _ _ (kH hx S R h fun E1 os vs H1 Hm1 F1 p R1 s1 G=>?_)
 replace p:yo f as E1 os P:=p
 unfold yo at p;rw [<- bB,fE] at p;obtain ⟨ds,hf,hg⟩:=p;have off:∀ a∈(f6 as).flatMap F1,Hm1 a=none:=fun a ha=>by
  obtain ⟨i,_,h⟩:=RI.mp ha;exact R1.off i a h
 have up:=jo (Hm:=Hm1) (H:=H1) off;refine D H1 (lend Hm1 H1 ((f6 as).flatMap F1)) vs ds _ Q (k7 R1.sub) (qh R1 up G hf fun i hi a ha=>fO (RI.mpr ⟨i,hi,ha⟩)) hg fun k v u H' Hm2 fp p sH sM sS old o fr=>?_
 replace p:aB (q8 as E1 k v) _:=p
 rw [<- bB,Ao] at p;obtain ⟨E2,ha,p⟩:=p;obtain ⟨Hm',F',R',s',T⟩:=wZ R1 (is:=f6 as) (yV ha) sH sM sS old o fr;exact q _ _ _ _ _ _ _ _ p R' (s1.trans s') T
end
end Dv
namespace L2
open PySem PySem.Spec PyProof.Rows
section
variable {X:Cx}
def Cm (i j:Int):Prop:=0 < j/\j < 115792089237316195423570985008687907853269984665640564039457584007913129639936
def G5:bN X (binaryOp .FloorDiv) (rI Cm fun i j=>.int (i / j)):=HB fun i j _ _ _ _ _ hc q=>by
 have h1:(0:Int) < j:=hc.1;have h2:j < 115792089237316195423570985008687907853269984665640564039457584007913129639936:=hc.2;refine floordiv_int (by lia) (by rw [Int.fdiv_eq_ediv_of_nonneg i (by lia)];exact q) (.inl (PyProof.noPylong_of_log2 ?_))
 have:j.natAbs.log2 < 256:=(Nat.log2_lt (by lia)).mpr (by
  have:(2:Nat) ^ 256=115792089237316195423570985008687907853269984665640564039457584007913129639936:=by decide
  lia)
 lia
end
end L2
namespace SM
open PySem PySem.SetTable
section
variable {prog:Program}{w:World}{K:Type} [DecidableEq K]{knd:KeyKind prog w K}{A:Around}{E:VC}{s:Shared}{t:SetTable}{es:Array Ent}
def Bl (knd:KeyKind prog w K)(e:Ent)(k:K):Prop:=knd.is k e.2=true/\e.1=knd.hash k/\e.2.scannable=true
structure SP (knd:KeyKind prog w K)(es:Array Ent)(ks:List K):Prop where
 ok:∀ e∈es.toList,∃ k,k∈ks/\Bl knd e k
 on:∀ k∈ks,∃ e,e∈es.toList/\Bl knd e k
 len:es.size=ks.length
structure mz (knd:KeyKind prog w K)(o:Obj)(ks:List K):Prop where
 ex:o.ExactSet
 tb:∃ es ep t,o.data=.set es ep t/\TB t es/\es.size * 5 < t.mask * 3/\t.mask<=511/\t.plain=true/\t.led=(!(w.params.followText "set-order"))/\SP knd es ks
def SP.elems (S:SP knd es ks):ElemsOf knd es.toList:=fun e he=>by
 obtain ⟨k,_,h1,h2,h3⟩:=S.ok e he;exact ⟨⟨k,h1,h2⟩,h3⟩
def SP.perm (S:SP knd es ks)(p:es'.toList.Perm es.toList):SP knd es' ks:=by
 refine ⟨fun e he=>S.ok e (p.mem_iff.mp he),fun k hk=>?_,?_⟩
 ·obtain ⟨e,h1,h2⟩:=S.on k hk;exact ⟨e,p.mem_iff.mpr h1,h2⟩
 ·have:=p.length_eq;rw [Rg,Rg] at this;rw [this,S.len]
def SP.put {p:Nat}(S:SP knd es ks)(hp:p<=es.size)(hk:knd.is k x=true)(hs:x.scannable=true):SP knd (insertAt es p (knd.hash k,x)) (ks++[k]):=by
 refine ⟨fun e he=>?_,fun k' hk'=>?_,by rw [kO hp,S.len,QE,Rm]⟩
 ·rcases (uh hp _ _).mp he with rfl | he
  ·exact ⟨k,by simp,hk,rfl,hs⟩
  ·obtain ⟨k',h1,h2⟩:=S.ok e he;exact ⟨k',by simp [h1],h2⟩
 ·rcases QA.mp hk' with h1 | h1
  ·obtain ⟨e,h2,h3⟩:=S.on k' h1;exact ⟨e,(uh hp _ _).mpr (.inr h2),h3⟩
  ·have:k'=k:=by simpa using h1
   subst this;exact ⟨_,(uh hp _ _).mpr (.inl rfl),hk,rfl,hs⟩
def SP.find (S:SP knd es ks):(k∈ks->∃ j,List.findIdx? (fun e=>knd.is k e.2) es.toList=some j)/\(k∉ks->List.findIdx? (fun e=>knd.is k e.2) es.toList=none):=by
 constructor
 ·intro h;obtain ⟨e,h1,h2,_⟩:=S.on k h;cases z:List.findIdx? (fun e=>knd.is k e.2) es.toList with
  | none =>
   have:=List.findIdx?_eq_none_iff.mp z e h1;rw [h2] at this;cases this
  | some j=>exact ⟨j,rfl⟩
 ·intro h;refine List.findIdx?_eq_none_iff.mpr fun e he=>?_
  obtain ⟨k',h1,h2,_⟩:=S.ok e he;cases z:knd.is k e.2 with
  | false=>rfl
  | true=>exact absurd (knd.inj e.2 k k' z h2 ▸ h1) h
def JP {N:Nat}{h:Int}(T:TB t es)(hl:N < 10 * turns t.mask)(hN:¬ In t (pr t.mask h N).j)(hw:Way t h N)(room:es.size + 1<=t.mask) :
  layNew t es h x=(insertAt es (t.put (pr t.mask h N).j).2 (h,x),(t.put (pr t.mask h N).j).1,false,false):=by
 have T1:=T.put (e:=(h,x)) hl hN hw room (wg t.mask h N);have f:=T1.fits;unfold layNew;rw [T.freeSlot hl hN hw];dsimp only at f ⊢;unfold orStandIn;rw [f];rfl
def Jw {a:Addr}(ha:s.heap.get? a=some o)(S:mz knd o ks)(hk:knd.is k x=true)(hsc:x.scannable=true)(hpl:plainKind x=true)(few:ks.length + 1<=127)
  (q0:k∈ks->Q false s)(q1:k∉ks->∀ h' o',Heap.SameBut a s.heap h'->h'.get? a=some o'->mz knd o' (ks++[k])->Q true { s with heap:=h' }) :
  wpAny (model prog w) A (setAddHashed a x (knd.hash k)) Q E s:=by
 obtain ⟨ex,es,ep,t,hd,T,nf,hm,pl,ld,sp⟩:=S;have bnd:es.size < scanBound:=by
  have z:scanBound=4096:=rfl;have:=sp.len;lia
 unfold setAddHashed setAddHashedIn;refine RX (Q0 (UP ha hd T.fits ?_));dsimp only;rw [byScan_of hsc bnd sp.elems,if_pos rfl];unfold setAddByScan;refine Q0 ?_;refine Q0 (Ra ?_);refine Q0 (wpAny_setScan_of hk ha hd T.fits sp.elems ?_)
 by_cases c:k∈ks
 ·obtain ⟨j,hj⟩:=sp.find.1 c;rw [hj];dsimp only;exact Q5 (Q5 (q0 c))
 ·rw [sp.find.2 c];dsimp only;obtain ⟨N,hl,hN,hw⟩:=T.first (knd.hash k);have hj:=wg t.mask (knd.hash k) N;have T1:=T.put (e:=(knd.hash k,x)) hl hN hw (by lia) hj
  have hp:(t.put (pr t.mask (knd.hash k) N).j).2<=es.size:=by rw [<- T.sz];exact GJ T.ri _
  have S1:=sp.put (x:=x) hp hk hsc;have z1:=kO hp ((knd.hash k,x):Ent);have m1:(t.put (pr t.mask (knd.hash k) N).j).1.mask=t.mask:=rfl;have m2:(t.put (pr t.mask (knd.hash k) N).j).1.plain=t.plain:=rfl;have m3:(t.put (pr t.mask (knd.hash k) N).j).1.led=t.led:=rfl;rw [JP T hl hN hw (by lia)]
  dsimp only at T1 ⊢;generalize (t.put (pr t.mask (knd.hash k) N).j).1=t1 at *;generalize (t.put (pr t.mask (knd.hash k) N).j).2=p1 at *;have len1:es.size + 1<=127:=by rw [sp.len];exact few
  refine Q0 (Q5 ?_);rw [if_pos (m2.trans pl)];refine Q0 ?_;rw [hashByValue_scannable 8 hsc,hpl];refine Q5 ?_;rw [if_pos rfl];refine Q0 (wpAny_storeSet_of ha hd ?_ ?_)
  ·have po:=putSet_of (insertAt es p1 (knd.hash k,x)) t1 hd;have g1:(s.heap.update a (Obj.putSet (insertAt es p1 (knd.hash k,x)) t1)).get? a=some { o with data:=.set (insertAt es p1 (knd.hash k,x)) (ep + 1) t1 }:=by
    rw [S0 _ ha (by rw [po];rfl),po]
   have sb:=T7 s.heap a (Obj.putSet (insertAt es p1 (knd.hash k,x)) t1);generalize s.heap.update a (Obj.putSet (insertAt es p1 (knd.hash k,x)) t1)=h1 at *;split
   ·obtain ⟨g2,g3,g4⟩:=IL (n:=es.size + 1) len1;obtain ⟨g5,g6⟩:=EL (es.size + 1) len1;rw [z1];obtain ⟨es3,t3,e3,T3,p3,l3,pl3,m3'⟩:=Fp (t:=t1) (es:=insertAt es p1 (knd.hash k,x)) (wanted:=grown (es.size + 1)) g2 g3 (by rw [z1];exact g4)
    rw [e3];dsimp only;have l4:=p3.length_eq;rw [Rg,Rg,z1] at l4;refine Q0 (Q5 ?_);refine Q0 (wpAny_storeSet_of (s:={ s with heap:=h1 }) g1 rfl ?_ (by rw [l4];exact QW len1 (by decide)))
    have po3:=putSet_of (o:={ o with data:=.set (insertAt es p1 (knd.hash k,x)) (ep + 1) t1 }) es3 t3 rfl
    refine Q5 (Q5 (q1 c _ _ ⟨?_,fun y hy=>?_⟩ (S0 _ g1 (by rw [po3];rfl)) ?_))
    ·exact (T7 h1 a (Obj.putSet es3 t3)).1.trans sb.1
    ·exact ((T7 h1 a (Obj.putSet es3 t3)).2 y hy).trans (sb.2 y hy)
    ·rw [po3];exact ⟨ex,es3,_,t3,rfl,T3,by rw [l4,m3'];exact g5,by rw [m3'];lia,pl3.trans (m2.trans pl),l3.trans (m3.trans ld),S1.perm p3⟩
   ·next nt =>
    refine Q5 (Q5 (q1 c _ _ sb g1 ⟨ex,_,_,t1,rfl,T1,?_,by lia,m2.trans pl,m3.trans ld,S1⟩))
    have e1:¬ (t1.fill * 5 >= t1.mask * 3):=fun q=>nt (by
     unfold tooFull;rw [Qz q];rfl)
    have e2:t1.fill=(insertAt es p1 (knd.hash k,x)).size:=by
     unfold fill;rw [T1.sz,T1.du];rfl
    rw [e2] at e1;lia
  ·rw [z1];exact QW len1 (by decide)
end
section
variable {prog:Program}{w:World}{K:Type} [DecidableEq K]{knd:KeyKind prog w K}{A:Around}
def eO (f:Nat->K):Nat->List K
 | 0=>[]
 | i + 1=>if f i∈eO f i then eO f i else eO f i++[f i]
theorem yL (f:Nat->K):∀ i,(eO f i).length<=i
 | 0=>Q6 _
 | i + 1=>by
  have ih:=yL f i;unfold eO;split
  ·lia
  ·rw [QE,Rm];lia
theorem yZ (f:Nat->K)(k:K):∀ i,k∈eO f i↔∃ j,j < i/\f j=k
 | 0=>⟨fun h=>(nomatch h),fun ⟨j,h,_⟩=>absurd h (S8 _)⟩
 | i + 1=>by
  have ih:=yZ f k i;have up:(∃ j,j < i + 1/\f j=k)↔(∃ j,j < i/\f j=k)\/f i=k:=by
   constructor
   ·rintro ⟨j,h,e⟩;rcases Nat.lt_succ_iff_lt_or_eq.mp h with h | h
    ·exact .inl ⟨j,h,e⟩
    ·subst h;exact .inr e
   ·rintro (⟨j,h,e⟩ | e)
    ·exact ⟨j,S9 h,e⟩
    ·exact ⟨i,Si i,e⟩
  rw [up,<- ih,show eO f (i + 1)=if f i∈eO f i then eO f i else eO f i++[f i] from rfl]
  split
  ·next c =>
   exact ⟨.inl,fun h=>h.elim id fun e=>e ▸ c⟩
  ·rw [QA,QF];exact ⟨fun h=>h.elim .inl fun e=>.inr e.symm,fun h=>h.elim .inl fun e=>.inr e.symm⟩
def Ez:mz knd { cls:=.type "set",dict:=none,data:=.set #[] 0 (.fresh 0 0 (!(w.params.followText "set-order"))) } []:=by
 refine ⟨⟨rfl,rfl,rfl⟩,#[],0,_,rfl,⟨rfl,?_,?_,rfl,EK,(by decide:7 % 2=1),Qw _,?_⟩,(by decide:0 * 5 < 7 * 3),(by decide:7<=511),rfl,rfl,⟨?_,?_,rfl⟩⟩
 ·intro i k x y _ hx;cases hx
 ·intro i j h;cases h
 ·intro i j e h;cases h
 ·intro e he;cases he
 ·intro k hk;cases hk
section
variable {R:Result->Shared->Prop}{I:Addr}{fp wr:VR}{G:Array GenState->Array GenState->Prop}{n:Nat}{P:Nat->Value->Prop}{St:Nat->Shared->Prop}
def BS (W:PySem.WalksS prog w A.in1 I fp wr G n P St)(Z:Addr)(out:Z∉fp)(f:Nat->K)(is:∀ i v,P i v->knd.is (f i) v=true/\v.scannable=true/\plainKind v=true)(few:n<=126):∀ (d i:Nat)(s:Shared),n - i=d->i<=n->St i s->(∃ o,s.heap.get? Z=some o/\mz knd o (eO f i)) ->
   (∀ s',PySem.Moved (Z::wr) G s s'->(∃ o,s'.heap.get? Z=some o/\mz knd o (eO f n))->R (.ok (.ret .none)) s')->codeAny (model prog w) A (.builtin "set.update.loop" ⟨[.ref Z,.ref I],[]⟩) R s:=by
 have zw:Z∉wr:=fun h=>out (W.sub _ h)
 have more:∀ b∈wr,b∈Z::wr:=fun b hb=>Q7 _ hb
 intro d
 induction d with
 | zero =>
  intro i s hd hi st so fin;have e:i=n:=by lia
  subst e;refine T8 V9 ?_;rw [UQ UR _];refine Q0 (m:=pyNext (.ref I)) (W.done s _ _ st fun s' mv=>?_)
  obtain ⟨o,ho,so⟩:=so;exact Q5 (fin s' (mv.mono more) ⟨o,mv.heap Z o zw ho,so⟩)
 | succ d ih =>
  intro i s hd hi st so fin;have lt:i < n:=by lia
  refine T8 V9 ?_;rw [UQ UR _];refine Q0 (m:=pyNext (.ref I)) (W.item i s _ _ lt st fun v s' hP st' mv=>?_)
  obtain ⟨kb,ks,kp⟩:=is i v hP;obtain ⟨o,ho,so⟩:=so;have ho':=mv.heap Z o zw ho;refine Q0 (m:=holding [v] (setAdd Z v)) (RX ?_);unfold setAdd;refine RX (Q0 (knd.pyHash kb ?_));have ml:=yL f i;have up:∀ (h':Heap)(o':Obj),Heap.SameBut Z s'.heap h'->h'.get? Z=some o'->mz knd o' (eO f (i + 1))->∀ {tk:Nat},s'.toks<=tk->codeAny (model prog w) A (.builtin "set.update.loop" ⟨[.ref Z,.ref I],[]⟩) R { s' with heap:=h',toks:=tk }:=fun h' o' sb ho2 so2 {tk} tl=>by
   refine ih (i + 1) _ (by lia) lt (W.frame _ s' _ _ st' tl fun c hc oc ec=>?_) ⟨o',ho2,so2⟩ fun s2 mv2 so3=>?_
   ·rw [sb.2 c (fun q=>out (q ▸ hc))]
    exact ec
   ·refine fin s2 (PySem.Moved.trans W.gtrans ((mv.mono more).then_heap tl fun c oc hc ec=>?_) mv2) so3
    rw [sb.2 c (fun q=>hc (by rw [q];exact Q2))]
    exact ec
  refine Jw (s:={ s' with toks:=s'.toks + 1 }) (A:=A.in1) ho' so kb ks kp (by lia) (fun hin=>?_) fun hout h' o' sb ho2 so2=>?_
  ·refine Q5 ⟨plainId_quiet UR _,?_⟩;refine up s'.heap o ⟨rfl,fun _ _=>rfl⟩ ho' ?_ (Ut _ _)
   rw [eO,if_pos hin];exact so
  ·refine Q5 ⟨plainId_quiet UR _,?_⟩;refine up h' o' sb ho2 ?_ (Ut _ _);rw [eO,if_neg hout];exact so2
end
end
section
variable {prog:Program}{w:World}{K:Type} [DecidableEq K]{knd:KeyKind prog w K}{A:Around}{E:VC}{s:Shared}
abbrev ic (w:World):Obj:={ cls:=.type "set",dict:=none,data:=.set #[] 0 (.fresh 0 0 (!(w.params.followText "set-order"))) }
def GA (l:Value)(q:Q (.ref s.heap.objs.size) { s with heap:=s.heap.push (ic w) }) :
  codeAny (model prog w) A (.call (.builtin "set.__new__") ⟨[.type "set",l],[]⟩) (wants Q E) s:=by
 refine codeAny_of_tree (?_:_)
 show wpAny _ A.in1 (do
  checkBuiltinCall "set.__new__" ⟨[.type "set",l],[]⟩
  again (.builtin "set.__new__" ⟨[.type "set",l],[]⟩)) _ _ s
 refine Q0 (Tq (F.newCall_set_1 l) (Q5 ⟨plainId_quiet F.plain_set_new _,T8 F.entry_set_new (?_:_)⟩))
 rw [UQ F.plain_set_new (_:Args)];unfold Builtin.«set.__new__»;unfold Builtin.Frozenset.newClass;have sub0:=sub_set_self;obtain ⟨hp,g,d,tk,os⟩:=s;dsimp only
 wp_walk
 refine T9 (Q5 (?_:_))
 dsimp only;simp only [newObj];refine Q0 (wpAny_alloc (Q5 (?_:_)))
 exact Q5 q
def xy {l:Addr}{f:Nat->K}(hh:A.handled=none)(hl:s.heap.IsList l its)(few:its.size<=126)(is:∀ i v,its[i]?=some v->knd.is (f i) v=true/\v.scannable=true/\plainKind v=true)
  (q:∀ (h':Heap) (tk:Nat)(o:Obj),(∀ b o',s.heap.get? b=some o'->h'.get? b=some o')->h'.get? s.heap.objs.size=some o->mz knd o (eO f its.size)->Q (.ref s.heap.objs.size) { s with heap:=h',toks:=tk }) :
  wpAny (model prog w) A (call (.type "set") [.ref l]) Q E s:=by
 obtain ⟨cc,tl,hmro⟩:=F.called_set.mro;have made':=F.called_set.made;have sub':=F.called_set.sub;refine wpAny_call (codeAny_of_tree (?_:wpAny _ _ (callAny (.type "set") _) _ _ _));refine Q5 ⟨Code.quiet_builtin _ (by decide +kernel),T8 F.entry_type_call (?_:_)⟩
 rw [Around.under_plain (weight_type_call_type "set" [.ref l] []) rfl];have no':=F.called_set.notType;have can':=F.called_set.canCreate;have chk':=F.typeCall_set_1 (.ref l)
 repeat (any_goals (first | assumption | wp_step))
 refine Su (GA (.ref l) (E:=E) (Q:=fun ob s1=>ob=.ref s.heap.objs.size/\s1={ s with heap:=s.heap.push (ic w) }) ⟨rfl,rfl⟩) fun r s1 hr1=>?_
 cases r with
 | error e=>exact hr1
 | ok fl =>
  cases fl with
  | ret ob =>
   obtain ⟨rfl,rfl⟩:=hr1;have zs:(s.heap.push (ic w)).get? s.heap.objs.size=some (ic w):=R7 _ rfl;have ty:Shared.TypeIs { s with heap:=s.heap.push (ic w) } (.ref s.heap.objs.size) "set":=⟨_,zs,rfl⟩
   have li':=F.called_set.init.lookup;have bi':=F.called_set.init.bind (.ref s.heap.objs.size)
   repeat (any_goals (first | assumption | wp_step))
   refine Su (codeAny_call_builtin (R:=wants (fun r s2=>r=.none/\∃ h' tk o,s2={ s with heap:=h',toks:=tk }/\(∀ b o',s.heap.get? b=some o'->h'.get? b=some o')/\h'.get? s.heap.objs.size=some o/\mz knd o (eO f its.size)) E) F.called_set.init.plain F.entry_set_init (check_set_init_1 ty ?_)) fun r2 s2 hr2=>?_
   ·obtain ⟨ol,hol,hcl,nl,hdl⟩:=hl;obtain ⟨ocl,odi,oda,osl⟩:=ol;simp only at hcl hdl;subst hcl;subst hdl;have hol2:(s.heap.push (ic w)).get? l=some { cls:=.type "list",dict:=odi,data:=.seq its nl,slots:=osl }:=QL _ hol;have sl1:=F.sub_list_set;have sl2:=F.sub_list_frozenset;have nd':(Value.type "list" == Value.type "dict")=false:=by decide
    have hl1:(s.heap.push (ic w)).IsList l its:=⟨_,hol2,rfl,nl,rfl⟩;unfold Builtin.«set.__init__» noKeywords Builtin.Frozenset.updateFrom;generalize hPI:pyIter=PI
    wp_walk
    subst hPI;refine UO hl1 (Q0 (wpAny_runValue ?_));have lz:l < s.heap.objs.size:=QD hol;have h3:A.in1.in1.in1.handled=none:=by simp [hh]
    have nI:l≠(s.heap.push (ic w)).objs.size:=by
     rw [Sj];exact QG (S9 lz)
    have out:s.heap.objs.size∉[(s.heap.push (ic w)).objs.size,l]:=by
     rw [Sj];simp only [Q9,QZ,or_false,not_or];exact ⟨QG (Si _),S4 lz⟩
    refine BS (knd:=knd) (Walks.list h3 _ l nI its).toS s.heap.objs.size out f is few its.size 0 _ rfl (Qw _) ⟨⟨_,R7 _ rfl,rfl,rfl⟩,hl1.push _⟩ ⟨ic w,QL _ zs,Ez⟩ ?fin
    case fin =>
     intro s' mv so;obtain ⟨h',g',d',tk',os'⟩:=s';obtain rfl:g'=s.gens:=mv.gens;obtain rfl:d'=s.drawn:=mv.drawn;obtain rfl:os'=s.os:=mv.os;obtain ⟨o,ho,so⟩:=so;refine Q5 (?_:wpAny _ _ _ _ _ _);refine id (?_:wpAny _ _ (ret Value.none) _ _ _);refine Q5 ⟨rfl,h',tk',o,rfl,fun b o' hb=>?_,ho,so⟩
     have bz:=QD hb;refine mv.heap b o' ?_ (QL _ (QL _ hb));rw [Sj];simp only [Q9,QZ,or_false,not_or];exact ⟨QG bz,QG (S9 bz)⟩
   ·cases r2 with
    | error e=>exact hr2
    | ok fl2 =>
     cases fl2 with
     | ret r =>
      obtain ⟨rfl,h',tk,o,rfl,kp,ho,so⟩:=hr2
      repeat (any_goals (first | assumption | wp_step))
      exact q h' tk o kp ho so
     | _=>exact hr2.elim
  | _=>exact hr1.elim
end
def B9 (hr:iy xs):below xs 0=0:=by
 obtain ⟨h1,h2⟩:=i8 hr 0;rcases Nat.eq_zero_or_pos (below xs 0) with z | z
 ·exact z
 ·have hi:0 < xs.size:=by lia
  have:=(h2 0 xs[0] (RZ hi)).mp z;lia
def BN (hr:iy xs){i j:Nat}(h:xs[i]?=some j):below xs (j + 1)=i + 1:=by
 obtain ⟨h1,h2⟩:=i8 hr (j + 1);have a:=(h2 i j h).mpr (Si j);rcases RL (i + 1) (below xs (j + 1)) with z | z
 ·have hi:i + 1 < xs.size:=by lia
  have e:=RZ hi;have b:=(h2 (i + 1) _ e).mp z;have c:=hr i (i + 1) j _ (Si i) h e;lia
 ·lia
theorem tH {α:Type}:∀ (l:List α) (i:Nat)(h:i < l.length),(l[i]::l.eraseIdx i).Perm l
 | x::l,0,_=>List.Perm.refl _
 | x::l,i + 1,h=>by
  have hi:i < l.length:=by simpa using h
  have ih:=tH l i hi;refine List.Perm.trans (Tt x l[i] (l.eraseIdx i)) (List.Perm.cons x ih)
theorem AJ {α:Type}(next:Nat->Nat):∀ (fuel k:Nat)(left:List α)(out:Array α),left.length=fuel->(pickOrder.go next fuel k left out).toList.Perm (out.toList++left)
 | 0,k,left,out,h=>by
  have:left=[]:=US.mp h;subst this;unfold pickOrder.go;simp
 | fuel + 1,k,left,out,h=>by
  unfold pickOrder.go;have lt:next k % left.length < left.length:=Sd _ (by lia)
  rw [QV lt];dsimp only;refine (AJ next fuel (k + 1) _ _ (by rw [List.length_eraseIdx_of_lt lt];lia)).trans ?_
  rw [Tu,Qs];refine Ru _ ?_;exact tH _ _ lt
def Fb {α:Type}(next:Nat->Nat)(xs:Array α):(pickOrder next xs).toList.Perm xs.toList:=by
 have:=AJ next xs.size 0 xs.toList #[] (by simp)
 simpa [pickOrder] using this
def dF (w:World)(a:Addr) (ep:Nat)(es:Array Ent):Array Ent:=if w.params.followText "set-order"=true then pickOrder (w.params.setOrder a ep) es else es
def yN (w:World)(a:Addr) (ep:Nat)(es:Array Ent):(dF w a ep es).toList.Perm es.toList:=by
 unfold dF;split
 ·exact Fb _ _
 ·exact List.Perm.refl _
def qW (w:World)(a:Addr) (ep:Nat)(es:Array Ent):(dF w a ep es).size=es.size:=by
 have:=(yN w a ep es).length_eq
 simpa using this
def jA:Slot "set_iterator" "__next__" "set_iterator.__next__" :=
 .of (owner:="set_iterator") (n:="__next__") (by
   rw [typeLookup_type,builtinLookup_eq_fast]
   kernel_rfl) (by decide +kernel) (by decide +kernel) (by decide +kernel)
  (by
   first
   | exact .inl (by decide +kernel)
   | exact .inr (by decide +kernel)) (by
   rw [isSubtype_type]
   kernel_rfl)
def wN:Slot "set_iterator" "__iter__" "set_iterator.__iter__" :=
 .of (owner:="set_iterator") (n:="__iter__") (by
   rw [typeLookup_type,builtinLookup_eq_fast]
   kernel_rfl) (by decide +kernel) (by decide +kernel) (by decide +kernel)
  (by
   first
   | exact .inl (by decide +kernel)
   | exact .inr (by decide +kernel)) (by
   rw [isSubtype_type]
   kernel_rfl)
def zS:entryFor table "set_iterator.__next__"=some Builtin.«set_iterator.__next__»:=entryFor_of_tree (by kernel_rfl)
def xr (a:Value):argsOk "set_iterator.__next__" ⟨[a],[]⟩:=by
 unfold argsOk
 kernel_rfl
def Gq (a:Value):argsOk "set_iterator.__iter__" ⟨[a],[]⟩:=by
 unfold argsOk
 kernel_rfl
def J4:entryFor table "set.__iter__"=some Builtin.«frozenset.__iter__» :=
 entryFor_alias (id':="frozenset.__iter__") (by kernel_rfl) rfl (by decide +kernel) (by kernel_rfl)
def Jx:entryFor table "set_iterator.__iter__"=some Builtin.«dict_keyiterator.__iter__» :=
 entryFor_alias (id':="dict_keyiterator.__iter__") (by kernel_rfl) rfl (by decide +kernel) (by kernel_rfl)
def nN (h:Heap)(it a:Addr) (slot i n ep:Nat):Prop:=∃ o,h.get? it=some o/\o.cls=.type "set_iterator"/\o.data=.fields #[.int slot 0,.int i 0,.ref a,.int n 0,.int ep 0]
def gF (w:World)(h:Heap)(a:Addr)(es:Array Ent) (ep:Nat):Prop:=∃ o t,h.get? a=some o/\o.ExactSet/\o.data=.set es ep t/\t.fits es.size=true/\iy t.place/\t.place.size=es.size/\t.plain=true/\t.led=(!(w.params.followText "set-order"))
def nN.ty {s:Shared}{it a:Addr}{slot i n ep:Nat}(x:nN s.heap it a slot i n ep):s.TypeIs (.ref it) "set_iterator":=by
 obtain ⟨o,h1,h2,_⟩:=x;exact ⟨o,h1,h2⟩
section
variable {prog:Program}{w:World}{A:Around}{E:VC}{s:Shared}{es:Array Ent}{ep:Nat}{a it:Addr}
def Gy (S:gF w s.heap a es ep)(q:Q (.ref s.heap.objs.size) { s with heap:=s.heap.push { cls:=.type "set_iterator",data:=.fields #[.int 0 0,.int 0 0,.ref a,.int es.size 0,.int ep 0] } }) :
  wpAny (model prog w) A (pyIter (.ref a)) Q E s:=by
 obtain ⟨o,t,ho,ex,hd,fit,ri,sz,pl,ld⟩:=S;have ty:s.TypeIs (.ref a) "set":=⟨o,ho,ex.1⟩;refine wpAny_pyIter_slot ty F.slot_set_iter (S6 F.slot_set_iter ty J4 ?_ (F.args_set_iter_1 _));unfold Builtin.«frozenset.__iter__»;refine Q0 (m:=Builtin.Frozenset.slot0 "__iter__" _) (Q5 (?_:_))
 unfold Builtin.Frozenset.sizeOf;refine Q0 (Q0 (wpAny_setEntries_of ho hd fit (Q5 (?_:_))))
 unfold setDrawn;refine Q0 ?_;refine Q0 (UP ho hd fit ?_);dsimp only;unfold setsByText;refine Q0 (Q0 (T9 (Q5 (?_:_))))
 refine Q5 ?_;have nd:¬ ((!(w.params.followText "set-order") && (!t.plain && decide (es.size > 1)))=true):=by
  rw [pl];simp
 refine UT (fun z=>absurd z nd) fun _=>?_
 refine Q0 (Q5 (?_:_))
 refine Q0 (wpAny_setEpoch_of ho hd fit ?_);unfold newFields;refine Q0 (Rr (Q5 ⟨_,rfl,"set_iterator",_,⟨_,R7 _ rfl,rfl⟩,jA.lookup,?_⟩))
 simpa [rawInt] using q
def JQ {slot i n:Nat}{Q:VC}(hit:nN s.heap it a slot i n ep)(q:Q (.ref it) s):wpAny (model prog w) A (pyIter (.ref it)) Q E s:=by
 refine wpAny_pyIter_slot hit.ty wN (S6 wN hit.ty Jx ?_ (Gq _));show wpAny _ _ (ret (.ref it)) _ _ s;exact Q5 ⟨_,rfl,"set_iterator",_,hit.ty,jA.lookup,q⟩
def xA {slot i:Nat}(S:gF w s.heap a es ep)(hs:w.params.followText "set-order"=false->∀ o es' ep' t,s.heap.get? a=some o->o.data=.set es' ep' t->below t.place slot=i)
  (q0:(dF w a ep es)[i]?=none->Q none s)(q1:∀ e slot',(dF w a ep es)[i]?=some e->(w.params.followText "set-order"=false->∀ o es' ep' t,s.heap.get? a=some o->o.data=.set es' ep' t->below t.place slot'=i + 1)->Q (some (e.2,slot')) s) :
  wpAny (model prog w) A (setNext a slot i ep) Q E s:=by
 obtain ⟨o,t,ho,ex,hd,fit,ri,sz,pl,ld⟩:=S;unfold setNext;refine Q0 (UP ho hd fit ?_);dsimp only;unfold setsByText;refine Q0 (Q0 (T9 (Q5 (?_:_))))
 show wpAny _ _ (if w.params.followText "set-order"=true then _ else _) _ _ _
 cases c:w.params.followText "set-order" with
 | true =>
  rw [if_pos rfl];rw [if_neg (by simp)]
  refine Q0 ?_;unfold setWalk;refine Q0 (UP ho hd fit ?_);dsimp only;unfold setsByText;refine Q0 (Q0 (T9 (Q5 (?_:_))))
  show wpAny _ _ (if w.params.followText "set-order"=true then _ else _) _ _ _
  rw [if_pos c];refine Q0 (T9 (Q5 (?_:_)))
  refine Q5 ?_;have eo:dF w a ep es=pickOrder (w.params.setOrder a ep) es:=by
   unfold dF;rw [if_pos c]
  rw [eo] at q0 q1;show Q (((pickOrder (w.params.setOrder a ep) es)[i]?).map fun e=>(e.2,slot)) s
  cases z:(pickOrder (w.params.setOrder a ep) es)[i]? with
  | none=>exact q0 z
  | some e=>exact q1 e slot z (fun h=>by rw [c] at h;cases h)
 | false =>
  rw [if_neg Qu];have nd:¬ ((!t.plain && decide (es.size > 1))=true):=by
   rw [pl];simp
  refine UT (fun z=>absurd z nd) fun _=>?_
  have nl:¬ ((!t.led && !es.isEmpty)=true):=by
   rw [ld,c];simp
  refine Q0 (?_:wpAny _ _ (if (!t.led && !es.isEmpty)=true then (unsupported "set:maker-not-led":Sem Unit) else pure ()) _ _ _)
  rw [if_neg nl];refine Q5 (Q5 (?_:_))
  have eo:dF w a ep es=es:=by
   unfold dF;rw [if_neg (by rw [c];exact Qu)]
  rw [eo] at q0 q1;rw [hs c o es ep t ho hd];cases z:es[i]? with
  | none=>exact q0 z
  | some e =>
   have hi:i < t.place.size:=by
    rw [sz];exact sA z
   have zp:=RZ hi;rw [zp];obtain ⟨eh,ev⟩:=e;refine q1 (eh,ev) _ z fun _ o' es' ep' t' h1 h2=>?_
   rw [ho] at h1;cases h1;rw [hd] at h2;cases h2;exact BN ri zp
end
section
variable {prog:Program}{w:World}{A:Around}{E:VC}{s:Shared}{es:Array Ent}{ep:Nat}{a it:Addr}
def Ic (w:World)(h:Heap)(a:Addr) (slot i:Nat):Prop:=w.params.followText "set-order"=false->∀ o es' ep' t,h.get? a=some o->o.data=.set es' ep' t->below t.place slot=i
theorem gF.sz (S:gF w s.heap a es ep)(h:P es s):wpAny (model prog w) A (setEntries a) P E s:=by
 obtain ⟨o,t,ho,ex,hd,fit,ri,sz,pl,ld⟩:=S;exact wpAny_setEntries_of ho hd fit h
def next_item {slot i:Nat}(ne:a≠it)(hit:nN s.heap it a slot i es.size ep)(S:gF w s.heap a es ep)(F:Ic w s.heap a slot i)(he:(dF w a ep es)[i]?=some e)
  (q:∀ h' slot',nN h' it a slot' (i + 1) es.size ep->Ic w h' a slot' (i + 1)->Heap.SameBut it s.heap h'->Q (some e.2) { s with heap:=h' }):wpAny (model prog w) A (pyNext (.ref it)) Q E s:=by
 obtain ⟨o,ho,hc,hd⟩:=id hit;unfold pyNext;refine Q0 (wpAny_attempt (UE (name:=Str.ofString "__next__") hit.ty jA
  (S6 jA hit.ty zS ?_ (xr _))))
 unfold Builtin.«set_iterator.__next__»;refine Q0 (m:=slotArgs "__next__" 0 _) (Q5 (?_:_))
 refine Q0 (wpAny_fieldsOf ho hd ?_);dsimp only;refine Q0 (S.sz ?_);rw [if_neg (by simp)]
 simp only [UD];refine Q0 (xA S F (fun z=>by rw [he] at z;cases z) fun e' slot' z hF=>?_)
 rw [he] at z;cases z;dsimp only;refine Q0 (Sf ho hd (by simp) ?_)
 have g1:=S0 (Obj.mapFields (·.setIfInBounds 0 (rawInt (slot':Int)))) ho (Tp (Sh hd _));have d1:=Sh hd (·.setIfInBounds 0 (rawInt (slot':Int)));have sb1:=T7 s.heap it (Obj.mapFields (·.setIfInBounds 0 (rawInt (slot':Int))));generalize s.heap.update it (Obj.mapFields (·.setIfInBounds 0 (rawInt (slot':Int))))=h1 at *;refine Q0 (Sf (s:={ s with heap:=h1 }) g1 d1 (by simp) ?_)
 have g2:=S0 (Obj.mapFields (·.setIfInBounds 1 (rawInt ((i:Int) + 1)))) g1 (Tp (Sh d1 _));have d2:=Sh d1 (·.setIfInBounds 1 (rawInt ((i:Int) + 1)));have sb2:=T7 h1 it (Obj.mapFields (·.setIfInBounds 1 (rawInt ((i:Int) + 1))));generalize h1.update it (Obj.mapFields (·.setIfInBounds 1 (rawInt ((i:Int) + 1))))=h2 at *;have sb:Heap.SameBut it s.heap h2:=sb1.trans sb2;refine Q5 ⟨_,rfl,Q5 (q h2 slot' ⟨_,g2,?_,?_⟩ (fun c o' es' ep' t h1 h2'=>?_) sb)⟩
 ·rw [Obj.cls_mapFields,Obj.cls_mapFields];exact hc
 ·rw [d2];simp [rawInt]
 ·rw [sb.2 a ne] at h1;exact hF c o' es' ep' t h1 h2'
def next_end {slot i:Nat}(hh:A.handled=none)(hit:nN s.heap it a slot i es.size ep)(S:gF w s.heap a es ep)(F:Ic w s.heap a slot i)(he:(dF w a ep es)[i]?=none)
  (q:∀ h',Heap.ExtBut it s.heap h'->Q none { s with heap:=h' }):wpAny (model prog w) A (pyNext (.ref it)) Q E s:=by
 obtain ⟨o,ho,hc,hd⟩:=id hit;unfold pyNext;refine Q0 (wpAny_attempt (UE (name:=Str.ofString "__next__") hit.ty jA
  (S6 jA hit.ty zS ?_ (xr _))))
 unfold Builtin.«set_iterator.__next__»;refine Q0 (m:=slotArgs "__next__" 0 _) (Q5 (?_:_))
 refine Q0 (wpAny_fieldsOf ho hd ?_);dsimp only;refine Q0 (S.sz ?_);rw [if_neg (by simp)]
 simp only [UD];refine Q0 (xA S F (fun z=>?_) fun e' slot' z hF=>by rw [he] at z;cases z)
 dsimp only;refine Q0 (Sf ho hd (by simp) ?_)
 refine Q0 (m:=newExc (.type "StopIteration") []) ?_;simp only [newExc,newTuple];refine Q0 (Rr ?_ (by size_fits))
 refine Q0 (m:=firstArgMember _ _) (Tq (a:=Value.none) (by
  first
  | rfl
  | (simp only [firstArgMember];rfl)) ?_)
 refine Rr (?_:_) (by size_fits)
 simp only [raiseNew];refine Q0 (wpAny_handled (?_:_))
 rw [show A.in1.handled=none from hh]
 refine Q0 (Q5 (wpAny_throw (?_:_)))
 refine Q0 (wpAny_isInstance (T:="StopIteration") (b:=true) ⟨_,R7 _ rfl,rfl⟩ isSubtype_stop (?_:_))
 exact Q5 (q _ (((T7 ..).extBut.push _).push _))
def gF.at (S:gF w h a es ep)(k:∀ o,h.get? a=some o->h'.get? a=some o):gF w h' a es ep:=by
 obtain ⟨o,t,ho,r⟩:=S;exact ⟨o,t,k o ho,r⟩
def Ft (hh:A.handled=none)(I a:Addr)(ne:a≠I)(es:Array Ent) (ep:Nat) :
  Walks prog w A I [I,a] [I] es.size (fun i v=>∃ e,(dF w a ep es)[i]?=some e/\v=e.2) (fun i h=>(∃ slot,nN h I a slot i es.size ep/\Ic w h a slot i)/\gF w h a es ep) where
 sub:=fun b hb=>by
  simp at hb;simp [hb]
 frame:=fun i h h' st hk=>by
  obtain ⟨⟨slot,⟨o,ho,r⟩,F⟩,S⟩:=st;refine ⟨⟨slot,⟨o,hk I (by simp) o ho,r⟩,fun c o' es' ep' t h1 h2=>?_⟩,S.at fun o e=>hk a (by simp) o e⟩
  obtain ⟨ob,tb,hob,r2⟩:=S;have:=hk a (by simp) ob hob
  rw [this] at h1;cases h1;exact F c _ es' ep' t hob h2
 item:=fun i s Q E hi st hQ=>by
  obtain ⟨⟨slot,hit,F⟩,S⟩:=st;have hi':i < (dF w a ep es).size:=by
   rw [qW];exact hi
  have he:=RZ hi';refine next_item ne hit S F he fun h' slot' hit' F' sb=>?_
  exact hQ _ h' s.toks ⟨_,he,rfl⟩ ⟨⟨slot',hit',F'⟩,S.at fun o e=>by rw [sb.2 a ne];exact e⟩ fun b o hb e=>by rw [sb.2 b (fun z=>hb (by simp [z]))];exact e
 done:=fun s Q E st hQ=>by
  obtain ⟨⟨slot,hit,F⟩,S⟩:=st;refine next_end hh hit S F (UL (by rw [qW];exact Q6 _)) fun h' eb=>hQ h' s.toks fun b o hb e=>eb b o (fun z=>hb (by simp [z])) e
 self:=fun i s Q E st hQ=>by
  obtain ⟨⟨slot,hit,F⟩,S⟩:=st;exact JQ hit hQ
end
end SM
namespace L2
open PySem PySem.Spec PyProof.Rows
theorem iY:∀ {us:VQ}{ns:VW},IntsAre us ns->Vals (ns.map V.int) us
 | _,_,.nil=>.nil
 | _,_,.cons k t r=>.cons ⟨t,rfl⟩ (iY r)
section
variable {X:Cx}
def yM:b8 X (.builtin "sorted") (fun xs H Q=>∃ (a:Addr)(ns:VW),xs=[.ref a]/\bX X.K H a (ns.map V.int)/\ns.length < 64/\∀ (ms:VW)(p:Addr),ms.Perm ns->ms.Pairwise (·<=·)->H p=none->Q (.ref p) (upd H p (.lst (ms.map V.int)))):=by
 intro pins s U H xs us Q I r h;obtain ⟨a,ns,rfl,hq,hl,q⟩:=h;obtain ⟨u,rfl,ru⟩:=r.one;cases ru;obtain ⟨its,rv,p,_⟩:=I.list hq;have hlen:its.length=ns.length:=by rw [<- rv.length,Q8]
 refine sorted_ints p.isList (intsAre_of rv) (by lia) fun out ms h1 h2 h3=>?_
 obtain ⟨e,he⟩:=sortedAll_at s.heap its out;have new:s.heap.get? (s.heap.objs.size + 1)=none:=TU (Sx _);have rm:=iY h1;have ml:ms.length=ns.length:=h2.length_eq;have I2:=I.v9 (a:=s.heap.objs.size + 1) (o:=.lst (ms.map V.int)) (t':=s.toks) (h':=sortedAll s.heap its out) (fun b o hb=>sortedAll_old hb) new
  ⟨by rw [Q8,ml];exact Ry (QT hl (by decide)),out.toList,e,rm,by simpa using he⟩
 exact ⟨.ref (s.heap.objs.size + 1),_,I2,rfl,q ms _ h2 h3 (I.iG new)⟩
end
end L2
namespace SM
open PySem PySem.SetTable PySem.W PyProof.Rows
section
variable {prog:Program}{w:World}{A:Around}{E:VC}{s:Shared}{es:Array Ent}{ep:Nat}{a it:Addr}
def FE (ty:s.TypeIs (.ref a) "set")(q:Q false s):wpAny (model prog w) A (Builtin.List.listLengthHint (.ref a)) Q E s:=by
 unfold Builtin.List.listLengthHint;refine Q0 (wpAny_specialOf ty F.slot_set_len.lookup (?_:_))
 generalize hid:("set.__len__":String)=idl
 wp_delta
 rw [show splitId idl=some ("set","__len__") from by
  subst hid;decide +kernel]
 subst hid;refine Q0 (wpAny_isInstance (T:="set") (b:=true) ty (by
  rw [isSubtype_type]
  kernel_rfl) (?_:_))
 refine UT (fun z=>absurd z (by decide)) (fun _=>(?_:_))
 refine UT (fun _=>(?_:_)) (fun z=>absurd (by decide +kernel) z)
 refine Q0 (Sw ty (?_:_))
 exact Q5 q
def Ju (a:Addr)(es:Array Ent) (ep:Nat):KdlSrc prog w "set" a a es.size (fun i v=>∃ e,(dF w a ep es)[i]?=some e/\v=e.2) (fun h=>gF w h a es ep) where
 type:=fun s S=>by
  obtain ⟨o,t,ho,ex,_⟩:=S;exact ⟨o,ho,ex.1⟩
 there:=fun h S=>by
  obtain ⟨o,t,ho,_⟩:=S;exact ⟨QD ho,QD ho⟩
 keep:=fun h h' S hk=>S.at fun o e=>hk a (.inl rfl) o e
 notList:=by decide
 notTuple:=by decide
 hint:=fun A E s Q S q=>by
  obtain ⟨o,t,ho,ex,_⟩:=S;exact FE ⟨o,ho,ex.1⟩ q
 iter:=fun A s hh S=>by
  refine ⟨_,_,fun E Q q=>Gy S q,Ft hh _ a ?_ es ep,⟨⟨0,⟨_,R7 _ rfl,rfl,rfl⟩,fun c o' es' ep' t h1 h2=>?_⟩,S.at fun o e=>QL _ e⟩⟩
  ·obtain ⟨o,t,ho,_⟩:=S;exact QG (QD ho)
  ·obtain ⟨o,t,ho,ex,hd,fit,ri,r⟩:=S;rw [QL _ ho] at h1;cases h1;rw [hd] at h2;cases h2;exact B9 ri
def zz (hh:A.handled=none)(S:gF w s.heap a es ep)(few:es.size<=126)
  (q:∀ h' tk,(∀ b o,s.heap.get? b=some o->h'.get? b=some o)->s.heap.objs.size < h'.objs.size->Q ((dF w a ep es).toList.map (·.2)) { s with heap:=h',toks:=tk }):wpAny (model prog w) A (collect (.ref a)) Q E s:=by
 unfold collect;refine Q0 (wpAny_runValue (T8 entry_proto_collect' (?_:_)))
 show wpAny _ _ (do
  again (.builtin "list.__iadd__" ⟨[<- newList [],.ref a],[]⟩)) _ _ s
 refine Q0 (UU (Q5 ⟨Code.quiet_builtin _ (by decide +kernel),T8 entry_list_iadd' (?_:_)⟩))
 rw [UQ (by decide +kernel) _]
 refine id (?_:wpAny _ _ (Builtin.List.listExtendWith (.ref s.heap.objs.size) (.ref a) (.ref s.heap.objs.size)) _ _ _);have az:a < s.heap.objs.size:=by
  obtain ⟨o,t,ho,_⟩:=S;exact QD ho
 have ne:=S4 az;refine kdl_extend (prog:=prog) (R:=fun r s'=>match r with
  | .ok (.ret v)=>wpAny (model prog w) A (match v with
   | .ref a=>do
    let o <- load a
    match o.data with
    | .seq xs _=>pure xs.toList
    | _=>unsupported "internal:collect"
   | _=>unsupported "internal:collect") Q E s'
  | .ok _=>False
  | .error e=>E e s') (s:={ s with heap:=s.heap.push (seqObj "list" #[] 0) }) (A:=A) (Ju a es ep) ?_ (S.at fun o e=>QL _ e) s.heap.objs.size ne ne (.ref s.heap.objs.size) 0 (R7 _ rfl) (fun h' tk acc c kp hS its=>?_) (QW few (by decide))
 ·exact hh
 ·have e:acc.toList=(dF w a ep es).toList.map (·.2):=by
   refine Rx fun j=>?_
   obtain ⟨z1,z2⟩:=its;rw [QN,RC,RC];cases z:acc[j]? with
   | none =>
    have:=Array.getElem?_eq_none_iff.mp z;rw [UL (by rw [qW];lia)]
    rfl
   | some v =>
    obtain ⟨e,h1,h2⟩:=z2 j v z;rw [h1,h2];rfl
  refine id (?_:wpAny _ _ (do
   let o <- load s.heap.objs.size
   match o.data with
   | .seq xs _=>pure xs.toList
   | _=>unsupported "internal:collect") _ _ _)
  refine Q0 (wpAny_load hS (?_:_))
  refine Q5 ?_;rw [e];exact q h' tk (fun b o hb=>kp b o (QG (QD hb)) (QL _ hb)) (QD hS)
end
end SM
namespace L2
open PySem PySem.Spec PyProof.Rows
def ua (P:Program)(w:World)(a:Addr)(ks:VW):HO:=.ext fun h=>∃ o,h.get? a=some o/\SM.mz (intKind P w) o ks
section
variable {X:Cx}
end
end L2
namespace SM
theorem AS {K:Type} [DecidableEq K](f:Nat->K):∀ i,(eO f i).Nodup
 | 0=>SA
 | i + 1=>by
  have ih:=AS f i;unfold eO;split
  ·exact ih
  ·next c =>
   refine Qy.mpr ⟨ih,R8.mpr ⟨QZ,SA⟩,fun x hx y hy e=>?_⟩
   cases QF.mp hy;exact c (e ▸ hx)
end SM
namespace L2
open PySem PySem.Spec PyProof.Rows
section
variable {X:Cx}
def CY (hc:X.calm=true):b8 X (.type "set") (fun xs H Q=>∃ (a:Addr)(ns:VW),xs=[.ref a]/\bX X.K H a (ns.map V.int)/\ns.length<=126/\∀ (p:Addr)(ks:VW),H p=none->(∀ x,x∈ks↔x∈ns)->ks.Nodup->Q (.ref p) (upd H p (ua X.prog X.w p ks))):=by
 intro pins s U H xs us Q I r h;obtain ⟨a,ns,rfl,hq,few,q⟩:=h;obtain ⟨u,rfl,ru⟩:=vals1 r;cases ru;obtain ⟨its,rv,p,_⟩:=I.list hq;have hlen:its.length=ns.length:=by rw [<- rv.length,Q8]
 refine SM.xy (knd:=intKind X.prog X.w) (f:=fun i=>ns.getD i 0) (I.ok.hd hc) p.isList (by simp [hlen];lia) (fun i v hv=>?_) fun h' tk o kp ho st=>?_
 ·have hv':its[i]?=some v:=by simpa using hv
  obtain ⟨x,hx,rx⟩:=qq rv i v hv';rw [QN] at hx;cases z:ns[i]? with
  | none =>
   rw [z] at hx;cases hx
  | some n =>
   rw [z] at hx;cases hx;obtain ⟨t,rfl⟩:=rx;rw [RD,z];exact ⟨intKind_is _ _ n t,rfl,rfl⟩
 ·rw [QJ,hlen] at st;refine ⟨.ref s.heap.objs.size,_,I.laid (t':=tk) kp (Q6 _) (o:=ua X.prog X.w s.heap.objs.size (SM.eO (fun i=>ns.getD i 0) ns.length)) ?_,rfl,q _ _ (I.hok.fresh (Q6 _)) (fun x=>?_) (SM.AS _ _)⟩
  ·refine ⟨⟨o,ho,st⟩,⟨o,ho⟩,fun h1 h2 z k=>?_⟩
   obtain ⟨o,z1,z2⟩:=z;exact ⟨o,k o z1,z2⟩
  ·rw [SM.yZ];constructor
   ·rintro ⟨j,h1,rfl⟩;rw [RD,QV h1];exact Rn h1
   ·intro h;obtain ⟨j,h1,h2⟩:=List.getElem_of_mem h;refine ⟨j,h1,?_⟩;rw [RD,QV h1];exact h2
end
end L2
namespace TS
open PySem PyProof.Rows
def uW:Bool->Keyed->Array Keyed->Nat->Nat->Nat->StateT SortSt Sem (Option Nat):=sortPriv% PySem.Builtin.gallop
def xW:Array Keyed->Array Keyed->StateT SortSt Sem (Array Keyed):=sortPriv% PySem.Builtin.mergeLo
def xG:Array Keyed->Array Keyed->StateT SortSt Sem (Array Keyed):=sortPriv% PySem.Builtin.mergeHi
section
variable {prog:Program}{w:World}{A:Around}{E:VC}{s:Shared}
def jq (prog:Program)(w:World)(A:Around)(s:Shared)(kd:SortKind)(P:Value->Prop):Prop:=∀ (E:VC) x y,P x->P y->∀ Q:Bool->Shared->Prop,(∀ b,Q b s)->wpAny (model prog w) A (keyLt' kd x y) Q E s
def Good (P:Value->Prop)(xs:Array Keyed):Prop:=∀ (i:Nat)(p:Keyed),xs[i]?=some p->P p.1
variable {kd:SortKind}{P:Value->Prop}
def ask {st:SortSt}(L:jq prog w A s kd P)(hk:kindOf st=kd)(hx:P x.1)(hy:P y.1)(h:∀ b,Q (some b) st):wpS (model prog w) A E s (lt' x y) Q st:=by
 rw [lt'_eq];refine Q3 (wpS_get ?_);rw [hk];refine Q3 (SD (wpAny_attempt (L _ _ _ hx hy _ fun b=>⟨rfl,?_⟩)))
 exact Q4 (h b)
def kD {st:SortSt}{i:Nat}(hi:i < xs.size)(h:∀ p,xs[i]?=some p->Q p st):wpS (model prog w) A E s (elem' xs i) Q st:=by
 rw [elem'_eq,RZ hi];exact Q4 (h _ (RZ hi))
def om {st:SortSt}{left:Bool}{base n hint:Nat}(L:jq prog w A s kd P)(hk:kindOf st=kd)(hy:P key.1)(G:Good P xs)(hn:base + n<=xs.size)(hh:hint < n)(h:∀ k,k<=n->Q (some k) st) :
  wpS (model prog w) A E s (uW left key xs base n hint) Q st:=by
 have far:∀ (i:Nat){R:Option Bool->SortSt->Prop},i < n->(∀ b,R (some b) st)->wpS (model prog w) A E s (do
   let x <- elem' xs (base + i)
   if left then lt' x key else return (<- lt' key x).map (!·)) R st:=fun i R hi hR=>by
  refine Q3 (kD (by lia) fun p hp=>?_)
  cases left with
  | true=>exact ask L hk (G _ _ hp) hy hR
  | false=>exact Q3 (ask L hk hy (G _ _ hp) fun b=>Q4 (hR _))
 unfold uW;refine Q3 (far hint hh fun b=>?_)
 dsimp only;split
 all_goals
  refine Q3 (RA (RB (I:=fun _ c st'=>st'=st/\c.1=none) (Q:=fun c st'=>st'=st/\c.1=none) ?step (fun _ _ q=>q) ⟨rfl,rfl⟩) ?post)
  case step =>
   rintro x ⟨o,a,c⟩ st' _ _ ⟨rfl,rfl⟩;dsimp only;split
   ·exact Q4 ⟨rfl,rfl⟩
   ·refine Q3 (far _ (by lia) fun b'=>?_)
    dsimp only;split
    ·exact Q4 ⟨rfl,rfl⟩
    ·exact Q4 ⟨rfl,rfl⟩
  case post =>
   rintro ⟨o,a,c⟩ st' ⟨rfl,rfl⟩;dsimp only;refine Q3 (RA (RB (I:=fun _ c st''=>st''=st'/\c.1=none/\c.2.2<=n) (Q:=fun c st''=>st''=st'/\c.1=none/\c.2.2<=n) ?step2 (fun _ _ q=>q) ⟨rfl,rfl,by dsimp only;lia⟩) ?post2)
   case step2 =>
    rintro x ⟨o,a,c⟩ st'' _ _ ⟨rfl,rfl,le⟩;dsimp only at le ⊢;split
    ·exact Q4 ⟨rfl,rfl,le⟩
    ·refine Q3 (far _ (by lia) fun b'=>?_)
     dsimp only;split
     ·exact Q4 ⟨rfl,rfl,le⟩
     ·exact Q4 ⟨rfl,rfl,by dsimp only;lia⟩
   case post2 =>
    rintro ⟨o,a,c⟩ st'' ⟨rfl,rfl,le⟩;dsimp only;exact Q4 (h _ le)
end
def Pm (xs ys out:Array Keyed) (ia ib:Nat):Prop:=out.toList.Perm (xs.toList.take ia++ys.toList.take ib)
section
variable {xs ys out:Array Keyed}{ia ib k:Nat}
def xm (zs:Array Keyed) (i k:Nat):zs.toList.take (i + k)=zs.toList.take i++(zs.extract i (i + k)).toList:=by
 rw [Uu,List.take_add,Uv];congr 2;lia
def Pm.x (h:Pm xs ys out ia ib) (k:Nat):Pm xs ys (out++xs.extract ia (ia + k)) (ia + k) ib:=by
 unfold Pm at *;rw [RP,xm xs ia k,Qs];refine (h.append_right _).trans ?_;rw [Qs];exact Ru _ SG
def Pm.y (h:Pm xs ys out ia ib) (k:Nat):Pm xs ys (out++ys.extract ib (ib + k)) ia (ib + k):=by
 unfold Pm at *;rw [RP,xm ys ib k,<- Qs];exact h.append_right _
def rR {zs out:Array Keyed}{i:Nat}(hp:zs[i]?=some p):out.push p=out++zs.extract i (i + 1):=by
 obtain ⟨hi,e⟩:=Tf.mp hp;have:zs.extract i (i + 1)=#[p]:=by
  rw [<- e];apply Array.ext
  ·simp;lia
  ·intro j h1 h2;have:j=0:=by
    simp at h2;exact h2
   subst this;simp
 rw [this];rfl
def Pm.px {p:Keyed}(h:Pm xs ys out ia ib)(hp:xs[ia]?=some p):Pm xs ys (out.push p) (ia + 1) ib:=by
 rw [rR hp];exact h.x 1
def Pm.py {p:Keyed}(h:Pm xs ys out ia ib)(hp:ys[ib]?=some p):Pm xs ys (out.push p) ia (ib + 1):=by
 rw [rR hp];exact h.y 1
def yG (zs:Array Keyed) (i:Nat):zs.toList=zs.toList.take i++(zs.extract i).toList:=by
 rw [Uu,Uv];have:List.take (zs.size - i) (List.drop i zs.toList)=List.drop i zs.toList:=TF (by simp)
 rw [this,TH]
def Pm.done (h:Pm xs ys out ia ib):(out++xs.extract ia++ys.extract ib).toList.Perm (xs.toList++ys.toList):=by
 unfold Pm at h;rw [RP,RP,yG xs ia,yG ys ib];refine ((h.append_right _).append_right _).trans ?_;simp only [Qs];refine Ru _ ?_;rw [<- Qs,<- Qs];exact Tv _ SG
def Pm.last (h:Pm xs ys out ia ib):(out++ys.extract ib++xs.extract ia).toList.Perm (xs.toList++ys.toList):=by
 refine List.Perm.trans ?_ h.done;rw [RP,RP,RP,RP,Qs,Qs];exact Ru _ SG
end
def lF (st st':SortSt):Prop:=kindOf st'=kindOf st/\arrOf st'=arrOf st/\pendingOf st'=pendingOf st/\failedOf st'=failedOf st
inductive K3 (st:SortSt)(xs ys:Array Keyed) (x:Nat):Option (Array Keyed)×Array Keyed×Nat×Nat×Nat->SortSt->Prop
 | mk:∀ (out:Array Keyed) (ia ib mg:Nat)(st':SortSt),lF st st'->Pm xs ys out ia ib->ia + 1 < xs.size->ib < ys.size->x + 1<=ia + ib->K3 st xs ys x (none,out,ia,ib,mg) st'
inductive BZ (st:SortSt)(xs ys:Array Keyed):Option (Array Keyed)×Array Keyed×Nat×Nat×Nat->SortSt->Prop
 | mk:∀ (r out:Array Keyed) (ia ib mg:Nat)(st':SortSt),lF st st'->r.toList.Perm (xs.toList++ys.toList)->BZ st xs ys (some r,out,ia,ib,mg) st'
inductive HW (st:SortSt)(xs ys:Array Keyed) (n y:Nat):Option (Array Keyed)×Array Keyed×Nat×Nat×Nat×Nat->SortSt->Prop
 | mk:∀ (out:Array Keyed) (ia ib ac bc:Nat),Pm xs ys out ia ib->ia + 1 < xs.size->ib < ys.size->y + n<=ia + ib->HW st xs ys n y (none,out,ia,ib,ac,bc) st
inductive rj (st:SortSt)(xs ys:Array Keyed) (n:Nat):Option (Array Keyed)×Array Keyed×Nat×Nat×Nat×Nat->SortSt->Prop
 | dn:∀ (r out:Array Keyed) (ia ib ac bc:Nat),r.toList.Perm (xs.toList++ys.toList)->rj st xs ys n (some r,out,ia,ib,ac,bc) st
 | go:∀ (out:Array Keyed) (ia ib ac bc:Nat),Pm xs ys out ia ib->ia + 1 < xs.size->ib < ys.size->n + 1<=ia + ib->rj st xs ys n (none,out,ia,ib,ac,bc) st
inductive LF (st:SortSt)(xs ys:Array Keyed) (n:Nat):Option (Array Keyed)×Array Keyed×Nat×Nat×Nat×Nat×Nat->SortSt->Prop
 | mk:∀ (out:Array Keyed) (ia ib mg ac bc:Nat)(st':SortSt),lF st st'->Pm xs ys out ia ib->ia + 1 < xs.size->ib < ys.size->n<=ia + ib->LF st xs ys n (none,out,ia,ib,mg,ac,bc) st'
inductive m8 (st:SortSt)(xs ys:Array Keyed) (n:Nat):Option (Array Keyed)×Array Keyed×Nat×Nat×Nat×Nat×Nat->SortSt->Prop
 | dn:∀ (r out:Array Keyed) (ia ib mg ac bc:Nat)(st':SortSt),lF st st'->r.toList.Perm (xs.toList++ys.toList)->m8 st xs ys n (some r,out,ia,ib,mg,ac,bc) st'
 | go:∀ (out:Array Keyed) (ia ib mg ac bc:Nat)(st':SortSt),lF st st'->Pm xs ys out ia ib->ia + 1 < xs.size->ib < ys.size->n<=ia + ib->m8 st xs ys n (none,out,ia,ib,mg,ac,bc) st'
section
variable {prog:Program}{w:World}{A:Around}{E:VC}{s:Shared}{kd:SortKind}{P:Value->Prop}
def ez {M:Model}{U α:Type}{a b:Nat}{m1 m2:StateT U Sem α}{Q:α->U->Prop}{st:U}(h1:a=b->wpS M A E s m1 Q st)(h2:a≠b->wpS M A E s m2 Q st):wpS M A E s (if (a == b)=true then m1 else m2) Q st:=by
 by_cases e:a=b
 ·rw [if_pos (beq_iff_eq.mpr e)];exact h1 e
 ·rw [if_neg (fun z=>e (beq_iff_eq.mp z))]
  exact h2 e
def cE {M:Model}{U α:Type}{c:Prop} [Decidable c]{m1 m2:StateT U Sem α}{Q:α->U->Prop}{st:U}(h1:c->wpS M A E s m1 Q st)(h2:¬ c->wpS M A E s m2 Q st):wpS M A E s (if c then m1 else m2) Q st:=by
 by_cases e:c
 ·rw [if_pos e];exact h1 e
 ·rw [if_neg e];exact h2 e
def b6 {α:Type}{st:SortSt}{zs:Array Keyed}{i:Nat}{f:Keyed->StateT SortSt Sem α}{Q:α->SortSt->Prop}(hi:i < zs.size)(h:∀ p,zs[i]?=some p->wpS (model prog w) A E s (f p) Q st):wpS (model prog w) A E s (elem' zs i >>= f) Q st:=Q3 (kD hi h)
def yY {α:Type}{st:SortSt}{x y:Keyed}{f:Option Bool->StateT SortSt Sem α}{Q:α->SortSt->Prop}(L:jq prog w A s kd P)(hk:kindOf st=kd)(hx:P x.1)(hy:P y.1)(h:∀ b,wpS (model prog w) A E s (f (some b)) Q st):wpS (model prog w) A E s (lt' x y >>= f) Q st:=Q3 (ask L hk hx hy h)
def nv {α:Type}{st:SortSt}{left:Bool}{key:Keyed}{xs:Array Keyed}{base n hint:Nat}{f:Option Nat->StateT SortSt Sem α}{Q:α->SortSt->Prop}(L:jq prog w A s kd P)(hk:kindOf st=kd)(hy:P key.1)(G:Good P xs)(hn:base + n<=xs.size)(hh:hint < n)(h:∀ k,k<=n->wpS (model prog w) A E s (f (some k)) Q st):wpS (model prog w) A E s (uW left key xs base n hint >>= f) Q st:=Q3 (om L hk hy G hn hh h)
def NF {st:SortSt}{xs ys:Array Keyed}{Q:Array Keyed->SortSt->Prop}(L:jq prog w A s kd P)(hk:kindOf st=kd)(G1:Good P xs)(G2:Good P ys)(h1:1<=xs.size)(h2:1<=ys.size)(h:∀ zs st',lF st st'->zs.toList.Perm (xs.toList++ys.toList)->Q zs st') :
  wpS (model prog w) A E s (xW xs ys) Q st:=by
 unfold xW;refine Q3 (SD (Ra ⟨rfl,?_⟩));dsimp only;refine b6 (by lia) fun p hp=>?_
 have pm0:Pm xs ys #[p] 0 1:=by
  have:Pm xs ys #[] 0 0:=List.Perm.refl _;exact this.py hp
 have g0:lF st st:=⟨rfl,rfl,rfl,rfl⟩;refine ez (fun e1=>Q4 (h _ _ g0 pm0.done)) (fun e1=>?_)
 refine ez (fun e2=>Q4 (h _ _ g0 pm0.last)) (fun e2=>?_)
 refine Q3 (wpS_get ?_);refine Q3 (RA (RB (I:=K3 st xs ys) (Q:=BZ st xs ys) ?step ?fin (.mk _ _ _ _ _ g0 pm0 (by lia) (by lia) (by lia))) ?post)
 case post =>
  rintro _ st' ⟨r,out,ia,ib,mg,_,g,pr⟩;dsimp only;exact Q4 (h _ _ g pr)
 case fin =>
  rintro _ st' ⟨out,ia,ib,mg,_,_,_,a,b,c⟩;lia
 case step =>
  rintro x _ st' _ _ ⟨out,ia,ib,mg,_,g,pm,a1,b1,c1⟩;dsimp only;have hk':kindOf st'=kd:=g.1.trans hk;refine Q3 (RA (RB (I:=HW st' xs ys (ia + ib)) (Q:=rj st' xs ys (ia + ib)) ?step1 ?fin1 (.mk _ _ _ _ _ pm a1 b1 (by lia))) ?post1)
  case fin1 =>
   rintro _ _ ⟨out2,ia2,ib2,ac,bc,_,a,b,c⟩;lia
  case step1 =>
   rintro y _ _ _ _ ⟨out2,ia2,ib2,ac,bc,pm2,a2,b2,c2⟩;dsimp only;refine b6 (by lia) fun p1 hp1=>?_
   refine b6 (by lia) fun p2 hp2=>?_
   refine yY L hk' (G2 _ _ hp1) (G1 _ _ hp2) fun b=>?_
   dsimp only;cases b with
   | true =>
    rw [if_pos rfl];refine b6 (by lia) fun p3 hp3=>?_
    have pm3:=pm2.py hp3;refine ez (fun e3=>Q4 (rj.dn _ _ _ _ _ _ pm3.done)) (fun e3=>?_)
    refine cE (fun e4=>?_) (fun e4=>?_)
    ·exact Q4 (rj.go _ _ _ _ _ pm3 a2 (by lia) (by lia))
    ·exact Q4 (HW.mk _ _ _ _ _ pm3 a2 (by lia) (by lia))
   | false =>
    rw [if_neg Qu];refine b6 (by lia) fun p3 hp3=>?_
    have pm3:=pm2.px hp3;refine ez (fun e3=>Q4 (rj.dn _ _ _ _ _ _ pm3.last)) (fun e3=>?_)
    refine cE (fun e4=>?_) (fun e4=>?_)
    ·exact Q4 (rj.go _ _ _ _ _ pm3 (by lia) b2 (by lia))
    ·exact Q4 (HW.mk _ _ _ _ _ pm3 (by lia) b2 (by lia))
  case post1 =>
   rintro _ _ (⟨r,out2,ia2,ib2,ac,bc,pr⟩ | ⟨out2,ia2,ib2,ac,bc,pm2,a2,b2,c2⟩)
   ·exact Q4 (BZ.mk _ _ _ _ _ _ g pr)
   ·dsimp only;refine Q3 (SD (Ra ⟨rfl,?_⟩));refine Q3 (RA (RB (I:=fun _=>LF st xs ys (ia2 + ib2)) (Q:=m8 st xs ys (ia2 + ib2)) ?step2 (fun c st3 q=>by cases q;exact .go _ _ _ _ _ _ _ ‹_› ‹_› ‹_› ‹_› ‹_›) (.mk _ _ _ _ _ _ _ g pm2 a2 b2 (Q6 _))) ?post2)
    case step2 =>
     rintro y _ st3 _ _ ⟨out3,ia3,ib3,mg3,ac3,bc3,_,g3,pm3,a3,b3,c3⟩;dsimp only;have hk3:kindOf st3=kd:=g3.1.trans hk;refine cE (fun e5=>?b1) (fun e5=>?b2)
     generalize mg3 - 1=v;clear e5;revert v;refine ?key
     case b2=>exact ?key mg3
     intro v;refine Q3 (RV ?_);refine b6 (by lia) fun p1 hp1=>?_
     refine nv L hk3 (G2 _ _ hp1) G1 (by lia) (by lia) fun k hk1=>?_
     dsimp only;refine cE (fun k0=>?c1) (fun k0=>?c2)
     have pm4:=pm3.x k;refine ez (fun e6=>Q4 (m8.dn _ _ _ _ _ _ _ _ g3 pm4.last)) (fun e6=>?_)
     refine ez (fun e7=>Q4 (m8.dn _ _ _ _ _ _ _ _ g3 pm4.done)) (fun e7=>?_)
     generalize out3++xs.extract ia3 (ia3 + k)=o at pm4 ⊢;have n1:ia3 + k + 1 < xs.size:=by lia
     have n0:ia3<=ia3 + k:=by lia
     revert n0 n1 pm4;clear e6 e7 k0;generalize ia3 + k=n;clear hk1;generalize k=d;revert o n d;refine ?key2
     case c2=>exact ?key2 out3 ia3 k pm3 a3 (Q6 _)
     intro o n d pm4 n1 n0;refine b6 (by lia) fun p2 hp2=>?_
     have pm5:=pm4.py hp2;refine ez (fun e8=>Q4 (m8.dn _ _ _ _ _ _ _ _ g3 pm5.done)) (fun e8=>?_)
     refine b6 (by lia) fun p3 hp3=>?_
     refine nv L hk3 (G1 _ _ hp3) G2 (by lia) (by lia) fun k2 hk2=>?_
     dsimp only;refine cE (fun k20=>?d1) (fun k20=>?d2)
     have pm6:=pm5.y k2;refine ez (fun e9=>Q4 (m8.dn _ _ _ _ _ _ _ _ g3 pm6.done)) (fun e9=>?_)
     generalize o.push _++ys.extract (ib3 + 1) (ib3 + 1 + k2)=o2 at pm6 ⊢;have m1:ib3 + 1 + k2 < ys.size:=by lia
     have m0:ib3 + 1<=ib3 + 1 + k2:=by lia
     revert m0 m1 pm6;clear e9 k20;generalize ib3 + 1 + k2=m;clear hk2;generalize k2=d2;revert o2 m d2;refine ?key3
     case d2=>exact ?key3 _ _ _ pm5 (by lia) (Q6 _)
     intro o2 m d2 pm6 m1 m0;refine b6 (by lia) fun p4 hp4=>?_
     have pm7:=pm6.px hp4;refine ez (fun e10=>Q4 (m8.dn _ _ _ _ _ _ _ _ g3 pm7.last)) (fun e10=>?_)
     refine cE (fun _=>?_) (fun _=>?_)
     ·exact Q4 (m8.go _ _ _ _ _ _ _ g3 pm7 (by lia) (by lia) (by lia))
     ·exact Q4 (LF.mk _ _ _ _ _ _ _ g3 pm7 (by lia) (by lia) (by lia))
    case post2 =>
     rintro _ st3 (⟨r,out3,ia3,ib3,mg3,ac3,bc3,_,g3,pr⟩ | ⟨out3,ia3,ib3,mg3,ac3,bc3,_,g3,pm3,a3,b3,c3⟩)
     ·exact Q4 (BZ.mk _ _ _ _ _ _ g3 pr)
     ·dsimp only;refine Q3 (RV ?_);exact Q4 (K3.mk _ _ _ _ _ g3 pm3 a3 b3 (by lia))
end
def Pr (xs ys out:Array Keyed) (na nb:Nat):Prop:=out.toList.Perm (xs.toList.drop na++ys.toList.drop nb)
section
variable {xs ys out:Array Keyed}{na nb k:Nat}
def jD (zs:Array Keyed){i n:Nat}(h:i<=n):zs.toList.drop i=(zs.extract i n).toList++zs.toList.drop n:=by
 obtain ⟨d,rfl⟩:=Nat.exists_eq_add_of_le h;rw [Uu,Uv,Tw,<- List.drop_drop];exact (TH d _).symm
def Pr.x (h:Pr xs ys out na nb)(hk:k<=na):Pr xs ys (out++(xs.extract k na).reverse) k nb:=by
 unfold Pr at *;rw [RP,jD xs hk,Uw,Qs];refine (h.append_right _).trans ?_;refine SG.trans ?_;exact Tv _ (Ux _)
def Pr.y (h:Pr xs ys out na nb)(hk:k<=nb):Pr xs ys (out++(ys.extract k nb).reverse) na k:=by
 unfold Pr at *;rw [RP,jD ys hk,Uw];refine (h.append_right _).trans ?_;rw [Qs];refine Ru _ ?_;refine SG.trans ?_;exact Tv _ (Ux _)
def zg {zs out:Array Keyed}{i:Nat}(h1:1<=i)(hp:zs[i - 1]?=some p):out.push p=out++(zs.extract (i - 1) i).reverse:=by
 have e:=rR (out:=#[]) hp;rw [show i - 1 + 1=i by lia] at e
 have e2:zs.extract (i - 1) i=#[p]:=by
  rw [Array.empty_append] at e;exact e.symm
 rw [e2];rfl
def Pr.px {p:Keyed}(h:Pr xs ys out na nb)(h1:1<=na)(hp:xs[na - 1]?=some p):Pr xs ys (out.push p) (na - 1) nb:=by
 rw [zg h1 hp];exact h.x (by lia)
def Pr.py {p:Keyed}(h:Pr xs ys out na nb)(h1:1<=nb)(hp:ys[nb - 1]?=some p):Pr xs ys (out.push p) na (nb - 1):=by
 rw [zg h1 hp];exact h.y (by lia)
def Pr.done (h:Pr xs ys out na nb):(xs.extract 0 na++ys.extract 0 nb++out.reverse).toList.Perm (xs.toList++ys.toList):=by
 unfold Pr at h;have e1:=jD xs (Qw na);have e2:=jD ys (Qw nb);rw [UW] at e1 e2;rw [RP,RP,Uw]
 conv=>rhs;rw [e1,e2]
 rw [Qs,Qs];refine Ru _ ?_;refine (Ru _ ((Ux _).trans h)).trans ?_;rw [<- Qs,<- Qs];exact Tv _ SG
def Pr.first (h:Pr xs ys out na nb):(ys.extract 0 nb++xs.extract 0 na++out.reverse).toList.Perm (xs.toList++ys.toList):=by
 refine List.Perm.trans ?_ h.done;rw [RP,RP,RP,RP];exact Tv _ SG
end
inductive LK (st:SortSt)(xs ys:Array Keyed) (x:Nat):Option (Array Keyed)×Nat×Nat×Array Keyed×Nat->SortSt->Prop
 | mk:∀ (na nb:Nat)(out:Array Keyed) (mg:Nat)(st':SortSt),lF st st'->Pr xs ys out na nb->1<=na->2<=nb->na<=xs.size->nb<=ys.size->na + nb + x + 1<=xs.size + ys.size->LK st xs ys x (none,na,nb,out,mg) st'
inductive BV (st:SortSt)(xs ys:Array Keyed):Option (Array Keyed)×Nat×Nat×Array Keyed×Nat->SortSt->Prop
 | mk:∀ (r:Array Keyed) (na nb:Nat)(out:Array Keyed) (mg:Nat)(st':SortSt),lF st st'->r.toList.Perm (xs.toList++ys.toList)->BV st xs ys (some r,na,nb,out,mg) st'
inductive Ih (st:SortSt)(xs ys:Array Keyed) (n y:Nat):Option (Array Keyed)×Nat×Nat×Array Keyed×Nat×Nat->SortSt->Prop
 | mk:∀ (na nb:Nat)(out:Array Keyed) (ac bc:Nat),Pr xs ys out na nb->1<=na->2<=nb->na<=xs.size->nb<=ys.size->na + nb + y<=n->Ih st xs ys n y (none,na,nb,out,ac,bc) st
inductive qY (st:SortSt)(xs ys:Array Keyed) (n:Nat):Option (Array Keyed)×Nat×Nat×Array Keyed×Nat×Nat->SortSt->Prop
 | dn:∀ (r:Array Keyed) (na nb:Nat)(out:Array Keyed) (ac bc:Nat),r.toList.Perm (xs.toList++ys.toList)->qY st xs ys n (some r,na,nb,out,ac,bc) st
 | go:∀ (na nb:Nat)(out:Array Keyed) (ac bc:Nat),Pr xs ys out na nb->1<=na->2<=nb->na<=xs.size->nb<=ys.size->na + nb + 1<=n->qY st xs ys n (none,na,nb,out,ac,bc) st
inductive Mb (st:SortSt)(xs ys:Array Keyed) (n:Nat):Option (Array Keyed)×Nat×Nat×Array Keyed×Nat×Nat×Nat->SortSt->Prop
 | mk:∀ (na nb:Nat)(out:Array Keyed) (mg ac bc:Nat)(st':SortSt),lF st st'->Pr xs ys out na nb->1<=na->2<=nb->na<=xs.size->nb<=ys.size->na + nb<=n->Mb st xs ys n (none,na,nb,out,mg,ac,bc) st'
inductive nK (st:SortSt)(xs ys:Array Keyed) (n:Nat):Option (Array Keyed)×Nat×Nat×Array Keyed×Nat×Nat×Nat->SortSt->Prop
 | dn:∀ (r:Array Keyed) (na nb:Nat)(out:Array Keyed) (mg ac bc:Nat)(st':SortSt),lF st st'->r.toList.Perm (xs.toList++ys.toList)->nK st xs ys n (some r,na,nb,out,mg,ac,bc) st'
 | go:∀ (na nb:Nat)(out:Array Keyed) (mg ac bc:Nat)(st':SortSt),lF st st'->Pr xs ys out na nb->1<=na->2<=nb->na<=xs.size->nb<=ys.size->na + nb<=n->nK st xs ys n (none,na,nb,out,mg,ac,bc) st'
section
variable {prog:Program}{w:World}{A:Around}{E:VC}{s:Shared}{kd:SortKind}{P:Value->Prop}
def NN {st:SortSt}(L:jq prog w A s kd P)(hk:kindOf st=kd)(G1:Good P xs)(G2:Good P ys)(h1:1<=xs.size)(h2:1<=ys.size)(h:∀ zs st',lF st st'->zs.toList.Perm (xs.toList++ys.toList)->Q zs st') :
  wpS (model prog w) A E s (xG xs ys) Q st:=by
 unfold xG;refine Q3 (SD (Ra ⟨rfl,?_⟩));dsimp only;refine b6 (by lia) fun p hp=>?_
 have pm0:Pr xs ys #[p] (xs.size - 1) ys.size:=by
  have z:Pr xs ys #[] xs.size ys.size:=by
   unfold Pr;rw [UX (by simp),UX (by simp)]
   exact List.Perm.refl _
  exact z.px h1 hp
 have g0:lF st st:=⟨rfl,rfl,rfl,rfl⟩;refine ez (fun e1=>Q4 (h _ _ g0 pm0.done)) (fun e1=>?_)
 refine ez (fun e2=>Q4 (h _ _ g0 pm0.first)) (fun e2=>?_)
 refine Q3 (wpS_get ?_);refine Q3 (RA (RB (I:=LK st xs ys) (Q:=BV st xs ys) ?step ?fin (.mk _ _ _ _ _ g0 pm0 (by lia) (by lia) (by lia) (by lia) (by lia))) ?post)
 case post =>
  rintro _ st' ⟨r,na,nb,out,mg,_,g,pr⟩;dsimp only;exact Q4 (h _ _ g pr)
 case fin =>
  rintro _ st' ⟨na,nb,out,mg,_,_,_,a,b,c,d,e⟩;lia
 case step =>
  rintro x _ st' _ _ ⟨na,nb,out,mg,_,g,pm,a1,b1,c1,d1,f1⟩;dsimp only;have hk':kindOf st'=kd:=g.1.trans hk;refine Q3 (RA (RB (I:=Ih st' xs ys (na + nb)) (Q:=qY st' xs ys (na + nb)) ?step1 ?fin1 (.mk _ _ _ _ _ pm a1 b1 c1 d1 (by lia))) ?post1)
  case fin1 =>
   rintro _ _ ⟨na2,nV,out2,ac,bc,_,a,b,c,d,e⟩;lia
  case step1 =>
   rintro y _ _ _ _ ⟨na2,nV,out2,ac,bc,pm2,a2,b2,c2,d2,f2⟩;dsimp only;refine b6 (by lia) fun p1 hp1=>?_
   refine b6 (by lia) fun p2 hp2=>?_
   refine yY L hk' (G2 _ _ hp1) (G1 _ _ hp2) fun b=>?_
   dsimp only;cases b with
   | true =>
    rw [if_pos rfl];refine b6 (by lia) fun p3 hp3=>?_
    have pm3:=pm2.px (by lia) hp3
    refine ez (fun e3=>Q4 (qY.dn _ _ _ _ _ _ pm3.done)) (fun e3=>?_)
    refine cE (fun e4=>?_) (fun e4=>?_)
    ·exact Q4 (qY.go _ _ _ _ _ pm3 (by lia) (by lia) (by lia) (by lia) (by lia))
    ·exact Q4 (Ih.mk _ _ _ _ _ pm3 (by lia) (by lia) (by lia) (by lia) (by lia))
   | false =>
    rw [if_neg Qu];refine b6 (by lia) fun p3 hp3=>?_
    have pm3:=pm2.py (by lia) hp3
    refine ez (fun e3=>Q4 (qY.dn _ _ _ _ _ _ pm3.first)) (fun e3=>?_)
    refine cE (fun e4=>?_) (fun e4=>?_)
    ·exact Q4 (qY.go _ _ _ _ _ pm3 (by lia) (by lia) (by lia) (by lia) (by lia))
    ·exact Q4 (Ih.mk _ _ _ _ _ pm3 (by lia) (by lia) (by lia) (by lia) (by lia))
  case post1 =>
   rintro _ _ (⟨r,na2,nV,out2,ac,bc,pr⟩ | ⟨na2,nV,out2,ac,bc,pm2,a2,b2,c2,d2,f2⟩)
   ·exact Q4 (BV.mk _ _ _ _ _ _ g pr)
   ·dsimp only;refine Q3 (SD (Ra ⟨rfl,?_⟩));refine Q3 (RA (RB (I:=fun _=>Mb st xs ys (na2 + nV)) (Q:=nK st xs ys (na2 + nV)) ?step2 (fun c st3 q=>by cases q;exact .go _ _ _ _ _ _ _ ‹_› ‹_› ‹_› ‹_› ‹_› ‹_› ‹_›) (.mk _ _ _ _ _ _ _ g pm2 a2 b2 c2 d2 (Q6 _))) ?post2)
    case step2 =>
     rintro y _ st3 _ _ ⟨na3,nb3,out3,mg3,ac3,bc3,_,g3,pm3,a3,b3,c3,d3,f3⟩;dsimp only;have hk3:kindOf st3=kd:=g3.1.trans hk;refine cE (fun e5=>?b1) (fun e5=>?b2)
     generalize mg3 - 1=v;clear e5;revert v;refine ?key
     case b2=>exact ?key mg3
     intro v;refine Q3 (RV ?_);refine b6 (by lia) fun p1 hp1=>?_
     refine nv L hk3 (G2 _ _ hp1) G1 (by lia) (by lia) fun k hk1=>?_
     dsimp only;refine cE (fun k0=>?c1) (fun k0=>?c2)
     have pm4:=pm3.x hk1;refine ez (fun e7=>Q4 (nK.dn _ _ _ _ _ _ _ _ g3 pm4.done)) (fun e7=>?_)
     generalize out3++(xs.extract k na3).reverse=o at pm4 ⊢;generalize na3 - k=d;have n1:1<=k:=by lia
     revert n1 pm4;clear e7 k0;revert hk1;generalize k=n;revert d o n;refine ?key2
     case c2=>exact ?key2 out3 (na3 - k) na3 (Q6 _) pm3 (by lia)
     intro o d n hk1 pm4 n1;refine b6 (by lia) fun p2 hp2=>?_
     have pm5:=pm4.py (by lia) hp2
     refine ez (fun e8=>Q4 (nK.dn _ _ _ _ _ _ _ _ g3 pm5.first)) (fun e8=>?_)
     refine b6 (by lia) fun p3 hp3=>?_
     refine nv L hk3 (G1 _ _ hp3) G2 (by lia) (by lia) fun k2 hk2=>?_
     dsimp only;refine cE (fun k20=>?d1) (fun k20=>?d2)
     have pm6:=pm5.y hk2;refine ez (fun e9=>Q4 (nK.dn _ _ _ _ _ _ _ _ g3 pm6.first)) (fun e9=>?_)
     refine ez (fun e9'=>Q4 (nK.dn _ _ _ _ _ _ _ _ g3 pm6.done)) (fun e9'=>?_)
     have n2:2<=k2:=by lia
     revert n2 pm6;generalize o.push _++(ys.extract k2 (nb3 - 1)).reverse=o2;generalize nb3 - 1 - k2=d2;clear e9 e9' k20;revert hk2;generalize k2=m;revert d2 o2 m;refine ?key3
     case d2=>exact ?key3 _ _ _ (Q6 _) pm5 (by lia)
     intro o2 d2 m hm pm6 n2;refine b6 (by lia) fun p4 hp4=>?_
     have pm7:=pm6.px (by lia) hp4
     refine ez (fun e10=>Q4 (nK.dn _ _ _ _ _ _ _ _ g3 pm7.done)) (fun e10=>?_)
     refine cE (fun _=>?_) (fun _=>?_)
     ·exact Q4 (nK.go _ _ _ _ _ _ _ g3 pm7 (by lia) (by lia) (by lia) (by lia) (by lia))
     ·exact Q4 (Mb.mk _ _ _ _ _ _ _ g3 pm7 (by lia) (by lia) (by lia) (by lia) (by lia))
    case post2 =>
     rintro _ st3 (⟨r,na3,nb3,out3,mg3,ac3,bc3,_,g3,pr⟩ | ⟨na3,nb3,out3,mg3,ac3,bc3,_,g3,pm3,a3,b3,c3,d3,f3⟩)
     ·exact Q4 (BV.mk _ _ _ _ _ _ g3 pr)
     ·dsimp only;refine Q3 (RV ?_);exact Q4 (LK.mk _ _ _ _ _ g3 pm3 a3 b3 c3 d3 (by lia))
end
structure SB (kd:SortKind)(xs0:Array Keyed)(st:SortSt):Prop where
 perm:(arrOf st).Perm xs0
 kind:kindOf st=kd
 ok:failedOf st=none
theorem SB.size {kd:SortKind}{st:SortSt}(B:SB kd xs0 st):(arrOf st).size=xs0.size:=B.perm.size_eq
def Good.perm (G:Good P ys)(p:xs.Perm ys):Good P xs:=fun i q h=>by
 have m:q∈xs.toList:=QX (by rw [RC];exact h)
 have m2:q∈ys.toList:=(Uy.mp p).mem_iff.mp m;obtain ⟨j,hj⟩:=Rt m2;rw [RC] at hj;exact G j q hj
section
variable {prog:Program}{w:World}{A:Around}{E:VC}{s:Shared}{kd:SortKind}{P:Value->Prop}{xs0:Array Keyed}
def gk {st:SortSt}{i j:Nat}(L:jq prog w A s kd P)(G:Good P xs0)(B:SB kd xs0 st)(hi:i < xs0.size)(hj:j < xs0.size)(h:∀ b,Q (some b) st):wpS (model prog w) A E s (ltAt' i j) Q st:=by
 rw [ltAt'_eq];refine Q3 (wpS_get ?_);have G':=G.perm B.perm;refine Q3 (kD (by rw [B.size];exact hi) fun p hp=>?_)
 refine Q3 (kD (by rw [B.size];exact hj) fun q hq=>?_)
 exact ask L B.kind (G' _ _ hp) (G' _ _ hq) h
def iR {st:SortSt}{i j:Nat}(B:SB kd xs0 st)(h:∀ st',SB kd xs0 st'->pendingOf st'=pendingOf st->Q () st'):wpS (model prog w) A E s (reverseSlice' i j) Q st:=by
 rw [reverseSlice'_eq];exact RV (h _ ⟨(mirror_perm _ _ _ _).trans B.perm,B.kind,B.ok⟩ rfl)
def GI {st:SortSt}{lo nrem:Nat}(L:jq prog w A s kd P)(G:Good P xs0)(B:SB kd xs0 st)(h1:1<=nrem)(hn:lo + nrem<=xs0.size)(h:∀ m st',SB kd xs0 st'->pendingOf st'=pendingOf st->1<=m->m<=nrem->Q (some m) st') :
  wpS (model prog w) A E s (countRun' lo nrem) Q st:=by
 unfold countRun';refine Q3 (RA (RB (I:=fun x c st'=>st'=st/\c.1=none/\c.2=x) (Q:=fun c st'=>st'=st/\c.1=none/\1<=c.2/\c.2<=nrem) ?step ?fin ⟨rfl,rfl,rfl⟩) ?post)
 case step =>
  rintro x ⟨o,n⟩ st' a b ⟨rfl,rfl,rfl⟩;dsimp only;refine Q3 (gk L G B (by dsimp only at a b;lia) (by dsimp only at a b;lia) fun c=>?_)
  dsimp only;refine cE (fun _=>Q4 ⟨rfl,rfl,by dsimp only at a b ⊢;lia,by dsimp only at a b ⊢;lia⟩) (fun _=>Q4 ⟨rfl,rfl,rfl⟩)
 case fin =>
  rintro ⟨o,n⟩ st' ⟨rfl,rfl,e⟩;dsimp only at e;exact ⟨rfl,rfl,by dsimp only;lia,by dsimp only;lia⟩
 case post =>
  rintro ⟨o,n⟩ st' ⟨rfl,rfl,n1,n2⟩;dsimp only at n1 n2 ⊢;refine ez (fun e=>Q4 (h _ _ B rfl n1 n2)) (fun e=>?_)
  refine cE (fun n0=>?_) (fun n0=>?_)
  ·refine Q3 (gk L G B (by lia) (by lia) fun c=>?_)
   dsimp only;refine cE (fun _=>Q4 (h _ _ B rfl n1 n2)) (fun _=>?_)
   refine Q3 (iR B fun st6 B6 p6=>?_)
   refine Q3 (SD (Ra ⟨rfl,?_⟩));refine Q3 (RA (RB (I:=fun x c st2=>SB kd xs0 st2/\pendingOf st2=pendingOf st'/\c.1=none/\c.2.1=x) (Q:=fun c st2=>SB kd xs0 st2/\pendingOf st2=pendingOf st'/\c.1=none/\1<=c.2.1/\c.2.1<=nrem) ?step1 ?fin1 ⟨B6,p6,rfl,rfl⟩) ?post1)
   case step1 =>
    rintro x ⟨o,m,q⟩ st2 a b ⟨B2,p2,rfl,rfl⟩;dsimp only at a b ⊢;refine Q3 (gk L G B2 (by lia) (by lia) fun c=>?_)
    dsimp only;refine cE (fun _=>?_) (fun _=>?_)
    ·refine cE (fun _=>?_) (fun _=>?_)
     ·exact Q3 (iR B2 fun st3 B3 p3=>Q4 ⟨B3,p3.trans p2,rfl,rfl⟩)
     ·exact Q4 ⟨B2,p2,rfl,rfl⟩
    ·refine Q3 (gk L G B2 (by lia) (by lia) fun c2=>?_)
     dsimp only;refine cE (fun _=>?_) (fun _=>?_)
     ·exact Q4 ⟨B2,p2,rfl,by dsimp only;lia,by dsimp only;lia⟩
     ·exact Q4 ⟨B2,p2,rfl,rfl⟩
   case fin1 =>
    rintro ⟨o,m,q⟩ st2 ⟨B2,p2,rfl,e2⟩;dsimp only at e2;exact ⟨B2,p2,rfl,by dsimp only;lia,by dsimp only;lia⟩
   case post1 =>
    rintro ⟨o,m,q⟩ st2 ⟨B2,p2,rfl,m1,m2⟩;dsimp only at m1 m2 ⊢;refine cE (fun _=>?_) (fun _=>?_)
    ·refine Q3 (iR B2 fun st3 B3 p3=>?_)
     refine Q3 (iR B3 fun st4 B4 p4=>?_)
     refine Q3 (RA (RB (I:=fun x c st5=>st5=st4/\c.1=none/\c.2=x) (Q:=fun c st5=>st5=st4/\c.1=none/\1<=c.2/\c.2<=nrem) ?stepL2 ?finL2 ⟨rfl,rfl,rfl⟩) ?postL2)
     case stepL2 =>
      rintro x ⟨o,m⟩ st5 a b ⟨rfl,rfl,rfl⟩;dsimp only at a b ⊢;refine Q3 (gk L G B4 (by lia) (by lia) fun c=>?_)
      dsimp only;refine cE (fun _=>Q4 ⟨rfl,rfl,by dsimp only;lia,by dsimp only;lia⟩) (fun _=>Q4 ⟨rfl,rfl,rfl⟩)
     case finL2 =>
      rintro ⟨o,m⟩ st5 ⟨rfl,rfl,e2⟩;dsimp only at e2;exact ⟨rfl,rfl,by dsimp only;lia,by dsimp only;lia⟩
     case postL2 =>
      rintro ⟨o,m⟩ st5 ⟨rfl,rfl,k1,k2⟩;dsimp only at k1 k2 ⊢;exact Q4 (h _ _ B4 (p4.trans (p3.trans p2)) k1 k2)
    ·refine Q3 (iR B2 fun st4 B4 p4=>?_)
     refine Q3 (RA (RB (I:=fun x c st5=>st5=st4/\c.1=none/\c.2=x) (Q:=fun c st5=>st5=st4/\c.1=none/\1<=c.2/\c.2<=nrem) ?stepL3 ?finL3 ⟨rfl,rfl,rfl⟩) ?postL3)
     case stepL3 =>
      rintro x ⟨o,m⟩ st5 a b ⟨rfl,rfl,rfl⟩;dsimp only at a b ⊢;refine Q3 (gk L G B4 (by lia) (by lia) fun c=>?_)
      dsimp only;refine cE (fun _=>Q4 ⟨rfl,rfl,by dsimp only;lia,by dsimp only;lia⟩) (fun _=>Q4 ⟨rfl,rfl,rfl⟩)
     case finL3 =>
      rintro ⟨o,m⟩ st5 ⟨rfl,rfl,e2⟩;dsimp only at e2;exact ⟨rfl,rfl,by dsimp only;lia,by dsimp only;lia⟩
     case postL3 =>
      rintro ⟨o,m⟩ st5 ⟨rfl,rfl,k1,k2⟩;dsimp only at k1 k2 ⊢;exact Q4 (h _ _ B4 (p4.trans p2) k1 k2)
  ·have p6:pendingOf st'=pendingOf st':=rfl;refine Q3 (SD (Ra ⟨rfl,?_⟩));refine Q3 (RA (RB (I:=fun x c st2=>SB kd xs0 st2/\pendingOf st2=pendingOf st'/\c.1=none/\c.2.1=x) (Q:=fun c st2=>SB kd xs0 st2/\pendingOf st2=pendingOf st'/\c.1=none/\1<=c.2.1/\c.2.1<=nrem) ?step4 ?fin4 ⟨B,p6,rfl,rfl⟩) ?post4)
   case step4 =>
    rintro x ⟨o,m,q⟩ st2 a b ⟨B2,p2,rfl,rfl⟩;dsimp only at a b ⊢;refine Q3 (gk L G B2 (by lia) (by lia) fun c=>?_)
    dsimp only;refine cE (fun _=>?_) (fun _=>?_)
    ·refine cE (fun _=>?_) (fun _=>?_)
     ·exact Q3 (iR B2 fun st3 B3 p3=>Q4 ⟨B3,p3.trans p2,rfl,rfl⟩)
     ·exact Q4 ⟨B2,p2,rfl,rfl⟩
    ·refine Q3 (gk L G B2 (by lia) (by lia) fun c2=>?_)
     dsimp only;refine cE (fun _=>?_) (fun _=>?_)
     ·exact Q4 ⟨B2,p2,rfl,by dsimp only;lia,by dsimp only;lia⟩
     ·exact Q4 ⟨B2,p2,rfl,rfl⟩
   case fin4 =>
    rintro ⟨o,m,q⟩ st2 ⟨B2,p2,rfl,e2⟩;dsimp only at e2;exact ⟨B2,p2,rfl,by dsimp only;lia,by dsimp only;lia⟩
   case post4 =>
    rintro ⟨o,m,q⟩ st2 ⟨B2,p2,rfl,m1,m2⟩;dsimp only at m1 m2 ⊢;refine cE (fun _=>?_) (fun _=>?_)
    ·refine Q3 (iR B2 fun st3 B3 p3=>?_)
     refine Q3 (iR B3 fun st4 B4 p4=>?_)
     refine Q3 (RA (RB (I:=fun x c st5=>st5=st4/\c.1=none/\c.2=x) (Q:=fun c st5=>st5=st4/\c.1=none/\1<=c.2/\c.2<=nrem) ?stepL5 ?finL5 ⟨rfl,rfl,rfl⟩) ?postL5)
     case stepL5 =>
      rintro x ⟨o,m⟩ st5 a b ⟨rfl,rfl,rfl⟩;dsimp only at a b ⊢;refine Q3 (gk L G B4 (by lia) (by lia) fun c=>?_)
      dsimp only;refine cE (fun _=>Q4 ⟨rfl,rfl,by dsimp only;lia,by dsimp only;lia⟩) (fun _=>Q4 ⟨rfl,rfl,rfl⟩)
     case finL5 =>
      rintro ⟨o,m⟩ st5 ⟨rfl,rfl,e2⟩;dsimp only at e2;exact ⟨rfl,rfl,by dsimp only;lia,by dsimp only;lia⟩
     case postL5 =>
      rintro ⟨o,m⟩ st5 ⟨rfl,rfl,k1,k2⟩;dsimp only at k1 k2 ⊢;exact Q4 (h _ _ B4 (p4.trans (p3.trans p2)) k1 k2)
    ·refine Q3 (iR B2 fun st4 B4 p4=>?_)
     refine Q3 (RA (RB (I:=fun x c st5=>st5=st4/\c.1=none/\c.2=x) (Q:=fun c st5=>st5=st4/\c.1=none/\1<=c.2/\c.2<=nrem) ?stepL6 ?finL6 ⟨rfl,rfl,rfl⟩) ?postL6)
     case stepL6 =>
      rintro x ⟨o,m⟩ st5 a b ⟨rfl,rfl,rfl⟩;dsimp only at a b ⊢;refine Q3 (gk L G B4 (by lia) (by lia) fun c=>?_)
      dsimp only;refine cE (fun _=>Q4 ⟨rfl,rfl,by dsimp only;lia,by dsimp only;lia⟩) (fun _=>Q4 ⟨rfl,rfl,rfl⟩)
     case finL6 =>
      rintro ⟨o,m⟩ st5 ⟨rfl,rfl,e2⟩;dsimp only at e2;exact ⟨rfl,rfl,by dsimp only;lia,by dsimp only;lia⟩
     case postL6 =>
      rintro ⟨o,m⟩ st5 ⟨rfl,rfl,k1,k2⟩;dsimp only at k1 k2 ⊢;exact Q4 (h _ _ B4 (p4.trans p2) k1 k2)
def Lb {st:SortSt}{lo n k:Nat}(L:jq prog w A s kd P)(G:Good P xs0)(B:SB kd xs0 st)(hn:lo + n<=xs0.size)(h:∀ st',SB kd xs0 st'->pendingOf st'=pendingOf st->Q true st') :
  wpS (model prog w) A E s (binarySort' lo n k) Q st:=by
 unfold binarySort';refine Q3 (RA (RB (I:=fun x c st'=>SB kd xs0 st'/\pendingOf st'=pendingOf st/\c.1=none) (Q:=fun c st'=>SB kd xs0 st'/\pendingOf st'=pendingOf st/\c.1=none) ?step (fun _ _ q=>q) ⟨B,rfl,rfl⟩) ?post)
 case post =>
  rintro ⟨o,u⟩ st' ⟨B1,p1,rfl⟩;exact Q4 (h _ B1 p1)
 case step =>
  rintro x ⟨o,u⟩ st' a b ⟨B1,p1,rfl⟩;dsimp only;refine Q3 (RA (RB (I:=fun y c st2=>st2=st'/\c.1=none/\c.2.2<=x) (Q:=fun c st2=>st2=st'/\c.1=none/\c.2.2<=x) ?step1 (fun _ _ q=>q) ⟨rfl,rfl,Q6 _⟩) ?post1)
  case step1 =>
   rintro y ⟨o,l,r⟩ st2 _ _ ⟨rfl,rfl,le⟩;dsimp only at le ⊢;refine cE (fun _=>Q4 ⟨rfl,rfl,le⟩) (fun lr=>?_)
   refine Q3 (gk L G B1 (by lia) (by lia) fun c=>?_)
   dsimp only;refine cE (fun _=>Q4 ⟨rfl,rfl,by dsimp only;lia⟩) (fun _=>Q4 ⟨rfl,rfl,le⟩)
  case post1 =>
   rintro ⟨o,l,r⟩ st2 ⟨rfl,rfl,le⟩;dsimp only;refine Q3 (RV ?_);exact Q4 ⟨⟨(bubble_perm _ _ _).trans B1.perm,B1.kind,B1.ok⟩,p1,rfl⟩
end
theorem x8 (sa:Nat):∀ (l:List Keyed) (i:Nat)(a:Array Keyed),sa + i + l.length<=a.size->((l.zipIdx i).foldl (fun a (x:Keyed×Nat)=>a.setIfInBounds (sa + x.2) x.1) a).toList=a.toList.take (sa + i)++(l++a.toList.drop (sa + i + l.length))
 | [],i,a,h=>by simp
 | p::r,i,a,h=>by
  have hl:(p::r).length=r.length + 1:=rfl;rw [hl] at h;rw [List.zipIdx_cons,Td,x8 sa r (i + 1) _ (by rw [Array.size_setIfInBounds];lia)]
  rw [Array.toList_setIfInBounds];have lt:sa + i < a.toList.length:=by simp;lia
  have e1:(a.toList.set (sa + i) p).take (sa + (i + 1))=a.toList.take (sa + i)++[p]:=by
   rw [show sa + (i + 1)=sa + i + 1 by lia,List.take_succ,List.take_set_of_le (Q6 _),TX lt]
   rfl
  have e2:(a.toList.set (sa + i) p).drop (sa + (i + 1) + r.length)=a.toList.drop (sa + i + (p::r).length):=by
   rw [List.drop_set_of_lt (by lia),hl]
   congr 1;lia
  rw [e1,e2];simp
def seg (a:Array Keyed){i j k:Nat}(h1:i<=j)(h2:j<=k):a.toList=a.toList.take i++((a.extract i j).toList++((a.extract j k).toList++a.toList.drop k)):=by
 have e1:=jD a h1;have e2:=jD a h2;rw [<- e2,<- e1,TH]
section
variable {prog:Program}{w:World}{A:Around}{E:VC}{s:Shared}{kd:SortKind}{P:Value->Prop}{xs0:Array Keyed}
theorem Good.extract (G:Good P xs) (i j:Nat):Good P (xs.extract i j):=fun k p h=>by
 rw [Um] at h;split at h
 ·exact G _ _ h
 ·cases h
def G0 {st:SortSt}{i sa na pw sb nb pb:Nat}(L:jq prog w A s kd P)(G:Good P xs0)(B:SB kd xs0 st)(e1:(pendingOf st)[i]?=some (sa,na,pw))(e2:(pendingOf st)[i + 1]?=some (sb,nb,pb))(c:sb=sa + na)(n1:1<=na)(n2:1<=nb)(le:sb + nb<=xs0.size)
  (h:∀ st',SB kd xs0 st'->pendingOf st'=((pendingOf st).setIfInBounds i (sa,na + nb,pw)).eraseIdxIfInBounds (i + 1)->Q true st'):wpS (model prog w) A E s (mergeAt' i) Q st:=by
 have G':=G.perm B.perm;have sz:=B.size;unfold mergeAt';refine Q3 (wpS_get ?_);dsimp only;rw [e1,e2];dsimp only;refine Q3 (?_:wpS _ _ _ _ (set _) _ _);unfold wpS;rw [StateT.run_set];refine Q5 ⟨rfl,?_⟩;refine Q3 (kD (by rw [sz];lia) fun p hp=>?_)
 have B1:SB kd xs0 (SortSt.mk' (kindOf st) (arrOf st) (((pendingOf st).setIfInBounds i (sa,na + nb,pw)).eraseIdxIfInBounds (i + 1)) (gallopOf st) (failedOf st)):=⟨B.perm,B.kind,B.ok⟩;refine Q3 (om L B.kind (G' _ _ hp) G' (show sa + na<=(arrOf st).size by lia) (by lia) fun k hk=>?_)
 dsimp only;refine ez (fun _=>Q4 (h _ B1 rfl)) (fun e3=>?_)
 refine Q3 (kD (show sa + k + (na - k) - 1 < (arrOf st).size by lia) fun p2 hp2=>?_)
 refine Q3 (om L B.kind (G' _ _ hp2) G' (show sb + nb<=(arrOf st).size by lia) (by lia) fun k2 hk2=>?_)
 dsimp only;refine ez (fun _=>Q4 (h _ B1 rfl)) (fun e4=>?_)
 have x1:((arrOf st).extract (sa + k) sb).size=sb - (sa + k):=by
  rw [Ti];lia
 have x2:((arrOf st).extract sb (sb + k2)).size=k2:=by
  rw [Ti];lia
 have fin:∀ zs:Array Keyed,zs.toList.Perm (((arrOf st).extract (sa + k) sb).toList++((arrOf st).extract sb (sb + k2)).toList)->(zs.toList.zipIdx.foldl (fun a (x:Keyed×Nat)=>a.setIfInBounds (sa + k + x.2) x.1) (arrOf st)).Perm xs0:=fun zs pm=>by
  have zl:zs.toList.length=sb + k2 - (sa + k):=by
   rw [pm.length_eq,QE,Rg,Rg,x1,x2];lia
  refine Array.Perm.trans (Uy.mpr ?_) B.perm;rw [x8 (sa + k) zs.toList 0 (arrOf st) (by lia)]
  have e:=seg (arrOf st) (show sa + k<=sb by lia) (show sb<=sb + k2 by lia)
  rw [Nat.add_zero,show sa + k + zs.toList.length=sb + k2 by lia]
  conv=>rhs;rw [e]
  refine Ru _ ?_;rw [<- Qs];exact pm.append_right _
 refine cE (fun _=>?_) (fun _=>?_)
 ·refine Q3 (NF L B.kind (G'.extract _ _) (G'.extract _ _) (show 1<=((arrOf st).extract (sa + k) sb).size by lia) (show 1<=((arrOf st).extract sb (sb + k2)).size by lia) fun zs st2 g pm=>?_)
  obtain ⟨g1,g2,g3,g4⟩:=g;refine Q3 (RV ?_);refine Q3 (wpS_get ?_);refine Q4 ?_;have e:(failedOf st2).isNone=true:=by
   rw [g4];show (failedOf st).isNone=true;rw [B.ok];rfl
  show Q (failedOf st2).isNone _;rw [e];refine h _ ⟨?_,g1.trans B.kind,g4.trans B.ok⟩ g3;show (zs.toList.zipIdx.foldl (fun a (x:Keyed×Nat)=>a.setIfInBounds (sa + k + x.2) x.1) (arrOf st2)).Perm xs0
  rw [g2];exact fin zs pm
 ·refine Q3 (NN L B.kind (G'.extract _ _) (G'.extract _ _) (show 1<=((arrOf st).extract (sa + k) sb).size by lia) (show 1<=((arrOf st).extract sb (sb + k2)).size by lia) fun zs st2 g pm=>?_)
  obtain ⟨g1,g2,g3,g4⟩:=g;refine Q3 (RV ?_);refine Q3 (wpS_get ?_);refine Q4 ?_;have e:(failedOf st2).isNone=true:=by
   rw [g4];show (failedOf st).isNone=true;rw [B.ok];rfl
  show Q (failedOf st2).isNone _;rw [e];refine h _ ⟨?_,g1.trans B.kind,g4.trans B.ok⟩ g3;show (zs.toList.zipIdx.foldl (fun a (x:Keyed×Nat)=>a.setIfInBounds (sa + k + x.2) x.1) (arrOf st2)).Perm xs0
  rw [g2];exact fin zs pm
end
def Cont:Nat->List (Nat×Nat×Nat)->Nat->Prop
 | f,[],lo=>f=lo
 | f,(s,n,_)::r,lo=>s=f/\1<=n/\Cont (f + n) r lo
theorem Cont.le:∀ {l:List (Nat×Nat×Nat)}{f lo:Nat},Cont f l lo->f<=lo
 | [],f,lo,h=>Sg h
 | (s,n,p)::r,f,lo,⟨_,h1,h⟩=>by
  have:=Cont.le h;lia
theorem Cont.two:∀ {l:List (Nat×Nat×Nat)}{f lo:Nat} (i:Nat),Cont f l lo->i + 1 < l.length->∃ sa na pw sb nb pb,l[i]?=some (sa,na,pw)/\l[i + 1]?=some (sb,nb,pb)/\sb=sa + na/\1<=na/\1<=nb/\sb + nb<=lo
 | (s,n,p)::(s2,n2,p2)::r,f,lo,0,⟨h1,h2,h3,h4,h5⟩,_=>⟨s,n,p,s2,n2,p2,rfl,rfl,by lia,h2,h4,by have:=h5.le;lia⟩
 | (s,n,p)::r,f,lo,i + 1,⟨_,_,h⟩,hl=>Cont.two i h (by simpa using hl)
 | [],_,_,_,_,hl=>by simp at hl
 | [_],_,_,0,_,hl=>by simp at hl
theorem Cont.merge:∀ {l:List (Nat×Nat×Nat)}{f lo:Nat} (i:Nat){sa na pw sb nb pb:Nat},Cont f l lo->l[i]?=some (sa,na,pw)->l[i + 1]?=some (sb,nb,pb)->Cont f ((l.set i (sa,na + nb,pw)).eraseIdx (i + 1)) lo
 | (s,n,p)::(s2,n2,p2)::r,f,lo,0,sa,na,pw,sb,nb,pb,⟨h1,h2,h3,h4,h5⟩,e1,e2=>by
  cases e1;cases e2;refine ⟨h1,by lia,?_⟩
  rw [<- Nat.add_assoc];exact h5
 | (s,n,p)::r,f,lo,i + 1,sa,na,pw,sb,nb,pb,⟨h1,h2,h⟩,e1,e2=>⟨h1,h2,Cont.merge i h e1 e2⟩
 | [],_,_,_,_,_,_,_,_,_,_,e1,_=>by cases e1
 | [_],_,_,0,_,_,_,_,_,_,_,_,e2=>by cases e2
theorem Cont.mod (pw:Nat):∀ {l:List (Nat×Nat×Nat)}{f lo:Nat} (j:Nat),Cont f l lo->Cont f (l.modify j fun x=>(x.1,x.2.1,pw)) lo
 | [],f,lo,j,h=>by
  rw [List.modify_nil];exact h
 | (s,n,p)::r,f,lo,0,⟨h1,h2,h⟩=>⟨h1,h2,h⟩
 | (s,n,p)::r,f,lo,j + 1,⟨h1,h2,h⟩=>⟨h1,h2,Cont.mod pw j h⟩
theorem Cont.push {n:Nat}(hn:1<=n):∀ {l:List (Nat×Nat×Nat)}{f lo:Nat},Cont f l lo->Cont f (l++[(lo,n,0)]) (lo + n)
 | [],f,lo,h=>⟨h.symm,hn,by show f + n=lo + n;rw [show f=lo from h]⟩
 | (s,m,p)::r,f,lo,⟨h1,h2,h⟩=>⟨h1,h2,Cont.push hn h⟩
section
variable {prog:Program}{w:World}{A:Around}{E:VC}{s:Shared}{kd:SortKind}{P:Value->Prop}{xs0:Array Keyed}
def rC {st:SortSt}{i lo:Nat}(L:jq prog w A s kd P)(G:Good P xs0)(B:SB kd xs0 st)(C:Cont 0 (pendingOf st).toList lo)(le:lo<=xs0.size)(hi:i + 1 < (pendingOf st).size)
  (h:∀ st',SB kd xs0 st'->Cont 0 (pendingOf st').toList lo->Q true st'):wpS (model prog w) A E s (mergeAt' i) Q st:=by
 obtain ⟨sa,na,pw,sb,nb,pb,e1,e2,c,n1,n2,l2⟩:=C.two i (by simpa using hi)
 refine G0 L G B (by rw [<- RC];exact e1) (by rw [<- RC];exact e2) c n1 n2 (by lia) fun st' B' p'=>h st' B' ?_
 rw [p',Array.toList_eraseIdxIfInBounds,Array.toList_setIfInBounds];exact C.merge i e1 e2
def Js {st:SortSt}(L:jq prog w A s kd P)(G:Good P xs0)(B:SB kd xs0 st)(p0:pendingOf st=#[])(h:∀ st',SB kd xs0 st'->Q () st'):wpS (model prog w) A E s sortRuns' Q st:=by
 rw [sortRuns'_eq];refine Q3 (wpS_get ?_);dsimp only;rw [B.size];refine Q3 (RA (RB (I:=fun x c st'=>SB kd xs0 st'/\c.1=none/\Cont 0 (pendingOf st').toList c.2/\c.2<=xs0.size) (Q:=fun c st'=>SB kd xs0 st'/\c.1=none/\Cont 0 (pendingOf st').toList c.2/\c.2<=xs0.size) ?step (fun _ _ q=>q) ⟨B,rfl,by rw [p0];rfl,Qw _⟩) ?post)
 case step =>
  rintro x ⟨o,lo⟩ st' _ _ ⟨B1,rfl,C1,l1⟩;dsimp only at C1 l1 ⊢;refine cE (fun _=>Q4 ⟨B1,rfl,C1,l1⟩) (fun ge=>?_)
  refine Q3 (GI L G B1 (by lia) (by lia) fun m st2 B2 p2 m1 m2=>?_)
  dsimp only;have C2:Cont 0 (pendingOf st2).toList lo:=by rw [p2];exact C1
  refine cE (fun lt=>?_) (fun lt=>?_)
  ·refine Q3 (SD (Ra ⟨rfl,?_⟩));generalize hf:min (xs0.size - lo) (minRun' xs0.size xs0.size 0)=force;have f1:1<=force:=by lia
   have f2:lo + force<=xs0.size:=by lia
   refine Q3 (Lb L G B2 f2 fun st3 B3 p3=>?_)
   have C3:Cont 0 (pendingOf st3).toList lo:=by rw [p3];exact C2
   refine cE (fun z=>absurd z (by decide)) (fun _=>?_)
   refine Q3 (wpS_get ?_);cases hb:(pendingOf st3).back? with
   | none =>
    dsimp only;refine Q3 (RV ?_);refine Q4 ⟨⟨B3.perm,B3.kind,B3.ok⟩,rfl,?_,f2⟩;show Cont 0 ((pendingOf st3).push (lo,force,0)).toList (lo + force);rw [Tu];exact C3.push f1
   | some t =>
    obtain ⟨s1,n1',q1⟩:=t;dsimp only;refine Q3 (RA (RB (I:=fun y c st4=>SB kd xs0 st4/\c.1=none/\Cont 0 (pendingOf st4).toList lo) (Q:=fun c st4=>SB kd xs0 st4/\c.1=none/\Cont 0 (pendingOf st4).toList lo) ?step1 (fun _ _ q=>q) ⟨B3,rfl,C3⟩) ?post1)
    case step1 =>
     rintro y ⟨o,u⟩ st4 _ _ ⟨B4,rfl,C4⟩;refine Q3 (wpS_get ?_);cases hm:(if (pendingOf st4).size > 1 then (pendingOf st4)[(pendingOf st4).size - 2]? else none) with
     | none=>exact Q4 ⟨B4,rfl,C4⟩
     | some t =>
      obtain ⟨f1,f2,older⟩:=t;dsimp only;refine cE (fun _=>Q4 ⟨B4,rfl,C4⟩) (fun _=>?_)
      have s2:(pendingOf st4).size > 1:=by
       by_cases z:(pendingOf st4).size > 1
       ·exact z
       ·rw [if_neg z] at hm;cases hm
      refine Q3 (rC L G B4 C4 l1 (by lia) fun st5 B5 C5=>?_)
      exact cE (fun z=>absurd z (by decide)) (fun _=>Q4 ⟨B5,rfl,C5⟩)
    case post1 =>
     rintro ⟨o,u⟩ st4 ⟨B4,rfl,C4⟩;dsimp only;refine Q3 (RV ?_);refine Q3 (RV ?_);refine Q4 ⟨⟨B4.perm,B4.kind,B4.ok⟩,rfl,?_,f2⟩;refine id (?_:Cont 0 (((pendingOf st4).modify ((pendingOf st4).size - 1) fun x=>(x.1,x.2.1,_)).push (lo,force,0)).toList (lo + force))
     rw [Tu,Array.toList_modify];exact (C4.mod _ _).push f1
  ·have f2:lo + m<=xs0.size:=by lia
   refine Q3 (wpS_get ?_);cases hb:(pendingOf st2).back? with
   | none =>
    dsimp only;refine Q3 (RV ?_);refine Q4 ⟨⟨B2.perm,B2.kind,B2.ok⟩,rfl,?_,f2⟩;show Cont 0 ((pendingOf st2).push (lo,m,0)).toList (lo + m);rw [Tu];exact C2.push m1
   | some t =>
    obtain ⟨s1,n1',q1⟩:=t;dsimp only;refine Q3 (RA (RB (I:=fun y c st4=>SB kd xs0 st4/\c.1=none/\Cont 0 (pendingOf st4).toList lo) (Q:=fun c st4=>SB kd xs0 st4/\c.1=none/\Cont 0 (pendingOf st4).toList lo) ?step2 (fun _ _ q=>q) ⟨B2,rfl,C2⟩) ?post2)
    case step2 =>
     rintro y ⟨o,u⟩ st4 _ _ ⟨B4,rfl,C4⟩;refine Q3 (wpS_get ?_);cases hm:(if (pendingOf st4).size > 1 then (pendingOf st4)[(pendingOf st4).size - 2]? else none) with
     | none=>exact Q4 ⟨B4,rfl,C4⟩
     | some t =>
      obtain ⟨f1,f2,older⟩:=t;dsimp only;refine cE (fun _=>Q4 ⟨B4,rfl,C4⟩) (fun _=>?_)
      have s2:(pendingOf st4).size > 1:=by
       by_cases z:(pendingOf st4).size > 1
       ·exact z
       ·rw [if_neg z] at hm;cases hm
      refine Q3 (rC L G B4 C4 l1 (by lia) fun st5 B5 C5=>?_)
      exact cE (fun z=>absurd z (by decide)) (fun _=>Q4 ⟨B5,rfl,C5⟩)
    case post2 =>
     rintro ⟨o,u⟩ st4 ⟨B4,rfl,C4⟩;dsimp only;refine Q3 (RV ?_);refine Q3 (RV ?_);refine Q4 ⟨⟨B4.perm,B4.kind,B4.ok⟩,rfl,?_,f2⟩;refine id (?_:Cont 0 (((pendingOf st4).modify ((pendingOf st4).size - 1) fun x=>(x.1,x.2.1,_)).push (lo,m,0)).toList (lo + m))
     rw [Tu,Array.toList_modify];exact (C4.mod _ _).push m1
 case post =>
  rintro ⟨o,lo⟩ st' ⟨B1,rfl,C1,l1⟩;dsimp only at C1 l1 ⊢;refine Q3 (RA (RB (I:=fun y c st4=>SB kd xs0 st4/\c.1=none/\Cont 0 (pendingOf st4).toList lo) (Q:=fun c st4=>SB kd xs0 st4/\c.1=none/\Cont 0 (pendingOf st4).toList lo) ?stepE (fun _ _ q=>q) ⟨B1,rfl,C1⟩) ?postE)
  case stepE =>
   rintro y ⟨o,u⟩ st4 _ _ ⟨B4,rfl,C4⟩;refine Q3 (wpS_get ?_);refine cE (fun _=>Q4 ⟨B4,rfl,C4⟩) (fun gt=>?_)
   refine Q3 (rC L G B4 C4 l1 (by (repeat' split) <;> lia) fun st5 B5 C5=>?_)
   exact cE (fun z=>absurd z (by decide)) (fun _=>Q4 ⟨B5,rfl,C5⟩)
  case postE =>
   rintro ⟨o,u⟩ st4 ⟨B4,rfl,C4⟩;dsimp only;exact Q4 (h _ B4)
end
def IsPair (h:Heap)(v:Value):Prop:=∃ (a:Addr)(o:Obj) (i j:Int)(t u:Tok) (n:Nat),v=.ref a/\h.get? a=some o/\o.cls=.type "tuple"/\o.data=.seq #[.int i t,.int j u] n
section
variable {prog:Program}{w:World}{A:Around}{E:VC}{s:Shared}
def Ly (b:Bool){i j:Int}(h:∀ c,Q c s):wpAny (model prog w) A (oneLt' b (.int i t) (.int j u)) Q E s:=by
 cases b with
 | true=>exact oneLt_int (h _)
 | false =>
  rw [oneLt'_eq];rw [if_neg Qu];refine Q0 (?_:wpAny _ _ (compareOp .Lt (.int i t) (.int j u)) _ _ _);exact lt_int (SR (h _))
def BU:jq prog w A s (tuples' true) (IsPair s.heap):=by
 rintro E x y ⟨a,o,i,j,t,u,n,rfl,ho,hc,hd⟩ ⟨a2,o2,i2,j2,t2,u2,n2,rfl,ho2,hc2,hd2⟩ Q h;refine Q0 (UY ho hd ?_);refine Q0 (UY ho2 hd2 ?_);dsimp only;refine Q0 ?_;refine wpAny_forIn_list _ (fun rest r s'=>s'=s/\r.1=none/\∀ x∈rest,∃ (i j:Int)(t u:Tok),x.1=(Value.int i t,Value.int j u)) _ ?_ ?_ _ _ ⟨rfl,rfl,fun x hx=>?_⟩
 ·rintro ⟨⟨p,q⟩,k⟩ rest ⟨r,⟨⟩⟩ s' ⟨rfl,rfl,hall⟩;obtain ⟨i3,j3,t3,u3,e⟩:=hall _ Q2;dsimp only at e;cases e;dsimp only;refine Q0 ((intKind prog w).eqBool (a:=i3) (b:=j3) (intKind_is _ _ i3 t3) (intKind_is _ _ j3 u3) ?_);cases decide (i3=j3) with
  | true=>exact Q5 ⟨rfl,rfl,fun x hx=>hall x (Q7 _ hx)⟩
  | false=>exact Q0 (Ly _ fun c=>Q5 (Q5 (h c)))
 ·rintro ⟨r,⟨⟩⟩ s' ⟨rfl,rfl,_⟩;exact Q5 (h _)
 ·have hx':x=((Value.int i t,Value.int i2 t2),0)\/x=((Value.int j u,Value.int j2 u2),1):=by simpa using hx
  rcases hx' with rfl | rfl
  ·exact ⟨_,_,_,_,rfl⟩
  ·exact ⟨_,_,_,_,rfl⟩
def Cg (hv:IsPair s.heap v)(h:∀ i t,Q (some (.int i t)) s):wpAny (model prog w) A (firstOfTuple' v) Q E s:=by
 obtain ⟨a,o,i,j,t,u,n,rfl,ho,hc,hd⟩:=hv;unfold firstOfTuple';refine Q0 (Sw (T:="tuple") ⟨o,ho,hc⟩ ?_);rw [if_neg (by decide)]
 refine Q0 (UY ho hd (Q5 ?_));exact h i t
theorem firsts:∀ {vs:VQ},(∀ v∈vs,IsPair s.heap v)->(∀ os:List (VM),os.length=vs.length->(∀ o∈os,∃ i t,o=some (Value.int i t))->Q os s)->wpAny (model prog w) A (vs.mapM firstOfTuple') Q E s
 | [],_,h=>by
  rw [List.mapM_nil];exact Q5 (h [] rfl fun o ho=>(nomatch ho))
 | v::r,hv,h=>by
  rw [List.mapM_cons];refine Q0 (Cg (hv v Q2) fun i t=>?_)
  refine Q0 (firsts (fun x hx=>hv x (Q7 _ hx)) fun os ol oh=>?_)
  refine Q5 (h _ (by simp [ol]) fun o ho=>?_)
  rcases Q9.mp ho with rfl | ho
  ·exact ⟨i,t,rfl⟩
  ·exact oh o ho
def B0 {Q:SortKind->Shared->Prop}(h0:vs≠[])(hv:∀ v∈vs,IsPair s.heap v)(h:Q (tuples' true) s):wpAny (model prog w) A (keyKind' vs.toArray) Q E s:=by
 rw [keyKind'_eq,List.mapM_toArray];rw [map_eq_pure_bind,bind_assoc];refine Q0 (firsts hv fun os ol oh=>?_)
 rw [pure_bind];have all:os.toArray.all (·.isSome)=true:=by
  rw [List.all_toArray,QK];intro o ho;obtain ⟨i,t,rfl⟩:=oh o ho;rfl
 rw [if_pos all];refine Q0 (Ra ?_);have inte:∃ us:VQ,os.toArray.filterMap id=us.toArray/\us≠[]/\∃ ns,IntsAre us ns:=by
  have go:∀ os:List (VM),(∀ o∈os,∃ i t,o=some (Value.int i t))->∃ us ns,os.filterMap id=us/\us.length=os.length/\IntsAre us ns:=fun os=>by
   induction os with
   | nil=>exact fun _=>⟨[],[],rfl,rfl,.nil⟩
   | cons o r ih =>
    intro hh;obtain ⟨i,t,rfl⟩:=hh o Q2;obtain ⟨us,ns,e,l,I⟩:=ih fun x hx=>hh x (Q7 _ hx)
    exact ⟨.int i t::us,i::ns,by simp [e],by simp [l],.cons i t I⟩
  obtain ⟨us,ns,e,l,I⟩:=go os oh;refine ⟨us,?_,fun z=>h0 ?_,ns,I⟩
  ·rw [List.filterMap_toArray,e]
  ·rw [z] at l;have:vs.length=0:=by
    rw [<- ol,<- l];rfl
   exact US.mp this
 obtain ⟨us,e,un,ns,I⟩:=inte;rw [e,oneTypeOnly'_eq,List.mapM_toArray,mapM_typeOf_ints I];simp only [map_pure,pure_bind];obtain ⟨u0,ur,rfl⟩:=List.exists_cons_of_ne_nil un;have hall:((List.map (fun _=>Value.type "int") (u0::ur)).toArray.all fun x=>x == Value.type "int")=true:=by
  simp only [List.all_toArray,SH,QK];intro _ _;rfl
 have h1:(List.map (fun _=>Value.type "int") (u0::ur)).toArray[0]?=some (Value.type "int"):=by simp
 rw [h1];simp only [hall,if_true,pure_bind];exact Q5 h
end
def IsPair.keep {a:Addr}(p:IsPair h v)(ha:h.get? a=some c)(hc:c.cls=.type "list")(k:∀ b o,b≠a->h.get? b=some o->h'.get? b=some o):IsPair h' v:=by
 obtain ⟨b,o,i,j,t,u,n,rfl,ho,hco,hd⟩:=p;refine ⟨b,o,i,j,t,u,n,rfl,k b o (fun z=>?_) ho,hco,hd⟩
 rw [z,ha] at ho;cases ho;rw [hc] at hco;injection hco with z
 exact absurd z (by decide)
section
variable {prog:Program}{w:World}{A:Around}{E:VC}{s:Shared}
def BB {a:Addr}{n:Nat}(ho:s.heap.get? a=some (seqObj "list" vs.toArray n))(hv:∀ v∈vs,IsPair s.heap v)(few:vs.length<=1000)
  (h:∀ us:VN,us.toList.Perm vs->R (.done (.ret .none)) { s with heap:=sortedHeap s.heap a vs us }):wpAny (model prog w) A (Builtin.«list.sort» ⟨[.ref a],[]⟩) R E s:=by
 have line:(1000:Nat)<=sizeLine:=by decide
 have az:a < s.heap.objs.size:=QD ho;rw [list_sort_plain (a:Addr)];refine Q0 (UY ho rfl (?_:_))
 refine Q0 (listUpdate_at ho rfl (?_:_) (by simp;lia) (by simp))
 obtain ⟨ep,g1⟩:∃ ep,(s.heap.update a (Obj.mapSeq fun _=>#[])).get? a=some (seqObj "list" #[] ep):=⟨_,get?_update_seq ho fun _=>#[]⟩
 refine Q0 (seqEpoch_at g1 rfl (?_:_))
 refine Q0 (wpAny_newTuple (?_:_) (by simp;lia))
 refine Q0 (UU (?_:_))
 refine RX (?_:_)
 have g6:(((s.heap.update a (Obj.mapSeq fun _=>#[])).push (seqObj "tuple" vs.toArray 0)).push (seqObj "list" #[] 0)).get? a=some (seqObj "list" #[] ep):=QL _ (QL _ g1)
 have keep:∀ b o,b≠a->s.heap.get? b=some o->(((s.heap.update a (Obj.mapSeq fun _=>#[])).push (seqObj "tuple" vs.toArray 0)).push (seqObj "list" #[] 0)).get? b=some o:=fun b o hb e=>QL _ (QL _ ((RY _ _ (Ne.symm hb)).trans e))
 have hv6:∀ v∈vs,IsPair (((s.heap.update a (Obj.mapSeq fun _=>#[])).push (seqObj "tuple" vs.toArray 0)).push (seqObj "list" #[] 0)) v:=fun v m=>(hv v m).keep ho rfl keep
 refine id (?_:wpAny (model prog w) A _ R E { s with heap:=((s.heap.update a (Obj.mapSeq fun _=>#[])).push (seqObj "tuple" vs.toArray 0)).push (seqObj "list" #[] 0) })
 dsimp only;have psz:(vs.toArray.zip vs.toArray).size=vs.length:=by simp
 have out:∀ zs:Array Keyed,zs.Perm (vs.toArray.zip vs.toArray)->(zs.map (·.2)).toList.Perm vs:=fun zs p=>by
  have p2:=(Uy.mp p).map (·.2);rw [Array.toList_map];refine p2.trans ?_;have:((vs.toArray.zip vs.toArray).toList.map (·.2))=vs:=by
   rw [Array.toList_zip];simp [List.map_snd_zip]
  rw [this]
 by_cases h2:vs.toArray.size < 2
 ·rw [if_pos h2,if_pos h2];refine Q0 (Q5 (?_:_))
  rw [StateT.run_pure];refine Q0 (Q5 (?_:_))
  dsimp only;refine Q0 (seqEpoch_at g6 rfl (?_:_))
  have o1:=out (vs.toArray.zip vs.toArray) (Array.Perm.refl _);have l1:=o1.length_eq;rw [Rg] at l1;refine Q0 (listUpdate_at g6 rfl (?_:_) (by simp) (QW (Sg l1) (by lia)))
  simp only [bne_self_eq_false,Bool.false_eq_true,if_false];refine Q5 (?_:_)
  exact h _ o1
 ·rw [if_neg h2,if_neg h2];have ne:vs≠[]:=fun z=>h2 (by rw [z];decide)
  refine Q0 (B0 (s:={ s with heap:=((s.heap.update a (Obj.mapSeq fun _=>#[])).push (seqObj "tuple" vs.toArray 0)).push (seqObj "list" #[] 0) }) ne hv6 (?_:_))
  refine Q0 (Qq (Js (kd:=tuples' true) (P:=IsPair (((s.heap.update a (Obj.mapSeq fun _=>#[])).push (seqObj "tuple" vs.toArray 0)).push (seqObj "list" #[] 0))) (xs0:=vs.toArray.zip vs.toArray) (s:={ s with heap:=((s.heap.update a (Obj.mapSeq fun _=>#[])).push (seqObj "tuple" vs.toArray 0)).push (seqObj "list" #[] 0) }) (Q:=fun _ st'=>SB (tuples' true) (vs.toArray.zip vs.toArray) st') BU (fun k p hp=>?_) ⟨Array.Perm.refl _,rfl,rfl⟩ rfl fun st' B=>B) ?_ fun _ _ e=>e)
  ·have m:p∈(vs.toArray.zip vs.toArray).toList:=QX (by rw [RC];exact hp)
   rw [Array.toList_zip] at m;exact hv6 _ (UC m).1
  ·rintro ⟨⟨⟩,st'⟩ s' ⟨rfl,B⟩;dsimp only;refine Q0 (seqEpoch_at g6 rfl (?_:_))
   have o1:=out _ B.perm;have l1:=o1.length_eq;rw [Rg] at l1;refine Q0 (listUpdate_at g6 rfl (?_:_) (by simp) (QW (Sg l1) (by lia)))
   rw [B.ok];simp only [bne_self_eq_false,Bool.false_eq_true,if_false];refine Q5 (?_:_)
   exact h _ o1
end
end TS
namespace L2
open PySem PySem.Spec PyProof.Rows
def Dh (p:us.Perm its):∀ {ys:List V},Vals ys its->∃ zs,zs.Perm ys/\Vals zs us:=by
 induction p with
 | nil=>exact fun {ys} r=>⟨ys,List.Perm.refl _,r⟩
 | cons x _ ih =>
  intro ys r;cases r with
  | cons h r =>
   obtain ⟨zs,p1,r1⟩:=ih r;exact ⟨_::zs,p1.cons _,.cons h r1⟩
 | swap x y l =>
  intro ys r;cases r with
  | cons h r =>
   cases r with
   | cons h2 r=>exact ⟨_::_::_,Tt _ _ _,.cons h2 (.cons h r)⟩
 | trans _ _ ih1 ih2 =>
  intro ys r;obtain ⟨zs,p1,r1⟩:=ih2 r;obtain ⟨ws,p2,r2⟩:=ih1 r1;exact ⟨ws,p2.trans p1,r2⟩
section
variable {X:Cx}
inductive Au (K:VL)(xs:List V)(H:Hp)(Q:VK):Prop
 | mk:∀ (a:Addr)(ys:List V),(xs=[.ref a])->(bX K H a ys)->((∀ y∈ys,∃ (b:Addr) (i j:Int),y=.ref b/\cj K H b [.int i,.int j]))->(ys.length<=1000)->(∀ (zs:List V)(p:Addr),zs.Perm ys->H p=none->Q (.ref p) (upd H p (.lst zs)))->Au K xs H Q
def EJ (K:VL):List V->Hp->VK->Prop:=fun xs H Q=>Au K xs H Q
def yW:b8 X (.builtin "sorted") (EJ X.K):=by
 intro pins s U H xs us Q I r h;obtain ⟨a,ys,rfl,hq,tu,few,q⟩:=h;obtain ⟨u,rfl,ru⟩:=r.one;cases ru;obtain ⟨its,rv,p,_⟩:=I.list hq;have hlen:its.length=ys.length:=rv.length.symm;have hv:∀ v∈its,TS.IsPair s.heap v:=fun v m=>by
  obtain ⟨i,hi⟩:=Rt m;have go:∀ {ys:List V}{its:VQ},Vals ys its->∀ (i:Nat)(u:Value),its[i]?=some u->∃ x,ys[i]?=some x/\RelV x u:=fun {ys its} r=>by
   induction r with
   | nil=>exact fun i u h=>(nomatch h)
   | cons h _ ih =>
    intro i u e;cases i with
    | zero =>
     cases e;exact ⟨_,rfl,h⟩
    | succ i=>exact ih i u e
  obtain ⟨x,hx,rx⟩:=go rv i v hi;obtain ⟨b,i1,j1,rfl,sb⟩:=tu x (QX hx);cases rx;obtain ⟨its2,r2,⟨o2,e2,c2,n2,d2⟩,_⟩:=I.tuple sb;cases r2 with
  | cons ra r3 =>
   cases r3 with
   | cons rb r4 =>
    cases r4;obtain ⟨t,rfl⟩:=ra;obtain ⟨u,rfl⟩:=rb;exact ⟨b,o2,i1,j1,t,u,n2,rfl,e2,c2,d2⟩
 have line:(1000:Nat)<=sizeLine:=by decide
 refine Calls.call_function_entry kind_sorted plain_sorted entry_sorted (args_sorted1 _) (?_:_)
 unfold Builtin.«sorted»;refine Q0 (m:=checkCount "sorted" 1 1 _) (Q5 (?_:_))
 refine Q0 (collect_list p.isList (?_:_) (by lia))
 refine Q0 (UU (?_:_) (by lia))
 have sz:((s.heap.push (seqObj "list" #[] 0)).update s.heap.objs.size (Obj.mapSeq (·++its.toArray))).objs.size=s.heap.objs.size + 1:=by
  rw [Heap.size_update];exact size_push' _ _
 have g0:(((s.heap.push (seqObj "list" #[] 0)).update s.heap.objs.size (Obj.mapSeq (·++its.toArray))).push (seqObj "list" its.toArray 0)).get? (s.heap.objs.size + 1)=some (seqObj "list" its.toArray 0):=by
  rw [<- sz];exact R7 _ rfl
 have old:∀ b o,s.heap.get? b=some o->(((s.heap.push (seqObj "list" #[] 0)).update s.heap.objs.size (Obj.mapSeq (·++its.toArray))).push (seqObj "list" its.toArray 0)).get? b=some o:=fun b o e=>QL _ ((RY _ _ (S4 (QD e))).trans (QL _ e))
 refine id (?_:wpAny _ _ _ _ _ { s with heap:=((s.heap.push (seqObj "list" #[] 0)).update s.heap.objs.size (Obj.mapSeq (·++its.toArray))).push (seqObj "list" its.toArray 0) })
 rw [sz];have hv2:∀ v∈its,TS.IsPair (((s.heap.push (seqObj "list" #[] 0)).update s.heap.objs.size (Obj.mapSeq (·++its.toArray))).push (seqObj "list" its.toArray 0)) v:=fun v m=>by
  obtain ⟨b,o,i,j,t,u,n,e,ho,r⟩:=hv v m;exact ⟨b,o,i,j,t,u,n,e,old b o ho,r⟩
 refine Q0 (RX (S6 slot_list_sort ⟨_,g0,rfl⟩ entry_list_sort (TS.BB g0 hv2 (by lia) fun out pm=>⟨_,rfl,(?_:_)⟩) (args_list_sort _)))
 obtain ⟨n,hn⟩:=sortedHeap_at (vs:=its) (out:=out) g0;obtain ⟨zs,pz,rz⟩:=Dh pm rv;have new:s.heap.get? (s.heap.objs.size + 1)=none:=TU (Sx _);have I2:=I.v9 (a:=s.heap.objs.size + 1) (o:=.lst zs) (t':=s.toks) (h':=sortedHeap (((s.heap.push (seqObj "list" #[] 0)).update s.heap.objs.size (Obj.mapSeq (·++its.toArray))).push (seqObj "list" its.toArray 0)) (s.heap.objs.size + 1) its out) (fun b o hb=>by
   have lt:=QD hb;rw [sortedHeap_old (QG (S9 lt)) (by rw [size_push',sz];exact S9 (S9 lt))]
   exact old b o hb) new
  ⟨by rw [pz.length_eq];lia,out.toList,n,rz,by simpa using hn⟩
 exact Q5 ⟨_,rfl,.ref (s.heap.objs.size + 1),_,I2,rfl,q zs _ pz (I.iG new)⟩
end
abbrev qu:Obj:={ cls:=.type "cell",data:=.cell none }
def Cx.aS (X:Cx)(scope:Scope) (x:Str)(C c:Addr)(NB:VX)(s2:Shared)(H2:Hp)(fp:VR):Cx :=
 { X with N:=NB,s₀:=s2,H₀:=H2,env:=compEnvC scope ((x,c)::bU X.env.cells scope.names []) C X.env,outer:=X.stack,ex:=fp,fn:=fun y=>y == x,pn:=[],xe:=fun _ _=>False }
section
variable {M:Model}{A:Around}{E:VC}{s:Shared}{X:Cx}{scope:Scope}{x:Str}{NB:VX}{ix:VV}
end
section
variable {X:Cx}{scope:Scope}{x:Str}{NB:VX}{ix:VV}{pins:VF}{U:St}{H2:Hp}{s2:Shared}{fp:VR}
def rO (I2:Inv X pins U H2 s2){c:Addr}(e:X.env.cells.lookup y=some c):c < s2.heap.objs.size:=by
 obtain ⟨v,q⟩:=I2.cell y c e;exact q.lt
end
section
variable {X:Cx}{scope:Scope}{x:Str}{NB:VX}{ix:VV}{pins:VF}{U:St}{H2:Hp}{s2:Shared}{fp:VR}
def A7 {C c D:Addr}{n:Nat}(I2:Inv X pins U H2 s2)(f2:∀ b∈fp,dN X pins H2 b)(hD:s2.heap.objs.size<=D)
  (I4:Inv (X.aS scope x C c NB s2 H2 fp) [(D,dG its n)] σB H' s4)(rv:Vals ys its)(hz:ys.length<=sizeLine):Inv X pins U (upd H' D (.lst ys)) s4:=by
 have hp:=I4.pin (D,dG its n) (by show _∈[]++[(D,dG its n)];simp)
 have hfree:H' D=none:=hp.2.1;have neD:∀ b o,s2.heap.get? b=some o->b≠D:=fun b o e=>QG (QT (QD e) hD)
 have neT:∀ b o,H2 b=some o->b≠D:=fun b o e=>QG (QT (I2.hok.lt e) hD)
 have u:Un (frs X.stack) fp H2 H' s2.heap s4.heap:=I4.base;refine I2.wj (ch:=fp) I4.os ⟨u.keep,u.slot,fun b o e n hx=>?_,u.there,fun b xs e=>?_,fun b o v e=>?_,fun b ps e=>?_⟩ (fun b o e=>?_) I4.bare fun b hb=>?_
 ·rw [au (neD b o e)];exact u.free b o e n hx
 ·rw [au (neT b _ e)];exact u.tups b xs e
 ·rw [au (neT b _ e)];exact u.jB b o v e
 ·rw [au (neT b _ e)];exact u.jZ b ps e
 ·by_cases hb:b=D
  ·subst hb;rw [aL] at e;cases e;exact ⟨hz,its,n,rv,hp.1⟩
  ·rw [au hb] at e;have ne:∀ {c:Addr}{w:HO},H' c=some w->c≠D:=fun {c w} q z=>by rw [z,hfree] at q;cases q
   exact (I4.hok b o e).stay (fun _ _ _ q=>q) (fun c q=>by rw [au (ne q)];exact q) fun c xs q=>by rw [au (ne q)];exact q
 ·obtain ⟨_,g1,g2,g3,g4,g5⟩:=f2 b hb;exact ⟨g3,g1,g4,g5⟩
end
def LY (K:VL)(a:Addr):It :=
 ⟨fun i H=>∃ xs x,bX K H a xs/\xs[i]?=some x,fun i H v H'=>∃ T,H T=none/\v=.ref T/\∀ xs,bX K H a xs->∃ x,xs[i]?=some x/\H'=upd H T (.tup [.int i,x]),fun i H=>∃ xs,bX K H a xs/\xs.length<=i⟩
def EN {P:Program}{w:World}{K:VL}{elts:VT}{x1:Nat}{pos:Pos}(a e it:Addr)(hne:e≠it) :
  Turn P w K (.Tuple elts x1 pos) (LY K a) [e,it] e (fun i h=>(∃ old,IsEnum h e it i old)/\h.IsListIter it a i) where
 mem:=by simp
 obj:=fun i h st b hb=>by
  obtain ⟨⟨old,he⟩,o,e1,c,d⟩:=st;rcases Q9.mp hb with z | z
  ·subst z;exact ⟨_,he,fun v q=>by cases q⟩
  ·have z:b=it:=by simpa using z
   subst z;exact ⟨o,e1,fun v q=>by rw [d] at q;cases q⟩
 keep:=fun i h h' st k=>by
  obtain ⟨⟨old,he⟩,li⟩:=st;exact ⟨⟨old,k e (by simp) _ he⟩,li.at fun o q=>k it (by simp) o q⟩
 item:=by
  intro X hP hw hK hc i pins s U H E I hf st hg;subst hP hw hK;obtain ⟨xs,x,hq,hx⟩:=hg;obtain ⟨its,rv,p,hz⟩:=I.list hq;obtain ⟨u,hu,ru⟩:=rv.get hx;obtain ⟨⟨old,he⟩,hit⟩:=st;have fe:=hf e (by simp)
  have fi:=hf it (by simp)
  refine wpAny_pyNext_enum_item he hit p.isList (x:=u) (by simpa using hu) hne fun h1 heo hit1 ht1 hz1 hk1=>⟨_,rfl,?_⟩
  refine wpAny_letOwnedTupleGo_enum heo fun h2 he2 hs2=>?_
  have elt:e < s.heap.objs.size:=QD he;have ht2:h2.get? s.heap.objs.size=some { cls:=.type "tuple",data:=.seq #[.int i s.toks,u] }:=(hs2.2 _ (S4 elt)).trans ht1;have hfr:H s.heap.objs.size=none:=I.hok.fresh (Q6 _);have k2:∀ b o,b≠e->b≠it->s.heap.get? b=some o->h2.get? b=some o:=fun b o b1 b2 q=>hs2.extBut b o b1 (hk1 b o b1 b2 q)
  have neT:∀ b o,H b=some o->b≠s.heap.objs.size:=fun b o q z=>by rw [z,hfr] at q;cases q
  have neS:∀ b o,s.heap.get? b=some o->b≠s.heap.objs.size:=fun b o q=>QG (QD q)
  have nt:∀ b o,H b=some o->b≠e/\b≠it:=fun b o q=>⟨(fun z=>by rw [z,fe.1] at q;cases q),(fun z=>by rw [z,fi.1] at q;cases q)⟩
  have nin:∀ b,b∉[e,it]->b≠e/\b≠it:=fun b hb=>⟨fun z=>hb (by simp [z]),fun z=>hb (by simp [z])⟩
  have I2:Inv X pins U (upd H s.heap.objs.size (.tup [.int i,x])) { s with heap:=h2,toks:=s.toks + 1 }:=by
   refine I.step (g':=s.gens) (d':=s.drawn) (ch:=[e,it]) (fun b hb=>?_) (fun b o _ _ hc' q _=>k2 b o (nin b hc').1 (nin b hc').2 q) (fun b o _ _ hc' q _=>⟨o.slots,k2 b o (nin b hc').1 (nin b hc').2 q⟩)
    (fun b o _ q n=>by rw [au (neS b o q)];exact n) (fun b o hc' q=>⟨o,k2 b o (nin b hc').1 (nin b hc').2 q⟩) (fun b ys q=>by rw [au (neT b _ q)];exact q) (fun b o v q=>by rw [au (neT b _ q)];exact q)
    (fun b ps q=>⟨#[],by rw [au (neT b _ q),q];simp⟩) (fun m hm=>?_) (fun b o q=>?_) I.bare
   ·rcases Q9.mp hb with z | z
    ·subst z;exact ⟨fe.2.2.2.1,fe.2.1,fe.2.2.2.2.1,fe.2.2.2.2.2⟩
    ·have z:b=it:=by simpa using z
     subst z;exact ⟨fi.2.2.2.1,fi.2.1,fi.2.2.2.2.1,fi.2.2.2.2.2⟩
   ·obtain ⟨o,es,ep,ho,r⟩:=hm;exact ⟨o,es,ep,k2 _ o (Ne.symm fe.2.1) (Ne.symm fi.2.1) ho,r⟩
   ·by_cases z:b=s.heap.objs.size
    ·subst z;rw [aL] at q;cases q;exact ⟨(by show 2<=sizeLine;decide),[.int i s.toks,u],.cons ⟨_,rfl⟩ (.cons ru .nil),_,ht2,rfl,_,rfl⟩
    ·rw [au z] at q;refine (I.hok b o q).stay (fun c v hc' r=>k2 c v ?_ ?_ r) (fun c r=>by rw [au (neT c _ r)];exact r) fun c ys r=>by rw [au (neT c _ r)];exact r
     ·rcases hc' with y | y
      ·rw [y];exact (nt b o q).1
      ·exact (nt c _ y).1
     ·rcases hc' with y | y
      ·rw [y];exact (nt b o q).2
      ·exact (nt c _ y).2
  refine ⟨.ref s.heap.objs.size,_,I2,rfl,⟨s.heap.objs.size,hfr,rfl,fun ys hy=>⟨x,by rw [I.yO hy hq];exact hx,rfl⟩⟩,⟨⟨_,he2⟩,?_⟩,fun b hb=>?_⟩
  ·exact hit1.at fun o q=>hs2.extBut it o (Ne.symm hne) q
  ·rcases Q9.mp hb with z | z
   ·subst z;rw [au (QG elt)];exact fe.1
   ·have z:b=it:=by simpa using z
    subst z;obtain ⟨o,q,_⟩:=id hit;rw [au (QG (QD q))];exact fi.1
 done:=by
  intro X hP hw hK hc i pins s U H E I hf st hg;subst hP hw hK;obtain ⟨xs,hq,hx⟩:=hg;obtain ⟨its,rv,p,hz⟩:=I.list hq;obtain ⟨⟨old,he⟩,hit⟩:=st;obtain ⟨f0,f1,f2,f3,f4,f5⟩:=hf it (by simp)
  have hl:=rv.length;exact wpAny_pyNext_enum_end (I.ok.hd hc) he hit p.isList (by simp;lia) fun h' eb=>⟨rfl,I.turned (t':=s.toks) (fun b o hb q=>eb b o hb q) f0 f1 f3 f4 f5⟩
 self:=fun _ _ _ _ _ st h=>by
  obtain ⟨⟨old,he⟩,_⟩:=st;exact wpAny_pyIter_enum he h
section
variable {X:Cx}
inductive CZ (K:VL)(R:(It->Hp->Prop))(vs:List V)(H1:Hp):Prop
 | mk:∀ a,(vs=[.ref a])->((∃ xs,bX K H1 a xs))->(R (LY K a) H1)->CZ K R vs H1
def Oq (K:VL)(ta:TA):TI:=fun U H R=>ta U H fun vs H1=>CZ K R vs H1
def Jp {elts:VT}{x1:Nat}{tp p pos:Pos}{e:Expr}{ta:TA}(hg:Gl X "enumerate")(hm:X.mg "enumerate"=none)(ha:PA X [e] ta)(hs:starEach [e] X.env=[(false,eval e X.env)]:=by rfl) :
  PI X (.Tuple elts x1 tp) (.Call (.Name "enumerate" p) [e] [] pos) (Oq X.K ta):=by
 intro pins s U H R I h;refine Call_ (oi I hg hm boot_enumerate (U9 (aR (ha pos pins s U H _ I h) fun us s1 ⟨vs,H1,I1,r1,q1⟩=>?_) hs rfl))
 obtain ⟨a,ev,⟨xs,hq⟩,q⟩:=q1;subst ev;obtain ⟨u,rfl,ru⟩:=r1.one;cases ru;obtain ⟨its,rv,pl,hz⟩:=I1.list hq;refine call_enumerate_list pl.isList fun h' he hit hsz hk=>?_
 refine wpAny_pyIter_enum he ?_;have I2:Inv X pins U H1 { s1 with heap:=h' }:=I1.kept (t':=s1.toks) hk
 refine ⟨s1.heap.objs.size + 1,[s1.heap.objs.size + 1,s1.heap.objs.size],_,_,H1,rfl,I2,EN a _ _ (Nat.succ_ne_self _),⟨⟨_,he⟩,hit⟩,fun b hb=>?_,q⟩
 have hb:s1.heap.objs.size<=b:=by
  rcases Q9.mp hb with z | z
  ·rw [z];exact Sx _
  ·have z:b=s1.heap.objs.size:=by simpa using z
   rw [z];exact Q6 _
 exact I1.uV hb (I1.hok.fresh hb)
end
section
variable {prog:Program}{w:World}{A:Around}{R:Result->Shared->Prop}{s:Shared}
abbrev nV (prog:Program)(w:World)(A:Around)(env:Env)(R:Result->Shared->Prop):VC:=notedBy (model prog w) A env fun e s'=>R (.error e) s'
end
section
variable {X:Cx}{scope:Scope}{x y0:Str}{NB:VX}{ix:VV}{pins:VF}{U:St}{H2:Hp}{s2:Shared}{fp:VR}
end
section
variable {X:Cx}
theorem Ae:∀ {ns:VW}{us:VQ},Vals (ns.map V.int) us->∃ ps:List (Int×Tok),us=ps.map (fun p=>Value.int p.1 p.2)/\ns=ps.map (·.1)
 | [],_,.nil=>⟨[],rfl,rfl⟩
 | n::ns,_,.cons h r=>by
  obtain ⟨t,rfl⟩:=h;obtain ⟨ps,rfl,rfl⟩:=Ae r;exact ⟨(n,t)::ps,rfl,rfl⟩
def D7 (hc:X.calm=true):b8 X (.builtin "max") (fun xs H Q=>∃ (a:Addr)(ns:VW),xs=[.ref a]/\bX X.K H a (ns.map V.int)/\ns≠[]/\∀ M,M∈ns->(∀ n∈ns,n<=M)->Q (.int M) H):=by
 intro pins s U H xs us Q I r h;obtain ⟨a,ns,rfl,hq,ne,q⟩:=h;obtain ⟨u,rfl,ru⟩:=vals1 r;cases ru;obtain ⟨its,rv,p,_⟩:=I.list hq;obtain ⟨ps,rfl,rfl⟩:=Ae rv;have hl:s.heap.IsList a (intItems ps.toArray):=by
  have:=p.isList
  simpa [intItems] using this
 refine max_intList (I.ok.hd hc) hl (by simpa using Sk.mpr (fun e=>ne (by rw [e];rfl))) fun v h' tk hv hk=>?_
 obtain ⟨t,rfl⟩:=intItems_at hv;obtain ⟨g1,g2⟩:=argBest_gt (numAt ps.toArray) (ps.toArray.size - 1);have pos:0 < ps.length:=Sk.mpr fun e=>ne (by rw [e];rfl)
 refine ⟨.int _,H,I.kept (t':=tk) hk,⟨_,rfl⟩,q _ ?_ fun n hn=>?_⟩
 ·rw [numAt_eq];exact getD_mem (by simp at g1 ⊢;lia)
 ·obtain ⟨j,hj,rfl⟩:=mem_getD hn;rw [Q8] at hj;have e:(ps.map (·.1)).getD j 0=numAt ps.toArray j:=by rw [numAt_eq]
  rw [e];exact g2 j (by simp;lia)
end
end L2
namespace Dv
open PySem L2 PySem.W
section
variable {K:Frag}{H Hm:Hp}{P:Vb}{Q:VK}
def bG (K:Frag)(H Hm:Hp)(P:Vb)(Q:VK):Prop:=∀ k v u H' Hm' fp,P k v->ah H H'->ah Hm Hm'->ah Hm' H'->(∀ a,H a≠none->OE (Hm' a) (Hm a))->Own K H' Hm' k u v fp->(∀ a∈fp,H a=none/\Hm' a=none)->Q u H'
def bG.sc (q:bG K H Hm P Q)(s:ah Hm H)(p:P .sh v)(r:Rp K Hm u v):Q u H:=q _ _ _ _ _ [] p (ah.refl _) (ah.refl _) s (fun _ _=>.inl rfl) (.sh r) fun _ z=>by cases z
def jG (s:ah Hm H){p:Addr}(h:H p=none):Hm p=none:=by
 cases e:Hm p with
 | none=>rfl
 | some o=>rw [s _ _ e] at h;cases h
def bG.nl (q:bG K H Hm P Q)(s:ah Hm H){p:Addr}(pp:P (.ow false) (.list ds))(hp:H p=none)(r:aA K Hm xs ds):Q (.ref p) (upd H p (.lst xs)) :=
 q _ _ _ _ Hm [p] pp (cg hp) (ah.refl _) (s.trans (cg hp)) (fun _ _=>.inl rfl) (.ow aL r) fun a ha=>by rw [QF.mp ha];exact ⟨hp,jG s hp⟩
def bG.nt (q:bG K H Hm P Q)(s:ah Hm H){p:Addr}(pp:P .sh (.tuple ds))(hp:H p=none)(r:aA K Hm xs ds):Q (.ref p) (upd H p (.tup xs)):=by
 have n:=jG s hp;have s2:=cg (o:=.tup xs) n;refine q _ _ _ _ (upd Hm p (.tup xs)) [] pp (cg hp) s2 (fun b o e=>?_) (fun a ha=>.inl (au fun z=>ha (z ▸ hp))) (.sh (.tup aL (r.mono s2))) fun _ z=>by cases z
 by_cases c:b=p
 ·rw [c,aL] at e ⊢;exact e
 ·rw [au c] at e ⊢;exact s _ _ e
end
def r2 (r:R2):List V->Hp->VK->Prop:=fun vs H Q=>match vs with
 | [x,y]=>r x y H Q
 | _=>False
def dO (h:aA K H vs [a]):∃ x,vs=[x]/\Rp K H x a:=by
 cases h with
 | cons h t=>cases t;exact ⟨_,rfl,h⟩
def cO (h:aA K H vs [a,b]):∃ x y,vs=[x,y]/\Rp K H x a/\Rp K H y b:=by
 cases h with
 | cons h t =>
  obtain ⟨y,rfl,h2⟩:=dO t;exact ⟨_,_,rfl,h,h2⟩
def Po (h:aA K H vs [a,b,c]):∃ x y z,vs=[x,y,z]/\Rp K H x a/\Rp K H y b/\Rp K H z c:=by
 cases h with
 | cons h t =>
  obtain ⟨y,z,rfl,h2,h3⟩:=cO t;exact ⟨_,_,_,rfl,h,h2,h3⟩
def bN.or (h:bN X f r)(k:bN X f s):bN X f fun x y H Q=>r x y H Q\/s x y H Q:=fun pins st U H x y v u Q I a b z=>z.elim (h pins st U H x y v u Q I a b) (k pins st U H x y v u Q I a b)
section
variable {X:Cx}{Ex:XK}{Y:VV}
def mW (ho:bN X (binaryOp op) r)(D:cP X.K f (r2 r))(S:aU X Ex Y [a,b] as):SE X Ex Y (.BinOp a op b pos) (aa f as):=i9 (r:=r2 r) S (fun U H Q h=>WE.of (NZ ho bP bP) h) D
def yf (ho:bN X (compareOp op) r)(hm:behindInMarks op b=false)(D:cP X.K f (r2 r))(S:aU X Ex Y [a,b] as):SE X Ex Y (.Compare a [op] [b] pos) (aa f as):=i9 (r:=r2 r) S (fun U H Q h=>WE.of (JT ho bP bP hm) h) D
def Om (ho:nR X r)(hs:mK b)(D:cP X.K f (r2 r))(S:aU X Ex Y [a,b] as):SE X Ex Y (.Subscript a b pos) (aa f as):=i9 (r:=r2 r) S (fun U H Q h=>WE.of (Hz ho bP bP hs) h) D
end
def nJ (g:Int->Int->PyData):DR:=fun ds P=>match ds with
 | [.int a,.int b]=>P .sh (g a b)
 | _=>False
def v7 (C:Int->Int->Prop)(g:Int->Int->PyData):DR:=fun ds P=>match ds with
 | [.int a,.int b]=>C a b/\P .sh (g a b)
 | _=>False
def uF {Z:Prop}{f:Int->Int->Prop}(h:match ds with | [PyData.int a,.int b]=>f a b | _=>False)(k:∀ a b,ds=[.int a,.int b]->f a b->Z):Z:=by
 split at h
 ·exact k _ _ rfl h
 ·exact h.elim
def nE {g:Int->Int->PyData}{gv:Int->Int->V}(hg:∀ a b Hm,Rp K Hm (gv a b) (g a b)):cP K (nJ g) (r2 (n5 gv)):=by
 intro H Hm vs ds P Q s r h q;refine uF h fun a b e p=>?_
 subst e;obtain ⟨x,y,rfl,h1,h2⟩:=cO r;cases h1;cases h2;exact ⟨a,b,rfl,rfl,bG.sc q s p (hg a b Hm)⟩
def uJ {g:Int->Int->PyData}{gv:Int->Int->V}(hg:∀ a b Hm,Rp K Hm (gv a b) (g a b)):cP K (v7 C g) (r2 (rI C gv)):=by
 intro H Hm vs ds P Q s r h q;refine uF h fun a b e p=>?_
 subst e;obtain ⟨x,y,rfl,h1,h2⟩:=cO r;cases h1;cases h2;exact ⟨a,b,rfl,rfl,p.1,bG.sc q s p.2 (hg a b Hm)⟩
inductive Ed (K:Frag) (x:V) (y:V)(H:Hp)(Q:VK):Prop
 | mk:∀ l b xs zs,(x=.ref l)->(y=.ref b)->(cy K H l xs)->(cy K H b zs)->(xs.length + zs.length<=sizeLine)->(∀ p,H p=none->Q (.ref p) (upd H p (.lst (xs++zs))))->Ed K x y H Q
def Ia (K:Frag):R2:=fun x y H Q=>Ed K x y H Q
section
variable {X:Cx}
def IF:bN X (binaryOp .Add) (Ia X.K):=by
 intro pins s U H x y v u Q I rx ry h;obtain ⟨l,b,xs,zs,rfl,rfl,hH,hB,hz,q⟩:=h;cases rx;cases ry;obtain ⟨z,its,n,r,e⟩:=hH.get I;obtain ⟨z2,its2,n2,r2,e2⟩:=hB.get I;have hl:=r.length;have hl2:=r2.length;refine PySem.P.add_list e e2 ?_ (by rw [QJ,QJ];lia)
 have ea:its.toArray++its2.toArray=(its++its2).toArray:=by simp
 rw [ea];exact ⟨.ref _,_,I.Mp (t':=s.toks) (r.append r2) (by rw [QE];lia),rfl,q _ I.fresh⟩
end
def dP:DR:=fun ds P=>match ds with
 | [.int a,.int b]=>P .sh (.int (a + b))
 | [.list a,.list b]=>a.length + b.length<=sizeLine/\P (.ow false) (.list (a++b))
 | [.tuple a,.tuple b]=>(a≠[]/\a.length + b.length<=sizeLine)/\P .sh (.tuple (a++b))
 | [.str a,.str b]=>a.length + b.length<=sizeLine/\P .sh (.str (a++b))
 | _=>False
def Ig (K:Frag):R2:=fun x y H Q=>(((n5 fun i j=>.int (i + j)) x y H Q\/Ia K x y H Q)\/Hy K x y H Q)\/∃ i j,x=.str i/\y=.str j/\i.length + j.length<=sizeLine/\Q (.str (i++j)) H
def IQ:bN X (binaryOp .Add) (Ig X.K):=((LU.or IF).or JY).or A1
def IZ:cP K dP (r2 (Ig K)):=by
 intro H Hm vs ds P Q s r h q;unfold dP at h;split at h
 ·obtain ⟨x,y,rfl,h1,h2⟩:=cO r;cases h1;cases h2;exact .inl (.inl (.inl ⟨_,_,rfl,rfl,bG.sc q s h (.int _)⟩))
 ·obtain ⟨x,y,rfl,h1,h2⟩:=cO r;cases h1 with
  | lst a1 r1 =>
   cases h2 with
   | lst a2 r2=>exact .inl (.inl (.inr ⟨_,_,_,_,rfl,rfl,cy.mono s a1,cy.mono s a2,by rw [r1.len,r2.len];exact h.1,fun p hp=>bG.nl q s h.2 hp (r1.app r2)⟩))
 ·obtain ⟨x,y,rfl,h1,h2⟩:=cO r;cases h1 with
  | @tup a xs ds1 a1 r1 =>
   cases h2 with
   | @tup b ys ds2 a2 r2 =>
    refine .inl (.inr ⟨_,_,_,_,rfl,rfl,cj.of (s _ _ a1),cj.of (s _ _ a2),fun z=>h.1.1 ?_,by rw [r1.len,r2.len];exact h.1.2,fun z=>?_,fun _ p hp=>bG.nt q s h.2 hp (r1.app r2)⟩)
    ·subst z;cases r1;rfl
    ·subst z;cases r2;refine bG.sc q s h.2 ?_;rw [RN];exact .tup a1 r1
 ·obtain ⟨x,y,rfl,h1,h2⟩:=cO r;cases h1;cases h2;exact .inr ⟨_,_,rfl,rfl,h.1,bG.sc q s h.2 (.str _)⟩
 ·exact h.elim
inductive C8 (K:Frag) (x:V) (y:V)(H:Hp)(Q:VK):Prop
 | mk:∀ l k xs,(x=.ref l)->(y=.int k)->(cy K H l xs)->(-(2 ^ 63)<=k)->(k < 2 ^ 63)->(xs.length * k.toNat<=sizeLine)->(∀ p,H p=none->Q (.ref p) (upd H p (.lst (List.replicate k.toNat xs).flatten)))->C8 K x y H Q
def Hr (K:Frag):R2:=fun x y H Q=>C8 K x y H Q
section
variable {X:Cx}
open PyProof.Rows in
def IP:bN X (binaryOp .Mult) (Hr X.K):=by
 intro pins s U H x y v u Q I rx ry h;obtain ⟨l,k,xs,rfl,rfl,hH,h1,h2,hz,q⟩:=h;cases rx;obtain ⟨t,rfl⟩:=ry;obtain ⟨z,its,n,r,e⟩:=hH.get I;have hl:=r.length;have hlen:its.toArray.size * k.toNat<=sizeLine:=by rw [QJ,<- hl];exact hz
 have hcap:¬ its.toArray.size * k.toNat > (2 ^ 63 - 1) / 8:=by
  have:(sizeLine:Nat)<=(2 ^ 63 - 1) / 8:=by decide
  lia
 have hfit:¬ (!Builtin.List.listFitsIndex k)=true:=by
  rw [fitsIndex_both h1 h2];exact Qu
 have hlong:¬ Builtin.List.listTooLong (its.toArray.size * k.toNat)=true:=by
  rw [q9 hlen];exact Qu
 have hnew:List.foldl (fun x1 x2=>x1++x2) #[] (List.replicate (if its.toArray.isEmpty=true then 0 else k.toNat) its.toArray)=(List.replicate k.toNat its).flatten.toArray:=by
  have f0:∀ m:Nat,List.foldl (fun x1 x2=>x1++x2) #[] (List.replicate m its.toArray)=(List.replicate m its).flatten.toArray:=fun m=>by
   have:=foldl_rep its m [];rw [List.nil_append] at this;exact this
  rw [f0];cases its with
  | nil=>simp
  | cons a r'=>rw [if_neg (by simp)]
 refine wpAny_binaryOp_repeat_ref (T:="list") (U:="int") (by decide) ⟨_,e,rfl⟩ (fun s'=>typeIs_int s' k t) noFill_list_mul F.fills_int_mul F.slot_int_rmul repeat_list F.slot_int_index.lookup
  (Sa F.slot_int_rmul (typeIs_int s k t) F.entry_int_rmul (F.args_int_rmul_2 _ _) (int___rmul___int_list k t l its.toArray n)
   ⟨e,rfl,⟨_,e,rfl⟩,Sa F.slot_list_mul ⟨_,e,rfl⟩ F.entry_list_mul (F.args_list_mul_2 _ _) (AutoListH.list___mul___list_int_3 l its.toArray n k t hfit hcap hlong) ⟨e,?_⟩⟩)
 rw [hnew];exact ⟨.ref _,_,I.Mp (t':=s.toks) (r.rep k.toNat) (by rw [len_rep,Nat.mul_comm];exact hz),rfl,q _ I.fresh⟩
end
theorem aA.rep (r:aA K H xs ds):∀ n:Nat,aA K H (List.replicate n xs).flatten (List.replicate n ds).flatten
 | 0=>.nil
 | n + 1=>by rw [SY,SY,RO,RO];exact r.app (r.rep n)
def gQ:DR:=fun ds P=>match ds with
 | [.int a,.int b]=>j9 a b/\P .sh (.int (a * b))
 | [.list a,.int k]=>(-(2 ^ 63)<=k/\k < 2 ^ 63/\a.length * k.toNat<=sizeLine)/\P (.ow false) (.list (List.replicate k.toNat a).flatten)
 | _=>False
def Ik (K:Frag):R2:=fun x y H Q=>(rI j9 fun i j=>.int (i * j)) x y H Q\/Hr K x y H Q
def II:bN X (binaryOp .Mult) (Ik X.K):=My.or IP
def J1:cP K gQ (r2 (Ik K)):=by
 intro H Hm vs ds P Q s r h q;unfold gQ at h;split at h
 ·obtain ⟨x,y,rfl,h1,h2⟩:=cO r;cases h1;cases h2;exact .inl ⟨_,_,rfl,rfl,h.1,bG.sc q s h.2 (.int _)⟩
 ·obtain ⟨x,y,rfl,h1,h2⟩:=cO r;cases h2;cases h1 with
  | lst a1 r1=>exact .inr ⟨_,_,_,rfl,rfl,cy.mono s a1,h.1.1,h.1.2.1,by rw [r1.len];exact h.1.2.2,fun p hp=>bG.nl q s h.2 hp (r1.rep _)⟩
 ·exact h.elim
end Dv
namespace L2
open PySem PySem.Spec PyProof.Rows
section
variable {prog:Program}{w:World}{A:Around}{E:VC}{s:Shared}
def vS {t sl:Addr}{items:VN}{vl vu:Value}{lo hi:Option Int}{Q:VC}(ht:IsTup s.heap t items)(hs:s.heap.IsSliceOf sl vl vu .none)(pl:IsPart vl lo)(pu:IsPart vu hi)
  (w0:HT.aN items.size 0 lo=0)(w1:HT.aN items.size items.size hi=items.size)(h:Q (.ref t) s):wpAny (model prog w) A (getItem (.ref t) (.ref sl)) Q E s:=by
 obtain ⟨os,hos,hcs,hds⟩:=id hs;have hTs:s.TypeIs (.ref sl) "slice":=⟨os,hos,hcs⟩;unfold getItem;refine RX (?_:_)
 refine Q0 (wpAny_sequenceKey ht.typeIs (by decide) (?_:_))
 refine Q0 (UE (name:=Str.ofString "__getitem__") ht.typeIs UG
  (S6 UG ht.typeIs entry_tuple_getitem (?_:_) (args_tuple_getitem _ _)))
 refine id (?_:wpAny _ _ (Builtin.Tuple.tupleItemsOf (.ref t) >>= _) _ _ s);refine Q0 (tupleItemsOf_ ht (?_:_))
 refine Q0 (Sw hTs (?_:_))
 rw [if_pos (by decide)]
 refine Q0 (HT.kF hs pl pu (?_:_))
 have yes:(((HT.aN items.size 0 lo:Nat):Int) == 0 && (1:Int) == 1 && (HT.aN items.size items.size hi - HT.aN items.size 0 lo) == items.size)=true:=by
  rw [w0,w1,Nat.sub_zero];simp
 refine id (?_:wpAny _ _ (if (((HT.aN items.size 0 lo:Nat):Int) == 0 && (1:Int) == 1 && (HT.aN items.size items.size hi - HT.aN items.size 0 lo) == items.size)=true then _ else _) _ _ s)
 rw [if_pos yes];refine Q0 (m:=Builtin.Tuple.tupleIsExact _) (Q0 (Sw ht.typeIs (Q5 (?_:_))))
 rw [if_pos (by decide)]
 refine Q0 (Ra (?_:_))
 exact Q5 ⟨_,rfl,Q5 h⟩
end
section
variable {X:Cx}
def HJ (K:VL):V->Option Int->Option Int->Hp->VK->Prop:=fun x lo hi H Q=>∃ a xs,x=.ref a/\cj K H a xs /\
 (HT.aN xs.length 0 lo=0/\HT.aN xs.length xs.length hi=xs.length->Q (.ref a) H)/\(¬ (HT.aN xs.length 0 lo=0/\HT.aN xs.length xs.length hi=xs.length)->∀ p,H p=none->Q (.ref p) (upd H p (.tup (m6 xs lo hi))))
def Ko:Dt X (HJ X.K):=by
 intro pins s U H x v vl vu lo hi sl Q I rx hs pl pu h;obtain ⟨a,xs,rfl,hx,q1,q2⟩:=h
 by_cases c:HT.aN xs.length 0 lo=0/\HT.aN xs.length xs.length hi=xs.length
 ·cases rx;obtain ⟨its,r,ht,hz⟩:=I.tuple hx;have hlen:its.toArray.size=xs.length:=by rw [QJ];exact r.length.symm
  refine ⟨"tuple",_,V7,ht.typeIs,?_⟩;exact vS ht hs pl pu (by rw [hlen];exact c.1) (by rw [hlen];exact c.2) ⟨.ref a,H,I,rfl,q1 c⟩
 ·exact Lp pins s U H (.ref a) v vl vu lo hi sl Q I rx hs pl pu ⟨a,xs,rfl,hx,c,q2 c⟩
end
end L2
namespace Dv
open PySem L2 PySem.W
def dl:Nat->PyData->Bool
 | _,.none=>true
 | _,.int _=>true
 | _,.str x=>PyData.strOk x
 | n + 1,.list ds=>ds.all (dl n)
 | n + 1,.tuple ds=>ds.all (dl n)
 | _,_=>false
theorem mL:∀ {ds:VO},(∀ d∈ds,d.canLay0=true)->PyData.canLayAll0 ds=true
 | [],_=>rfl
 | d::ds,h=>by
  rw [PyData.canLayAll0,h d Q2,mL fun e he=>h e (Q7 _ he)]
  rfl
theorem pP {n:Nat}:∀ {ds:VO},(∀ d∈ds,d.depth<=n)->PyData.depthAll ds<=n
 | [],_=>by rw [PyData.depthAll];exact Qw _
 | d::ds,h=>by
  rw [PyData.depthAll];exact Nat.max_le.mpr ⟨h d Q2,pP fun e he=>h e (Q7 _ he)⟩
theorem iW:∀ {n:Nat}{d:PyData},dl n d=true->d.canLay0=true/\d.depth<=n
 | _,.none,_=>⟨rfl,Qw _⟩
 | _,.int _,_=>⟨rfl,Qw _⟩
 | n,.str x,h=>⟨by cases n <;> exact h,Qw _⟩
 | n + 1,.list ds,h=>by
  have h:ds.all (dl n)=true:=h;rw [QK] at h;refine ⟨by rw [PyData.canLay0];exact mL fun d hd=>(iW (h d hd)).1,?_⟩
  rw [PyData.depth];have:=pP (n:=n) (ds:=ds) fun d hd=>(iW (h d hd)).2
  lia
 | n + 1,.tuple ds,h=>by
  have h:ds.all (dl n)=true:=h;rw [QK] at h;refine ⟨by rw [PyData.canLay0];exact mL fun d hd=>(iW (h d hd)).1,?_⟩
  rw [PyData.depth];have:=pP (n:=n) (ds:=ds) fun d hd=>(iW (h d hd)).2
  lia
 | 0,.list _,h=>by cases h
 | 0,.tuple _,h=>by cases h
 | n,.bool _,h=>by cases n <;> cases h
 | n,.dict _,h=>by cases n <;> cases h
theorem pI:∀ {ds:VO},(∀ d∈ds,nd d=true)->nd.nds ds=true
 | [],_=>rfl
 | d::ds,h=>by
  rw [nd.nds,h d Q2,pI fun e he=>h e (Q7 _ he)]
  rfl
theorem k9:∀ {n:Nat}{d:PyData},dl n d=true->nd d=true
 | _,.none,_=>rfl
 | _,.int _,_=>rfl
 | _,.str _,_=>rfl
 | _,.bool _,_=>rfl
 | n + 1,.list ds,h=>by
  have h:ds.all (dl n)=true:=h;rw [QK] at h;rw [nd];exact pI fun d hd=>k9 (h d hd)
 | n + 1,.tuple ds,h=>by
  have h:ds.all (dl n)=true:=h;rw [QK] at h;rw [nd];exact pI fun d hd=>k9 (h d hd)
 | 0,.list _,h=>by cases h
 | 0,.tuple _,h=>by cases h
 | n,.dict _,h=>by cases n <;> cases h
theorem pW (hf:∀ a b,f a=true->f b=true->SeqAt.noMix a b=true):∀ {xs ys:VO},xs.all f=true->ys.all f=true->SeqAt.noMixAll xs ys=true
 | [],[],_,_=>rfl
 | [],_::_,_,_=>rfl
 | _::_,[],_,_=>rfl
 | x::xs,y::ys,h1,h2=>by
  rw [QM,QC] at h1 h2;rw [SeqAt.noMixAll,hf x y h1.1 h2.1,pW hf h1.2 h2.2];rfl
def D0:∀ (n:Nat)(a b:PyData),dl n a=true->dl n b=true->SeqAt.noMix a b=true:=by
 intro n
 induction n with
 | zero =>
  intro a b ha hb;cases a <;> first | (cases ha;done) | (cases b <;> first | (cases hb;done) | rfl)
 | succ n ih =>
  intro a b ha hb;cases a with
  | list xs =>
   cases b with
   | list ys=>rw [SeqAt.noMix];exact pW ih ha hb
   | dict _=>cases hb
   | bool _=>cases hb
   | _=>rfl
  | tuple xs =>
   cases b with
   | tuple ys=>rw [SeqAt.noMix];exact pW ih ha hb
   | dict _=>cases hb
   | bool _=>cases hb
   | _=>rfl
  | dict _=>cases ha
  | bool _=>cases ha
  | _=>cases b <;> first | (cases hb;done) | rfl
def DP {n:Nat}(ha:dl n a=true)(hb:dl n b=true):PyData.eqv a b=decide (a=b):=by
 rw [<- SeqAt.same_eq_eqv a b (D0 n a b ha hb),Ro,PyProof.Rows.same_iff,RS]
def vO {n:Nat}(h:dl n d=true)(l:n<=60):SeqAt.shaped d=true:=by
 obtain ⟨h1,h2⟩:=iW h;unfold SeqAt.shaped;rw [h1,Qz (QW h2 (by lia))]
 rfl
def HY (a b:PyData)(P:Bool->Prop):Prop:=match a,b with
 | .int a,.int b=>P (decide (a=b))
 | .str a,.str b=>P (decide (a=b))
 | .bool a,.bool b=>P (decide (a=b))
 | .none,.none=>P true
 | a,b=>(dl 8 a=true/\dl 8 b=true)/\P (decide (a=b))
def jg:DR:=fun ds P=>match ds with
 | [a,b]=>HY a b fun c=>P .sh (.bool c)
 | _=>False
def jN:DR:=fun ds P=>match ds with
 | [a,b]=>HY a b fun c=>P .sh (.bool !c)
 | _=>False
def sj (K:Frag)(neg:Bool):R2:=fun x y H Q=>Fq K neg x y H Q\/(if neg then OB x y H Q else OG x y H Q)
section
variable {X:Cx}
def DF (hu:X.A.units + 64 < cLine):bN X (compareOp .Eq) (sj X.K false):=(MX hu).or (Nv (X:=X))
def KJ (hu:X.A.units + 64 < cLine):bN X (compareOp .NotEq) (sj X.K true):=(Nc hu).or (Nq (X:=X))
end
def Es (neg:Bool)(s:ah Hm H)(h1:Rp K Hm x a)(h2:Rp K Hm y b)(h:HY a b Pb)(q:∀ c,Pb c->Q (.bl (if neg then !c else c)) H):sj K neg x y H Q:=by
 have gen:dl 8 a=true/\dl 8 b=true->Pb (decide (a=b))->sj K neg x y H Q:=fun hd p=>by
  refine .inl ⟨a,b,(h1.mono s).oz (k9 hd.1),(h2.mono s).oz (k9 hd.2),vO hd.1 (by decide),vO hd.2 (by decide),D0 8 a b hd.1 hd.2,?_⟩
  have e:Spec.same a b=decide (a=b):=by rw [Ro,PyProof.Rows.same_iff,RS]
  rw [e];exact q _ p
 have sc:Fj x y=true->Pb (decide (x=y))->sj K neg x y H Q:=fun hs p=>by
  refine .inr ?_;cases neg with
  | true=>exact ⟨hs,q _ p⟩
  | false=>exact ⟨hs,q _ p⟩
 unfold HY at h;split at h
 ·cases h1;cases h2;refine sc rfl ?_
  simpa using h
 ·cases h1;cases h2;refine sc rfl ?_
  simpa using h
 ·cases h1;cases h2;refine sc rfl ?_
  simpa using h
 ·cases h1;cases h2;exact gen ⟨rfl,rfl⟩ (by simpa using h)
 ·exact gen h.1 h.2
def DW:cP K jg (r2 (sj K false)):=by
 intro H Hm vs ds P Q s r h q;unfold jg at h;split at h
 ·obtain ⟨x,y,rfl,h1,h2⟩:=cO r;exact Es false s h1 h2 h fun c p=>bG.sc q s p (.bl _)
 ·exact h.elim
def LH:cP K jN (r2 (sj K true)):=by
 intro H Hm vs ds P Q s r h q;unfold jN at h;split at h
 ·obtain ⟨x,y,rfl,h1,h2⟩:=cO r;exact Es true s h1 h2 h fun c p=>bG.sc q s p (.bl _)
 ·exact h.elim
def fS (neg:Bool):DR:=fun ds P=>match ds with
 | [a,.none]=>P .sh (.bool (if neg then !decide (a=.none) else decide (a=.none)))
 | _=>False
def Jq (h:Rp K H x d):decide (x=.bE)=decide (d=.none):=by
 cases h <;> simp
def wV:cP K (fS true) (r2 fun x y H Q=>y=.bE/\Q (.bl (!decide (x=.bE))) H):=by
 intro H Hm vs ds P Q s r h q;unfold fS at h;split at h
 ·obtain ⟨x,y,rfl,h1,h2⟩:=cO r;cases h2;refine ⟨rfl,?_⟩;rw [Jq h1];exact bG.sc q s h (.bl _)
 ·exact h.elim
def Eb (neg:Bool):DR:=fun ds P=>match ds with
 | [d,.list xs]=>(xs.all (dl 8)=true/\dl 8 d=true)/\P .sh (.bool (if neg then !decide (d∈xs) else decide (d∈xs)))
 | [d,.tuple xs]=>(xs.all (dl 8)=true/\dl 8 d=true)/\P .sh (.bool (if neg then !decide (d∈xs) else decide (d∈xs)))
 | _=>False
inductive Il (K:Frag)(neg:Bool) (x:V) (y:V)(H:Hp)(Q:VK):Prop
 | mk:∀ (d:PyData)(xs:VO),(ly K H x d)->((ly K H y (.list xs)\/ly K H y (.tuple xs)))->(PyData.canLayAll0 xs=true)->(d.canLay0=true)->(d.depth<=60)->(Q (.bl (if neg then !xs.any fun y=>PyData.eqv y d else xs.any fun y=>PyData.eqv y d)) H)->Il K neg x y H Q
def By (K:Frag)(neg:Bool):R2:=fun x y H Q=>Il K neg x y H Q
section
variable {X:Cx}
def Lr (hu:X.A.units + 64 < cLine):bN X (compareOp .In) (By X.K false):=by
 intro pins s U H x y v u Q I rx ry h;obtain ⟨d,xs,hx,hy,l1,l2,dp,q⟩:=h;obtain ⟨bs,rb⟩:=I.reads hx rx;rcases hy with hy | hy
 ·obtain ⟨as,ra⟩:=I.reads hy ry;exact SeqAt.in_list_reads ra rb l1 l2 (by lia) ⟨.bl _,H,I,rfl,q⟩
 ·obtain ⟨as,ra⟩:=I.reads hy ry;exact SeqAt.in_tuple_reads ra rb l1 l2 (by lia) ⟨.bl _,H,I,rfl,q⟩
def Ei (hu:X.A.units + 64 < cLine):bN X (compareOp .NotIn) (By X.K true):=by
 intro pins s U H x y v u Q I rx ry h;obtain ⟨d,xs,hx,hy,l1,l2,dp,q⟩:=h;obtain ⟨bs,rb⟩:=I.reads hx rx;rcases hy with hy | hy
 ·obtain ⟨as,ra⟩:=I.reads hy ry;exact SeqAt.notIn_list_reads ra rb l1 l2 (by lia) ⟨.bl _,H,I,rfl,q⟩
 ·obtain ⟨as,ra⟩:=I.reads hy ry;exact SeqAt.notIn_tuple_reads ra rb l1 l2 (by lia) ⟨.bl _,H,I,rfl,q⟩
end
def AO {n:Nat}{xs:VO}(h:xs.all (dl n)=true)(hd:dl n d=true):(xs.any fun y=>PyData.eqv y d)=decide (d∈xs):=by
 rw [Ro,TJ,RS];rw [QK] at h;constructor
 ·rintro ⟨y,hy,e⟩;rw [DP (h y hy) hd,RS] at e;exact e ▸ hy
 ·intro m;exact ⟨d,m,by rw [DP hd hd];simp⟩
def Ma {K:Frag}(neg:Bool):cP K (Eb neg) (r2 (By K neg)):=by
 intro H Hm vs ds P Q s r h q;unfold Eb at h;split at h
 ·rename_i d xs;obtain ⟨x,y,rfl,h1,h2⟩:=cO r;obtain ⟨⟨ha,hd⟩,p⟩:=h;refine ⟨d,xs,(h1.mono s).oz (k9 hd),.inl ((h2.mono s).oz (by rw [nd];exact pI fun d hd=>k9 (QK.mp ha d hd))),mL fun e he=>(iW (QK.mp ha e he)).1,(iW hd).1,QW (iW hd).2 (by decide),?_⟩
  rw [AO ha hd];exact bG.sc q s p (.bl _)
 ·rename_i d xs;obtain ⟨x,y,rfl,h1,h2⟩:=cO r;obtain ⟨⟨ha,hd⟩,p⟩:=h;refine ⟨d,xs,(h1.mono s).oz (k9 hd),.inr ((h2.mono s).oz (by rw [nd];exact pI fun d hd=>k9 (QK.mp ha d hd))),mL fun e he=>(iW (QK.mp ha e he)).1,(iW hd).1,QW (iW hd).2 (by decide),?_⟩
  rw [AO ha hd];exact bG.sc q s p (.bl _)
 ·exact h.elim
def Dl:DR:=fun ds P=>match ds with
 | [.list xs,.int i]=>∃ d,eE xs i=some d/\P .sh d
 | [.tuple xs,.int i]=>∃ d,eE xs i=some d/\P .sh d
 | _=>False
theorem aA.eE (r:aA K H vs ds){i:Int}(h:L2.eE ds i=some d):∃ v,L2.eE vs i=some v/\Rp K H v d:=by
 unfold L2.eE at h ⊢;rw [r.len];cases e:nU ds.length i with
 | none=>rw [e] at h;cases h
 | some j =>
  rw [e] at h;exact r.get h
def xg:cP K Dl (r2 (Lm K)):=by
 intro H Hm vs ds P Q s r h q;unfold Dl at h;split at h
 ·obtain ⟨x,y,rfl,h1,h2⟩:=cO r;obtain ⟨d,e,p⟩:=h;cases h2;cases h1 with
  | lst a1 r1 =>
   obtain ⟨v,e2,rv⟩:=r1.eE e;exact .inl ⟨_,_,_,v,rfl,rfl,(cy.mono s a1).sq,e2,bG.sc q s p rv⟩
 ·obtain ⟨x,y,rfl,h1,h2⟩:=cO r;obtain ⟨d,e,p⟩:=h;cases h2;cases h1 with
  | tup a1 r1 =>
   obtain ⟨v,e2,rv⟩:=r1.eE e;exact .inr (.inl ⟨_,_,_,v,rfl,rfl,cj.of (s _ _ a1),e2,bG.sc q s p rv⟩)
 ·exact h.elim
def cutD (xs:VO)(lo hi:Option Int):VO:=(xs.drop (HT.aN xs.length 0 lo)).take (HT.aN xs.length xs.length hi - HT.aN xs.length 0 lo)
def aA.cut (r:aA K H vs ds)(lo hi:Option Int):aA K H (m6 vs lo hi) (cutD ds lo hi):=by
 unfold m6 cutD;rw [r.len];exact (r.drop _).take _
def D9 (d:PyData)(lo hi:Option Int)(P:Vb):Prop:=match d with
 | .list xs=>P (.ow false) (.list (cutD xs lo hi))
 | .tuple xs=>P .sh (.tuple (cutD xs lo hi))
 | _=>False
def oA (bl bh:Bool):DR:=fun ds P=>match bl,bh,ds with
 | false,false,[d]=>D9 d none none P
 | true,false,[d,.int a]=>D9 d (some a) none P
 | false,true,[d,.int b]=>D9 d none (some b) P
 | true,true,[d,.int a,.int b]=>D9 d (some a) (some b) P
 | _,_,_=>False
def ue (K:Frag):V->Option Int->Option Int->Hp->VK->Prop:=fun x lo hi H Q=>LB K x lo hi H Q\/HJ K x lo hi H Q
def Mv:Dt X (ue X.K):=fun pins s U H x v vl vu lo hi sl Q I rx hs pl pu h=>h.elim (JJ pins s U H x v vl vu lo hi sl Q I rx hs pl pu) (Ko pins s U H x v vl vu lo hi sl Q I rx hs pl pu)
def HH (bl bh:Bool)(K:Frag):List V->Hp->VK->Prop:=fun vs H Q=>match bl,bh,vs with
 | false,false,[x]=>ue K x none none H Q
 | true,false,[x,a]=>∃ i,a=.int i/\ue K x (some i) none H Q
 | false,true,[x,b]=>∃ i,b=.int i/\ue K x none (some i) H Q
 | true,true,[x,a,b]=>∃ i,a=.int i/\∃ j,b=.int j/\ue K x (some i) (some j) H Q
 | _,_,_=>False
def BH (h:HT.aN xs.length 0 lo=0/\HT.aN xs.length xs.length hi=xs.length):cutD xs lo hi=xs:=by
 unfold cutD;rw [h.1,h.2,UW,Nat.sub_zero,RW]
def su (q:bG K H Hm P Q)(s:ah Hm H)(h1:Rp K Hm x d)(h:D9 d lo hi P):ue K x lo hi H Q:=by
 cases h1 with
 | lst a1 r1=>exact .inl ⟨_,_,rfl,(cy.mono s a1).sq,fun p hp=>bG.nl q s h hp (r1.cut lo hi)⟩
 | tup a1 r1 =>
  refine .inr ⟨_,_,rfl,cj.of (s _ _ a1),fun w=>?_,fun _ p hp=>bG.nt q s h hp (r1.cut lo hi)⟩
  rw [r1.len] at w;have h:P .sh (.tuple (cutD _ lo hi)):=h;rw [BH w] at h;exact bG.sc q s h (.tup a1 r1)
 | _=>exact h.elim
def D3 (bl bh:Bool):cP K (oA bl bh) (HH bl bh K):=by
 intro H Hm vs ds P Q s r h q;unfold oA at h;split at h
 ·obtain ⟨x,rfl,h1⟩:=dO r;exact su q s h1 h
 ·obtain ⟨x,y,rfl,h1,h2⟩:=cO r;cases h2;exact ⟨_,rfl,su q s h1 h⟩
 ·obtain ⟨x,y,rfl,h1,h2⟩:=cO r;cases h2;exact ⟨_,rfl,su q s h1 h⟩
 ·obtain ⟨x,y,z,rfl,h1,h2,h3⟩:=Po r;cases h2;cases h3;exact ⟨_,rfl,_,rfl,su q s h1 h⟩
 ·exact h.elim
section
variable {X:Cx}{Ex:XK}{Y:VV}{a l u:Expr}{pos p2:Pos}{as:List Arg}
def Li (S:aU X Ex Y [a,u] as):SE X Ex Y (.Subscript a (.Slice none (some u) none p2) pos) (aa (oA false true) as):=i9 (r:=HH false true X.K) S (fun U H Q h=>WE.of (FJ Mv bP Ja (Kl bP)) h) (D3 _ _)
open PyProof.Rows in
def ML (h:vR X [a,l,u] U H fun vs H1=>HH true true X.K vs H1 Q):WE X (.Subscript a (.Slice (some l) (some u) none p2) pos) U H Q:=by
 intro pins s I;refine Subscript_ (aR (h pins s I) fun v s1 ⟨x,H1,I1,r1,q1⟩=>?_)
 refine wpAny_Slice ?_;rw [evalPart_some];refine aR (q1 pins s1 I1) fun vl s2 ⟨y,H2,I2,pl,q2⟩=>?_
 rw [evalPart_some];refine aR (q2 pins s2 I2) fun vu s3 ⟨z,H3,I3,pu,q3⟩=>?_
 obtain ⟨i,rfl,j,rfl,q3⟩:=q3;obtain ⟨t1,rfl⟩:=pl;obtain ⟨t2,rfl⟩:=pu;rw [evalPart_none];refine Q5 ?_;have I4:Inv X pins U H3 { s3 with heap:=s3.heap.push { cls:=.type "slice",data:=.fields #[.int i t1,.int j t2,.none] } }:=I3.kept (t':=s3.toks) fun b ob q=>QL _ q
 obtain ⟨T,id,hT,ht,hg⟩:=Mv pins { s3 with heap:=s3.heap.push { cls:=.type "slice",data:=.fields #[.int i t1,.int j t2,.none] } } U H3 x v (.int i t1) (.int j t2) (some i) (some j) s3.heap.objs.size Q I4 r1 (Heap.IsSliceOf.new ..) (.int i t1) (.int j t2) q3
 show wpAny (model X.prog X.w) X.A (subscriptTail a (.Slice (some l) (some u) none p2) v (.ref s3.heap.objs.size)) (EP X pins U Q) X.xe { s3 with heap:=s3.heap.push { cls:=.type "slice",data:=.fields #[.int i t1,.int j t2,.none] } }
 exact tail_any (ops:=[.ref s3.heap.objs.size,v]) ht hT hg (by with_unfolding_all rfl)
def L1 (S:aU X Ex Y [a,l,u] as):SE X Ex Y (.Subscript a (.Slice (some l) (some u) none p2) pos) (aa (oA true true) as):=i9 (r:=HH true true X.K) S (fun U H Q h=>ML h) (D3 _ _)
end
end Dv
namespace L2
open PySem PySem.Spec PyProof.Rows
section
variable {X:Cx}
def EI (hc:X.calm=true):b8 X (.builtin "any") (fun xs H Q=>∃ (a:Addr)(bs:VS),xs=[.ref a]/\bX X.K H a (bs.map V.bl)/\Q (.bl (bs.any id)) H):=by
 intro pins s U H xs us Q I r h;obtain ⟨a,bs,rfl,hq,q⟩:=h;obtain ⟨u,rfl,ru⟩:=vals1 r;cases ru;obtain ⟨its,rv,p,_⟩:=I.list hq;have hl:=p.isList;have hlt:a < s.heap.objs.size:=by
  obtain ⟨o,ho,_⟩:=id hl;exact QD ho
 have hh:X.A.in1.handled=none:=by simp [I.ok.hd hc]
 refine call_any_walk (UO hl ?_);refine ⟨_,_,_,_,_,_,fun i=>bs.getD i false,rfl,Walks.list hh _ a (QG hlt) its.toArray,⟨⟨_,R7 _ rfl,rfl,rfl⟩,hl.push _⟩,fun i v s' Q' E' hP hQ=>?_,fun h' tk hk=>?_⟩
 ·have hP':its[i]?=some v:=by simpa using hP
  obtain ⟨x,hx,rx⟩:=qq rv i v hP';rw [QN] at hx;cases e:bs[i]? with
  | none=>rw [e] at hx;cases hx
  | some b =>
   rw [e] at hx;cases hx;cases rx;have e2:bs.getD i false=b:=by rw [RD,e];rfl
   dsimp only at hQ;rw [e2] at hQ;exact SR hQ
 ·have kp:∀ b o,s.heap.get? b=some o->h'.get? b=some o:=fun b o hb=>hk b o (by
   have:=QD hb;simp only [QF];exact QG this) (QL _ hb)
  have len:its.toArray.size=bs.length:=by rw [QJ,<- rv.length,Q8]
  refine ⟨.bl _,H,I.kept (t':=tk) kp,rfl,?_⟩;have e:(List.range its.toArray.size).any (fun i=>bs.getD i false)=bs.any id:=by
   rw [len,Ro,TJ,TJ];constructor
   ·rintro ⟨i,hi,h⟩;have hi':=Qv.mp hi;rw [RD,QV hi'] at h;exact ⟨_,Rn hi',h⟩
   ·rintro ⟨b,hb,h⟩;obtain ⟨i,hi⟩:=Rt hb;refine ⟨i,Qv.mpr (RT.mp hi).1,?_⟩;rw [RD,hi];exact h
  rw [e];exact q
end
section
variable {X:Cx}
def zL:b8 X (.type "range") (fun xs H Q=>∃ j:Int,xs=[.int j]/\∀ p,H p=none->Q (.ref p) (upd H p (.qA 0 j))):=by
 intro pins s U H xs us Q I r h;obtain ⟨j,rfl,q⟩:=h;obtain ⟨u,rfl,ru⟩:=vals1 r;obtain ⟨t,rfl⟩:=ru;refine call_range_1 (?_:_)
 exact ⟨.ref s.heap.objs.size,_,I.laid (o:=.qA 0 j) (fun b o e=>QL _ e) (Q6 _) ⟨_,_,_,R7 _ rfl⟩,rfl,q _ (I.hok.fresh (Q6 _))⟩
def AZ (hc:X.calm=true):b8 X (.type "list") (fun xs H Q=>∃ (a:Addr) (j:Int),xs=[.ref a]/\H a=some (.qA 0 j)/\0<=j/\j<=1000/\∀ l,H l=none->Q (.ref l) (upd H l (.lst (((List.range j.toNat).map fun i:Nat=>(i:Int)).map V.int)))):=by
 intro pins s U H xs us Q I r h;obtain ⟨a,j,rfl,ha,j0,j1,q⟩:=h;obtain ⟨u,rfl,ru⟩:=vals1 r;cases ru;obtain ⟨t,u,v,e⟩:=I.hok a _ ha;refine call_list_range (n:=j.toNat) (I.ok.hd hc) e (small_one (by decide) (by decide) (by lia) (by lia)) (by rw [rangeSize_one];split <;> lia) (by lia) fun h' tk acc c kp hS its=>?_
 obtain ⟨z1,z2⟩:=its;have rv:Vals (((List.range j.toNat).map fun i:Nat=>(i:Int)).map V.int) acc.toList:=by
  have go:∀ (l:VQ) (k:Nat),(∀ (i:Nat)(v:Value),l[i]?=some v->∃ t:Tok,v=Value.int ((k + i:Nat):Int) t)->Vals (((List.range' k l.length).map fun i:Nat=>(i:Int)).map V.int) l:=fun l=>by
   induction l with
   | nil=>exact fun k _=>.nil
   | cons x l ih =>
    intro k h;obtain ⟨t,e⟩:=h 0 x rfl;refine .cons ⟨t,by simpa using e⟩ (ih (k + 1) fun i v hv=>?_)
    obtain ⟨t,e⟩:=h (i + 1) v hv;exact ⟨t,by rw [e,Nat.add_assoc,Nat.add_comm 1 i]⟩
  have:=go acc.toList 0 fun i v hv=>by
   obtain ⟨t,e⟩:=z2 i v (by simpa using hv)
   exact ⟨t,by rw [e];simp⟩
  rw [Uo]
  simpa [z1] using this
 exact ⟨.ref s.heap.objs.size,_,I.laid (t':=tk) kp (Q6 _) (o:=.lst _) ⟨by rw [Q8,Q8,QI];exact QW (show j.toNat<=1000 by lia) (by decide),acc.toList,c,rv,by simpa using hS⟩,rfl,q _ (I.hok.fresh (Q6 _))⟩
end
end L2
namespace Dv
open PySem L2 PySem.W
section
variable {X:Cx}{Ex:XK}{Y:VV}
def BC (h:PE X e (tC u))(r:∀ Hm,Rp X.K Hm u v):SE X Ex Y e (dC v):=fun g x E U H Hm F P Q hx R p q=>WE.of h (q _ _ _ _ _ _ _ [] p R (ah.refl _) (Tm.sh (r Hm)))
def Ng {i j:Nat}(h:PE X e (nL j))(hj:Y[j]?=some i):SE X Ex Y e (aG i):=by
 intro g x E U H Hm F P Q hx R p q
 replace p:DK E i P:=p
 unfold DK at p;split at p
 rotate_left
 ·exact p.elim
 rename_i k d e1;rw [<- bB,Aa] at p;obtain ⟨E',e2,p⟩:=p;obtain ⟨v,Hm',F',h1,s,R',r⟩:=R.dD e1 e2;exact WE.of h ⟨v,eX hj h1,q _ _ _ _ _ _ _ [] p R' s (Tm.sh r)⟩
def aW (X:Cx)(Ex:XK)(Y:VV)(e:Expr)(d:DE):Prop :=
 ∀ (g:Gh)(x:XC)(E:En)(U:St)(H Hm:Hp)(F:Nat->VR)(P:VY)(Q:Bool->Hp->Prop),XL X Ex x g->Rl X.K g E U H Hm F->d x E P ->
  (∀ E' k v H' Hm' F',P E' k v->Rl X.K g E' U H' Hm' F'->ah Hm Hm'->∃ b,lG v=some b/\Q b H')->WT X e (sel Y U) H Q
def aW.st {e:Expr}{d:DE}(h:aW X Ex Y e d):ST X Ex Y e (aX d):=by
 rw [JU];exact fun g x E U H Hm F P Q hx R p q=>h g x E U H Hm F _ Q hx R p fun E' k v H' Hm' F' ⟨b,e1,p⟩ R' s=>⟨b,e1,q _ _ _ _ _ p R' s⟩
theorem Rp.lG {b:Bool}(r:Rp K H u v)(h:Dv.lG v=some b):uD K u H b:=by
 cases r with
 | bE=>cases h;rfl
 | bl c=>cases h;rfl
 | int i =>
  cases h;show (!decide (i=0))=(i != 0);rw [bne,Bool.beq_eq_decide_eq]
 | str _=>cases h
 | lst a r1 =>
  cases h;refine .inl ⟨_,a.sq,?_⟩;cases r1 <;> rfl
 | tup a r1 =>
  cases h;refine .inr (.inl ⟨_,cj.of a,?_⟩);cases r1 <;> rfl
 | dk _ _=>cases h
 | dt _ _=>cases h
 | exc _ _=>cases h
theorem Own.lG {b:Bool}(o:Own K H Hm k u v fp)(s:ah Hm H)(h:Dv.lG v=some b):uD K u H b:=by
 by_cases hk:k.rd=true
 ·exact (o.rp (Hm':=H) hk s fun _ _=>rfl).lG h
 ·cases o <;> first | exact absurd rfl hk | cases h
def SE.Aq (h:SE X Ex Y e d)(he:∀ whole,isTrue e X.env whole=(do let v <- whole;standAt e.pos;holding [v] (truthy v))):aW X Ex Y e d:=by
 intro g x E U H Hm F P Q hx R p q;refine WT.of (x9 bP he) (h g x E U H Hm F P _ hx R p fun E' k v u H' Hm' F' fp p' R' s T=>?_)
 obtain ⟨b,e1,q'⟩:=q _ _ _ _ _ _ p' R' s;exact ⟨b,T.own.lG R'.sub e1,q'⟩
def Mu (ho:bN X (compareOp op) r)(hm:behindInMarks op b=false)(h:vR X [a,b] U H fun vs H1=>r2 r vs H1 fun x H'=>∃ k,uD X.K x H' k/\Q k H'):WT X (.Compare a [op] [b] pos) U H Q:=by
 intro pins s I;refine wpAny_isTrue_Compare1 (aR (h pins s I) fun v s1 ⟨x,H1,I1,r1,q1⟩=>aR (q1 pins s1 I1) fun u s2 ⟨y,H2,I2,r2,q2⟩=>aR (ho pins s2 U H2 x y v u _ I2 r1 r2 q2) fun c s3 ⟨z,H3,I3,r3,q3⟩=>?_) hm
 exact Di pins s3 U H3 z c Q I3 r3 q3
def Nb (S:aU X Ex Y es as)(hr:∀ U H (Q:Bool->Hp->Prop),vR X es U H (fun vs H1=>r vs H1 fun x H'=>∃ k,uD X.K x H' k/\Q k H')->WT X e U H Q)(D:cP X.K f r):aW X Ex Y e (aa f as):=by
 intro g x E U H Hm F P Q hx R h q;refine hr _ _ _ (kH hx S R h fun E1 os vs H1 Hm1 F1 p R1 s1 G=>?_)
 replace p:yo f as E1 os P:=p
 unfold yo at p;rw [<- bB,fE] at p;obtain ⟨ds,hf,hg⟩:=p;have off:∀ a∈(f6 as).flatMap F1,Hm1 a=none:=fun a ha=>by
  obtain ⟨i,_,h⟩:=RI.mp ha;exact R1.off i a h
 have up:=jo (Hm:=Hm1) (H:=H1) off;refine D H1 (lend Hm1 H1 ((f6 as).flatMap F1)) vs ds _ _ (k7 R1.sub) (qh R1 up G hf fun i hi a ha=>fO (RI.mpr ⟨i,hi,ha⟩)) hg fun k v u H' Hm2 fp p sH sM sS old o fr=>?_
 replace p:aB (q8 as E1 k v) _:=p
 rw [<- bB,Ao] at p;obtain ⟨E2,ha,p⟩:=p;obtain ⟨Hm',F',R',s',T⟩:=wZ R1 (is:=f6 as) (yV ha) sH sM sS old o fr;obtain ⟨b,e1,q'⟩:=q _ _ _ _ _ _ p R' (s1.trans s');exact ⟨b,o.lG sS e1,q'⟩
def iK (ho:bN X (compareOp op) r)(hm:behindInMarks op b=false)(D:cP X.K f (r2 r))(S:aU X Ex Y [a,b] as):aW X Ex Y (.Compare a [op] [b] pos) (aa f as):=Nb S (fun U H Q h=>Mu ho hm h) D
theorem Own.bool {c:Bool}(o:Own K H Hm k u (.bool c) fp):u=.bl c:=by
 cases o with
 | sh r=>cases r;rfl
theorem Own.int {i:Int}(o:Own K H Hm k u (.int i) fp):u=.int i:=by
 cases o with
 | sh r=>cases r;rfl
def ME (h:SE X Ex Y a d):SE X Ex Y (.BoolOp op [a] pos) d:=fun g x E U H Hm F P Q hx R p q=>WE.of (Mr bP) (h g x E U H Hm F P Q hx R p q)
def K8 {a b:Expr}{rest:VT}{pos:Pos}{d e:DE}(ha:SE X Ex Y a d)(hb:SE X Ex Y (.BoolOp .And (b::rest) pos) e):SE X Ex Y (.BoolOp .And (a::b::rest) pos) (rS d e):=by
 rw [Aj];intro g x E U H Hm F P Q hx R p q;refine WE.of (K4 bP bP) (ha g x E U H Hm F _ _ hx R p fun E1 k v u H1 Hm1 F1 fp p1 R1 s1 T=>?_)
 obtain ⟨c,rfl,p1⟩:=p1;refine ⟨c,T.own.bool,?_⟩;cases c with
 | true=>exact oY (hb g x E1 U H1 Hm1 F1 P Q hx R1 p1 fun E' k v u H' Hm' F' fp p' R' s' T'=>q _ _ _ _ _ _ _ _ p' R' (s1.trans s') T')
 | false=>exact pQ (q _ _ _ _ _ _ _ [] p1 R1 s1 (Tm.sh (.bl false)))
def AW (ha:aW X Ex Y a d):aW X Ex Y (.UnaryOp .Not a pos) (uG d):=by
 rw [JE];intro g x E U H Hm F P Q hx R p q;refine WT.of (CK jJ) (ha g x E U H Hm F _ _ hx R p fun E1 k v H1 Hm1 F1 p1 R1 s1=>?_)
 obtain ⟨c,hc,p1⟩:=p1;obtain ⟨b,e1,q'⟩:=q _ _ _ _ _ _ p1 R1 s1;refine ⟨c,hc,?_⟩;cases e1;exact q'
def WW (X:Cx)(e:Expr):TT:=fun U H Q=>∀ (whole:Sem Value)(pins:VF)(s:Shared),Inv X pins U H s->wpAny (model X.prog X.w) X.A (isTrue e X.env whole) (TP X pins U Q) X.xe s
def pw_ww:PW X e (WW X e):=fun wh pins s _ _ _ I h=>h wh pins s I
def WW.of (h:PW X e t)(q:t U H Q):WW X e U H Q:=fun wh pins s I=>h wh pins s U H Q I q
def pG (X:Cx)(Ex:XK)(Y:VV)(e:Expr)(d:DE):Prop :=
 ∀ (g:Gh)(x:XC)(E:En)(U:St)(H Hm:Hp)(F:Nat->VR)(P:VY)(Q:Bool->Hp->Prop),XL X Ex x g->Rl X.K g E U H Hm F->d x E P ->
  (∀ E' k v H' Hm' F',P E' k v->Rl X.K g E' U H' Hm' F'->ah Hm Hm'->∃ b,lG v=some b/\Q b H')->WW X e (sel Y U) H Q
def pG.Aq (h:pG X Ex Y e d):aW X Ex Y e d:=fun g x E U H Hm F P Q hx R p q=>WT.of (PW.pt pw_ww) (h g x E U H Hm F P Q hx R p q)
def p7 (h:aW X Ex Y a d):pG X Ex Y (.BoolOp op [a] pos) d:=fun g x E U H Hm F P Q hx R p q=>by
 cases op with
 | And=>exact WW.of (pw_and1 jJ) (h g x E U H Hm F P Q hx R p q)
 | Or=>exact WW.of (pw_or1 jJ) (h g x E U H Hm F P Q hx R p q)
def Jo {a b:Expr}{rest:VT}{pos:Pos}{d e:DE}(ha:aW X Ex Y a d)(hb:pG X Ex Y (.BoolOp .And (b::rest) pos) e):pG X Ex Y (.BoolOp .And (a::b::rest) pos) (rS d e):=by
 rw [Aj];intro g x E U H Hm F P Q hx R p q;refine WW.of (pw_and jJ pw_ww) (ha g x E U H Hm F _ _ hx R p fun E1 k v H1 Hm1 F1 p1 R1 s1=>?_)
 obtain ⟨c,rfl,p1⟩:=p1;refine ⟨c,rfl,?_⟩;cases c with
 | true=>exact oY (hb g x E1 U H1 Hm1 F1 P Q hx R1 p1 fun E' k v H' Hm' F' p' R' s'=>q _ _ _ _ _ _ p' R' (s1.trans s'))
 | false =>
  obtain ⟨b,e1,q'⟩:=q _ _ _ _ _ _ p1 R1 s1;cases e1;exact pQ q'
def yc {a b:Expr}{rest:VT}{pos:Pos}{d e:DE}(ha:aW X Ex Y a d)(hb:pG X Ex Y (.BoolOp .Or (b::rest) pos) e):pG X Ex Y (.BoolOp .Or (a::b::rest) pos) (zd d e):=by
 rw [K7];intro g x E U H Hm F P Q hx R p q;refine WW.of (pw_or jJ pw_ww) (ha g x E U H Hm F _ _ hx R p fun E1 k v H1 Hm1 F1 p1 R1 s1=>?_)
 obtain ⟨c,rfl,p1⟩:=p1;refine ⟨c,rfl,?_⟩;cases c with
 | true =>
  obtain ⟨b,e1,q'⟩:=q _ _ _ _ _ _ p1 R1 s1;cases e1;exact oY q'
 | false=>exact pQ (hb g x E1 U H1 Hm1 F1 P Q hx R1 p1 fun E' k v H' Hm' F' p' R' s'=>q _ _ _ _ _ _ p' R' (s1.trans s'))
def ve (ho:bN X (compareOp op) (n5 fun i j=>.bl (f i j)))(ho':bN X (compareOp op') (n5 fun i j=>.bl (f' i j)))(hm:lastMarks [op,op'] [b,c]=false)
  (ha:SE X Ex Y a da)(hb:SE X Ex Y b db)(hc:SE X Ex Y c dc):aW X Ex Y (.Compare a [op,op'] [b,c] pos) (mY f f' da db dc):=by
 rw [Cr];intro g x E U H Hm F P Q hx R p q;refine WT.of (Gk ho ho' bP bP bP hm) (ha g x E U H Hm F _ _ hx R p fun E1 k1 v1 u1 H1 Hm1 F1 fp1 p1 R1 s1 T1=>?_)
 obtain ⟨i,rfl,p1⟩:=p1;cases T1.own.int;refine hb g x E1 U H1 Hm1 F1 _ _ hx R1 p1 fun E2 k2 v2 u2 H2 Hm2 F2 fp2 p2 R2 s2 T2=>?_
 obtain ⟨j,rfl,p2⟩:=p2;cases T2.own.int;refine ⟨i,j,rfl,rfl,f i j,rfl,?_⟩
 by_cases z:f i j=true
 ·rw [if_pos z] at p2 ⊢;refine hc g x E2 U H2 Hm2 F2 _ _ hx R2 p2 fun E3 k3 v3 u3 H3 Hm3 F3 fp3 p3 R3 s3 T3=>?_
  obtain ⟨k,rfl,p3⟩:=p3;cases T3.own.int;obtain ⟨b',e1,q'⟩:=q _ _ _ _ _ _ p3 R3 (s1.trans (s2.trans s3));cases e1;exact ⟨j,k,rfl,rfl,_,rfl,q'⟩
 ·rw [if_neg z] at p2 ⊢;obtain ⟨b',e1,q'⟩:=q _ _ _ _ _ _ p2 R2 (s1.trans s2);cases e1;exact ⟨_,rfl,q'⟩
def wk (hc:ST X Ex Y c t)(ha:SE X Ex Y a d)(hb:SE X Ex Y b e):SE X Ex Y (.IfExp c a b pos) (vB t d e):=by
 rw [MK];intro g x E U H Hm F P Q hx R p q;refine WE.of (Gu jJ bP bP) (hc g x E U H Hm F _ _ hx R p fun E1 b H1 Hm1 F1 p1 R1 s1=>?_)
 cases b with
 | true=>exact oY (ha g x E1 U H1 Hm1 F1 P Q hx R1 (by simpa using p1) fun E' k v u H' Hm' F' fp p' R' s' T'=>q _ _ _ _ _ _ _ _ p' R' (s1.trans s') T')
 | false=>exact pQ (hb g x E1 U H1 Hm1 F1 P Q hx R1 (by simpa using p1) fun E' k v u H' Hm' F' fp p' R' s' T'=>q _ _ _ _ _ _ _ _ p' R' (s1.trans s') T')
def O0 {i j:Nat}(h:PE X e (nL j))(hj:Y[j]?=some i)(he:∀ whole,isTrue e X.env whole=(do let v <- whole;standAt e.pos;holding [v] (truthy v))):ST X Ex Y e (Av i):=by
 intro g x E U H Hm F P Q hx R p q
 replace p:D5 E i P:=p
 unfold D5 at p;split at p
 rotate_left
 ·exact p.elim
 rename_i k d e1;rw [dH,<- BQ] at p;obtain ⟨hk,b,ht,p⟩:=p;obtain ⟨v,h1,h2⟩:=R.slot i k d e1;exact WT.of (x9 h he) ⟨v,eX hj h1,b,h2.lG R.sub ht,q _ _ _ _ _ p R (ah.refl _)⟩
def oH (ha:ST X Ex Y a t):ST X Ex Y (.UnaryOp .Not a pos) (qS t):=by
 intro g x E U H Hm F P Q hx R p q;exact WT.of (CK jJ) (ha g x E U H Hm F _ _ hx R p fun E1 b H1 Hm1 F1 p1 R1 s1=>q _ _ _ _ _ p1 R1 s1)
end
def noStar:Expr->Bool
 | .Starred ..=>false
 | _=>true
def b5 (h:noStar e=true):starEach (e::es) env=(false,eval e env)::starEach es env:=by
 cases e <;> first | rfl | cases h
theorem gc:∀ {es:VT},es.all noStar=true->(backTo pos (starEach es env)).any (·.1)=false
 | [],_=>rfl
 | e::es,h=>by
  rw [QM,QC] at h;rw [b5 h.1];show (false || (backTo pos (starEach es env)).any (·.1))=false;rw [gc h.2];rfl
section
variable {X:Cx}{Ex:XK}{Y:VV}
theorem dW:∀ {es:VT},es.all noStar=true->PA X es (vR X es)
 | [],_=>tw
 | e::es,h=>by
  rw [QM,QC] at h;exact qd bP (dW h.2) (b5 h.1)
def fB {x:Str}{id:String}{p pos:Pos}{e:Expr}{es:VT}{as:List Arg}{f:DR}{r:List V->Hp->VK->Prop}(hc:b8 X (.builtin id) r)(D:cP X.K f r)(hg:Gl X x)(hm:X.mg x=none)(hv:bootBuiltins x=some (.builtin id))(hn:x≠"__name__")(hd:(x == ("__debug__":Str))=false)
  (ns:(e::es).all noStar=true)(S:aU X Ex Y (e::es) as):SE X Ex Y (.Call (.Name x p) (e::es) [] pos) (aa f as) :=
 i9 S (fun U H Q h=>WE.of (zj hc hg hm hv (dW ns) hn hd (b5 (by rw [QM,QC] at ns;exact ns.1)) (gc (by rw [QM,QC] at ns;exact ns.2))) h) D
def oS (hc:b8 X (.type T) r)(D:cP X.K f r)(hg:Gl X x)(hm:X.mg x=none)(hv:bootBuiltins x=some (.type T))(hn:x≠"__name__")(hd:(x == ("__debug__":Str))=false)
  (ns:(e::es).all noStar=true)(S:aU X Ex Y (e::es) as):SE X Ex Y (.Call (.Name x p) (e::es) [] pos) (aa f as) :=
 i9 S (fun U H Q h=>WE.of (lM hc hg hm hv (dW ns) hn hd (b5 (by rw [QM,QC] at ns;exact ns.1)) (gc (by rw [QM,QC] at ns;exact ns.2))) h) D
def bS:DR:=fun ds P=>ds.length<=sizeLine/\P (.ow false) (.list ds)
def ie:DR:=fun ds P=>ds.length<=sizeLine/\P .sh (.tuple ds)
def IK:cP K bS fun xs H Q=>xs.length<=sizeLine/\∀ p,H p=none->Q (.ref p) (upd H p (.lst xs)):=fun H Hm vs ds P Q s r h q=>⟨by rw [r.len];exact h.1,fun p hp=>bG.nl q s h.2 hp r⟩
def IX:cP K ie fun xs H Q=>xs.length<=sizeLine/\∀ p,H p=none->Q (.ref p) (upd H p (.tup xs)):=fun H Hm vs ds P Q s r h q=>⟨by rw [r.len];exact h.1,fun p hp=>bG.nt q s h.2 hp r⟩
def KD (ns:es.all noStar=true)(S:aU X Ex Y es as):SE X Ex Y (.List es pos) (aa bS as):=i9 S (fun U H Q h=>WE.of (LS (dW ns)) h) IK
def Ld {k:Nat}(ns:es.all noStar=true)(S:aU X Ex Y es as):SE X Ex Y (.Tuple es k pos) (aa ie as):=i9 S (fun U H Q h=>WE.of (MZ (dW ns)) h) IX
def F9:DR:=fun ds P=>match ds with
 | [.list xs]=>P .sh (.int xs.length)
 | [.tuple xs]=>P .sh (.int xs.length)
 | _=>False
def JR:cP K F9 fun xs H Q=>∃ p ys,xs=[.ref p]/\(bX K H p ys\/cj K H p ys)/\Q (.int ys.length) H:=by
 intro H Hm vs ds P Q s r h q;unfold F9 at h;split at h
 ·obtain ⟨x,rfl,h1⟩:=dO r;cases h1 with
  | lst a r1=>exact ⟨_,_,rfl,.inl (cy.mono s a).sq,by rw [r1.len];exact bG.sc q s h (.int _)⟩
 ·obtain ⟨x,rfl,h1⟩:=dO r;cases h1 with
  | tup a r1=>exact ⟨_,_,rfl,.inr (cj.of (s _ _ a)),by rw [r1.len];exact bG.sc q s h (.int _)⟩
 ·exact h.elim
def kj:DR:=fun ds P=>match ds with
 | [.list xs]=>P (.ow false) (.list xs)
 | [.tuple xs]=>P (.ow false) (.list xs)
 | _=>False
def FY:cP K kj fun xs H Q=>∃ p ys,xs=[.ref p]/\(bX K H p ys\/cj K H p ys)/\∀ l,H l=none->Q (.ref l) (upd H l (.lst ys)):=by
 intro H Hm vs ds P Q s r h q;unfold kj at h;split at h
 ·obtain ⟨x,rfl,h1⟩:=dO r;cases h1 with
  | lst a r1=>exact ⟨_,_,rfl,.inl (cy.mono s a).sq,fun p hp=>bG.nl q s h hp r1⟩
 ·obtain ⟨x,rfl,h1⟩:=dO r;cases h1 with
  | tup a r1=>exact ⟨_,_,rfl,.inr (cj.of (s _ _ a)),fun p hp=>bG.nl q s h hp r1⟩
 ·exact h.elim
def mR:DR:=fun ds P=>match ds with
 | [.list xs]=>P .sh (.tuple xs)
 | [.tuple xs]=>P .sh (.tuple xs)
 | _=>False
def Ew:cP K mR fun xs H Q=>∃ p ys,xs=[.ref p]/\((bX K H p ys/\∀ l,H l=none->Q (.ref l) (upd H l (.tup ys)))\/(cj K H p ys/\Q (.ref p) H)):=by
 intro H Hm vs ds P Q s r h q;unfold mR at h;split at h
 ·obtain ⟨x,rfl,h1⟩:=dO r;cases h1 with
  | lst a r1=>exact ⟨_,_,rfl,.inl ⟨(cy.mono s a).sq,fun p hp=>bG.nt q s h hp r1⟩⟩
 ·obtain ⟨x,rfl,h1⟩:=dO r;cases h1 with
  | tup a r1=>exact ⟨_,_,rfl,.inr ⟨cj.of (s _ _ a),bG.sc q s h (.tup a r1)⟩⟩
 ·exact h.elim
def wm:DR:=nJ fun i j=>.int (if j < i then j else i)
def tZ:DR:=nJ fun i j=>.int (if j > i then j else i)
def HG {f:Int->Int->Int}:cP K (nJ fun i j=>.int (f i j)) fun xs H Q=>∃ i j,xs=[.int i,.int j]/\Q (.int (f i j)) H:=by
 intro H Hm vs ds P Q s r h q;refine uF h fun a b e p=>?_
 subst e;obtain ⟨x,y,rfl,h1,h2⟩:=cO r;cases h1;cases h2;exact ⟨a,b,rfl,bG.sc q s p (.int _)⟩
def wR:DR:=fun ds P=>match ds with
 | [.int i]=>P .sh (.int (if i < 0 then -i else i))
 | _=>False
def Ks:cP K wR fun xs H Q=>∃ i,xs=[.int i]/\Q (.int (if i < 0 then -i else i)) H:=by
 intro H Hm vs ds P Q s r h q;unfold wR at h;split at h
 ·obtain ⟨x,rfl,h1⟩:=dO r;cases h1;exact ⟨_,rfl,bG.sc q s h (.int _)⟩
 ·exact h.elim
def mP:DR:=fun ds P=>match ds with
 | [.int i]=>P .sh (.int i)
 | [.bool k]=>P .sh (.int (if k then 1 else 0))
 | _=>False
def Cw:cP K mP fun xs H Q=>(∃ i,xs=[.int i]/\Q (.int i) H)\/∃ k,xs=[.bl k]/\Q (.int (if k then 1 else 0)) H:=by
 intro H Hm vs ds P Q s r h q;unfold mP at h;split at h
 ·obtain ⟨x,rfl,h1⟩:=dO r;cases h1;exact .inl ⟨_,rfl,bG.sc q s h (.int _)⟩
 ·obtain ⟨x,rfl,h1⟩:=dO r;cases h1;exact .inr ⟨_,rfl,bG.sc q s h (.int _)⟩
 ·exact h.elim
theorem m7:∀ {vs:List V}{ns:VW},aA K H vs (ns.map PyData.int)->vs=ns.map V.int
 | _,[],h=>by cases h;rfl
 | _,n::ns,h=>by
  cases h with
  | cons h t=>cases h;rw [m7 t];rfl
theorem kR:∀ (ns:VW),aA K H (ns.map V.int) (ns.map PyData.int)
 | []=>.nil
 | n::ns=>.cons (.int n) (kR ns)
theorem pS:∀ {vs:List V}{ns:VS},aA K H vs (ns.map PyData.bool)->vs=ns.map V.bl
 | _,[],h=>by cases h;rfl
 | _,n::ns,h=>by
  cases h with
  | cons h t=>cases h;rw [pS t];rfl
def gz (h:Rp K H x (.list ds)):∃ a xs,x=.ref a/\cy K H a xs/\aA K H xs ds:=by
 cases h with
 | lst a r=>exact ⟨_,_,rfl,a,r⟩
def we:DR:=fun ds P=>∃ ns:VW,ds=[.list (ns.map .int)]/\ns≠[]/\∀ M,M∈ns->(∀ n∈ns,n<=M)->P .sh (.int M)
def FN:cP K we fun xs H Q=>∃ (a:Addr)(ns:VW),xs=[.ref a]/\bX K H a (ns.map V.int)/\ns≠[]/\∀ M,M∈ns->(∀ n∈ns,n<=M)->Q (.int M) H:=by
 rintro H Hm vs ds P Q s r ⟨ns,rfl,hn,h⟩ q;obtain ⟨x,rfl,h1⟩:=dO r;obtain ⟨a,xs,rfl,ha,r1⟩:=gz h1;cases m7 r1;exact ⟨a,ns,rfl,(cy.mono s ha).sq,hn,fun M m1 m2=>bG.sc q s (h M m1 m2) (.int _)⟩
def wQ:DR:=fun ds P=>∃ bs:VS,ds=[.list (bs.map .bool)]/\P .sh (.bool (bs.any id))
def BA:DR:=fun ds P=>∃ bs:VS,ds=[.list (bs.map .bool)]/\P .sh (.bool (bs.all id))
def IG:cP K wQ fun xs H Q=>∃ (a:Addr)(bs:VS),xs=[.ref a]/\bX K H a (bs.map V.bl)/\Q (.bl (bs.any id)) H:=by
 rintro H Hm vs ds P Q s r ⟨ns,rfl,h⟩ q;obtain ⟨x,rfl,h1⟩:=dO r;obtain ⟨a,xs,rfl,ha,r1⟩:=gz h1;cases pS r1;exact ⟨a,ns,rfl,(cy.mono s ha).sq,bG.sc q s h (.bl _)⟩
def IW:cP K BA fun xs H Q=>∃ (a:Addr)(bs:VS),xs=[.ref a]/\bX K H a (bs.map V.bl)/\Q (.bl (bs.all id)) H:=by
 rintro H Hm vs ds P Q s r ⟨ns,rfl,h⟩ q;obtain ⟨x,rfl,h1⟩:=dO r;obtain ⟨a,xs,rfl,ha,r1⟩:=gz h1;cases pS r1;exact ⟨a,ns,rfl,(cy.mono s ha).sq,bG.sc q s h (.bl _)⟩
def jT:DR:=fun ds P=>∃ ns:VW,ds=[.list (ns.map .int)]/\ns.length < 64/\∀ ms:VW,ms.Perm ns->ms.Pairwise (·<=·)->P (.ow false) (.list (ms.map .int))
def Co:cP K jT fun xs H Q=>∃ (a:Addr)(ns:VW),xs=[.ref a]/\bX K H a (ns.map V.int)/\ns.length < 64/\∀ (ms:VW)(p:Addr),ms.Perm ns->ms.Pairwise (·<=·)->H p=none->Q (.ref p) (upd H p (.lst (ms.map V.int))):=by
 rintro H Hm vs ds P Q s r ⟨ns,rfl,hn,h⟩ q;obtain ⟨x,rfl,h1⟩:=dO r;obtain ⟨a,xs,rfl,ha,r1⟩:=gz h1;cases m7 r1;exact ⟨a,ns,rfl,(cy.mono s ha).sq,hn,fun ms p m1 m2 hp=>bG.nl q s (h ms m1 m2) hp (kR ms)⟩
def pD (p:Int×Int):PyData:=.tuple [.int p.1,.int p.2]
inductive AF (vs:List V)(H:Hp)(Q:VK):Prop
 | mk:∀ j:Int,(vs=[.int j])->(∀ p,H p=none->0<=j/\j<=1000/\∀ l,upd H p (.qA 0 j) l=none->Q (.ref l) (upd (upd H p (.qA 0 j)) l (.lst (((List.range j.toNat).map fun i:Nat=>(i:Int)).map V.int))))->AF vs H Q
def DU:List V->Hp->VK->Prop:=fun vs H Q=>AF vs H Q
def jM:DR:=fun ds P=>match ds with
 | [.int j]=>(0<=j/\j<=1000)/\P (.ow false) (.list (kg 0 j.toNat))
 | _=>False
def IM (n:Nat):aA K H (((List.range n).map fun i:Nat=>(i:Int)).map V.int) (kg 0 n):=by
 have:=kR (K:=K) (H:=H) ((List.range n).map fun i:Nat=>(i:Int))
 rw [Qt (l:=List.range n) (g:=PyData.int)] at this;unfold kg;rw [show (fun i:Nat=>PyData.int (0 + i))=PyData.int ∘ fun i:Nat=>(i:Int) from funext fun i=>by simp]
 exact this
def Cv:cP K jM DU:=by
 intro H Hm vs ds P Q s r h q;unfold jM at h;split at h
 ·obtain ⟨x,rfl,h1⟩:=dO r;cases h1;rename_i j;refine ⟨j,rfl,fun p hp=>⟨h.1.1,h.1.2,fun l hl=>?_⟩⟩
  have s1:=cg (o:=.qA 0 j) hp;have s2:=cg (o:=.lst (((List.range j.toNat).map fun i:Nat=>(i:Int)).map V.int)) hl
  refine q _ _ _ _ Hm [l] h.2 (s1.trans s2) (ah.refl _) (s.trans (s1.trans s2)) (fun _ _=>.inl rfl) (.ow aL (IM _)) fun a ha=>?_
  rw [QF.mp ha];have:H l=none:=s1.free hl;exact ⟨this,jG s this⟩
 ·exact h.elim
def GG (hc:X.calm=true)(g1:Gl X "list")(m1:X.mg "list"=none)(g2:Gl X "range")(m2:X.mg "range"=none)(ns:noStar a=true)(S:aU X Ex Y [a] as) :
  SE X Ex Y (.Call (.Name "list" p1) [.Call (.Name "range" p2) [a] [] pos2] [] pos) (aa jM as) :=
 i9 (r:=DU) S (fun U H Q h=>WE.of (lM (AZ hc) g1 m1 PyProof.Rows.boot_list (qd (lM zL g2 m2 PyProof.Rows.boot_range (dW (es:=[a]) (by rw [QM,ns];rfl)) (by decide) (by decide) (b5 ns) (by rfl)) tw)) (by
  refine fun pins s I=>aR (h pins s I) fun v s1 ⟨x,H1,I1,r1,j,e,q⟩=>⟨x,H1,I1,r1,?_⟩
  cases e;refine ⟨j,rfl,fun p hp=>?_⟩
  obtain ⟨q1,q2,q3⟩:=q p hp;exact ⟨p,j,rfl,aL,q1,q2,q3⟩)) Cv
end
inductive Ag (K:Frag)(H Hm:Hp):VS->List V->VO->VR->Prop
 | nil:Ag K H Hm [] [] [] []
 | sh {ms:VS}{vs:List V}{ds:VO}{as:VR}{v:V}{d:PyData}:Rp K Hm v d->Ag K H Hm ms vs ds as->Ag K H Hm (false::ms) (v::vs) (d::ds) as
 | mu {ms:VS}{vs:List V}{ds:VO}{as:VR}{a:Addr}{xs:List V}{es:VO}:H a=some (.lst xs)->aA K Hm xs es->Hm a=none->a∉as->Ag K H Hm ms vs ds as->Ag K H Hm (true::ms) (.ref a::vs) (.list es::ds) (a::as)
inductive Bk (K:Frag)(H Hm:Hp):VR->VO->Prop
 | nil:Bk K H Hm [] []
 | cons {a:Addr}{xs:List V}{es:VO}{as:VR}{us:VO}:H a=some (.lst xs)->aA K Hm xs es->Hm a=none->Bk K H Hm as us->Bk K H Hm (a::as) (.list es::us)
def cB (mg:VE)(K:Frag)(ms:VS)(sp:bD):Sp:=fun vs H Q Ex=>∃ (ds:VO)(as:VR)(Hm:Hp)(P:VO->Kd->PyData->Prop)(x:XC),ah Hm H/\Ag K H Hm ms vs ds as/\sp ds P x /\
 (∀ us k r u H' Hm' fp,P us k r->ah Hm Hm'->ah Hm' H'->(∀ p o,p∉as->H p=some o->H' p=some o)->(∀ a,a∉as->H a≠none->OE (Hm' a) (Hm a))->Bk K H' Hm' as us->Own K H' Hm' k u r fp->(∀ a∈fp,H a=none/\Hm' a=none)->Q u H') /\
 (∀ c d C a H',mg c=some (.ref C)->x c d->(∀ p o,p∉as->H p=some o->H' p=some o)->H' a=some (.ext (iZ a C none))->H a=none->Ex (.ref C) (some a) H')
section
variable {K:Frag}{g:Gh}{U:St}
def NU {F:Nat->VR}(R:Rl K g E U H Hm F)(s:ah Hm Hm1):∀ {ms:VS}{as:List Arg}{os:VZ}{vs:List V}{ds:VO},Got K U Hm as os vs->fill as E os=some ds->shape ms as=true->(lent ms as).Nodup ->
  (∀ i∈lent ms as,∃ p es,E[i]?=some (some (.ow p,.list es)))->(∀ i∈kept ms as,∀ a∈F i,Hm1 a=H a)->(∀ i∈lent ms as,∀ a∈F i,Hm1 a=none) ->
  ∃ ix:List (Nat×Addr),ix.map (·.1)=lent ms as/\Ag K H Hm1 ms vs ds (ix.map (·.2))/\∀ q∈ix,U[q.1]?=some (some (.ref q.2))/\F q.1=[q.2]:=by
 intro ms as os vs ds G
 induction G generalizing ms ds with
 | nil =>
  intro h sh nd hl hk hn;cases ms with
  | nil=>cases h;exact ⟨[],rfl,.nil,fun _ z=>by cases z⟩
  | cons b ms=>cases b <;> cases sh
 | @pk i v as os vs hv G ih =>
  intro h sh nd hl hk hn;cases ms with
  | nil=>cases sh
  | cons b ms =>
   cases b with
   | false =>
    rw [fill] at h;split at h
    ·rename_i k d e
     by_cases hr:k.rd=true
     ·rw [if_pos hr] at h;cases hf:fill as E os with
      | none=>rw [hf] at h;cases h
      | some es =>
       rw [hf] at h;cases h;obtain ⟨v',h1,h2⟩:=R.slot i k d e;rw [hv] at h1;cases h1;obtain ⟨ix,e1,e2,e3⟩:=ih (ms:=ms) hf sh nd hl (fun j hj=>hk j (Q7 _ hj)) hn
       exact ⟨ix,e1,.sh (h2.rp hr s (hk i Q2)) e2,e3⟩
     ·rw [if_neg hr] at h;cases h
    ·cases h
   | true =>
    rw [fill] at h;obtain ⟨p,es0,e0⟩:=hl i Q2;rw [e0] at h;have h:(if (Kd.ow p).rd=true then (fill as E os).map (PyData.list es0::·) else none)=some _:=h
    rw [if_pos (show (Kd.ow p).rd=true from rfl)] at h
    cases hf:fill as E os with
    | none=>rw [hf] at h;cases h
    | some es =>
     rw [hf] at h;cases h;obtain ⟨v',h1,h2⟩:=R.slot i _ _ e0;rw [hv] at h1;cases h1;have nd':=R8.mp (show (i::lent ms as).Nodup from nd)
     obtain ⟨ix,e1,e2,e3⟩:=ih (ms:=ms) hf sh nd'.2 (fun j hj=>hl j (Q7 _ hj)) hk (fun j hj=>hn j (Q7 _ hj))
     have hFi:=hn i Q2;generalize hF:F i=fi at h2 hFi;cases h2 with
     | @ow _ a xs _ ha hr =>
      refine ⟨(i,a)::ix,?_,.mu ha (hr.mono s) (hFi a Q2) ?_ e2,?_⟩
      ·show i::ix.map (·.1)=i::lent ms as;rw [e1]
      ·intro m;obtain ⟨q,hq,rfl⟩:=QB.mp m;have:=R.aV i q.1 q.2 (by rw [hF];exact Q2) (by rw [(e3 q hq).2];exact Q2)
       exact nd'.1 (e1 ▸ (this ▸ QB.mpr ⟨q,hq,rfl⟩))
      ·intro q hq;rcases Q9.mp hq with rfl | hq
       ·exact ⟨hv,hF⟩
       ·exact e3 q hq
 | @ev d0 v u as os vs r G ih =>
  intro h sh nd hl hk hn;cases ms with
  | nil=>cases sh
  | cons b ms =>
   cases b with
   | true=>cases sh
   | false =>
    rw [fill] at h;cases hf:fill as E os with
    | none=>rw [hf] at h;cases h
    | some es =>
     rw [hf] at h;cases h;obtain ⟨ix,e1,e2,e3⟩:=ih (ms:=ms) hf sh nd hl hk hn;exact ⟨ix,e1,.sh (r.mono s) e2,e3⟩
theorem nh:∀ {ms:VS}{as:List Arg}{us:VO}{E E2:En},rY ms as us E=some E2->(lent ms as).Nodup->E2.length=E.length/\(∀ j,j∉lent ms as->E2[j]?=E[j]?)/\(lent ms as).length=us.length /\
  ∀ (n i:Nat)(u:PyData),(lent ms as)[n]?=some i->us[n]?=some u->∃ p es es',u=.list es'/\E[i]?=some (some (.ow p,.list es))/\E2[i]?=some (some (.ow p,.list es'))
 | [],[],[],E,E2,h,_=>by cases h;exact ⟨rfl,fun _ _=>rfl,rfl,fun _ _ _ z=>by cases z⟩
 | [],[],_::_,E,E2,h,_=>by cases h
 | [],_::_,_,E,E2,h,_=>by cases h
 | false::ms,.pk j::r,us,E,E2,h,nd=>nh (ms:=ms) (as:=r) (us:=us) h nd
 | false::ms,.ev _::r,us,E,E2,h,nd=>nh (ms:=ms) (as:=r) (us:=us) h nd
 | false::ms,[],us,E,E2,h,_=>by cases h
 | true::ms,[],us,E,E2,h,_=>by cases h
 | true::ms,.ev _::r,us,E,E2,h,_=>by cases h
 | true::ms,.pk i::r,[],E,E2,h,_=>by cases h
 | true::ms,.pk i::r,u::us,E,E2,h,nd=>by
  rw [rY] at h;obtain ⟨n1,n2⟩:=R8.mp (show (i::lent ms r).Nodup from nd)
  split at h
  ·rename_i p es e
   by_cases hu:Ah u=true
   ·rw [if_pos hu] at h;cases u with
    | list es' =>
     have li:i < E.length:=by
      rcases RL i E.length with h | h
      ·exact h
      ·rw [RG h] at e;cases e
     obtain ⟨l1,g1,l2,g2⟩:=nh (ms:=ms) (as:=r) (us:=us) h n2;rw [RJ] at l1;refine ⟨l1,fun j hj=>?_,congrArg (· + 1) l2,fun n j v h1 h2=>?_⟩
     ·have hj':j∉lent ms r:=fun z=>hj (Q7 _ z)
      have hne:i≠j:=fun z=>hj (z ▸ Q2)
      rw [g1 j hj',ao hne]
     ·cases n with
      | zero =>
       cases h1;cases h2;exact ⟨p,es,es',rfl,e,by rw [g1 i n1,aF li]⟩
      | succ n =>
       have h1:(lent ms r)[n]?=some j:=h1;have h2:us[n]?=some v:=h2;obtain ⟨p',fs,fs',e1,e2,e3⟩:=g2 n j v h1 h2;have hne:i≠j:=fun z=>n1 (z ▸ QX h1)
       rw [ao hne] at e2;exact ⟨p',fs,fs',e1,e2,e3⟩
    | _=>cases hu
   ·rw [if_neg hu] at h;cases h
  ·cases h
theorem Bk.get:∀ {as:VR}{us:VO}{n:Nat}{a:Addr},Bk K H Hm as us->as[n]?=some a->∃ xs es,us[n]?=some (.list es)/\H a=some (.lst xs)/\aA K Hm xs es/\Hm a=none
 | _,_,_,_,.nil,h=>by simp at h
 | _,_,0,_,.cons h1 h2 h3 _,h=>by simp at h;subst h;exact ⟨_,_,rfl,h1,h2,h3⟩
 | _,_,n + 1,_,.cons _ _ _ t,h=>t.get (n:=n) (by simpa using h)
def BW {E E2 E3:En}{H H' Hm Hm2:Hp}{F:Nat->VR}{is:VV}{ix:List (Nat×Addr)}{us:VO}{k:Kd}{u:V}{v:PyData}{fp:VR}(R:Rl K g E U H Hm F)
  (hix:∀ q∈ix,U[q.1]?=some (some (.ref q.2))/\F q.1=[q.2])(hik:∀ q∈ix,q.1∉is)(l2:E2.length=E.length)(hs:∀ j,j∉ix.map (·.1)->E2[j]?=E[j]?)
  (hu:∀ q∈ix,∃ p es xs' es',PyData.list es'∈us/\E[q.1]?=some (some (.ow p,.list es))/\E2[q.1]?=some (some (.ow p,.list es'))/\H' q.2=some (.lst xs')/\aA K Hm2 xs' es'/\Hm2 q.2=none)
  (hE:(if (flat k v && us.all (flat (.ow false)))=true then some E2 else dX is E2)=some E3)(s1:ah (lend Hm H (is.flatMap F)) Hm2)(s2:ah Hm2 H')(sH:∀ p o,p∉ix.map (·.2)->H p=some o->H' p=some o)
  (old:∀ a,a∉ix.map (·.2)->H a≠none->OE (Hm2 a) (lend Hm H (is.flatMap F) a))(o:Own K H' Hm2 k u v fp)(fr:∀ a∈fp,H a=none/\Hm2 a=none) :
  ∃ Hm' F',Rl K g E3 U H' Hm' F'/\ah Hm Hm'/\Tm K g F' H' Hm' k u v fp:=by
 have mem:∀ {a i},a∈F i->i∈is->a∈is.flatMap F:=fun ha hi=>RI.mpr ⟨_,hi,ha⟩
 have off:∀ a∈is.flatMap F,Hm a=none:=fun a ha=>by
  obtain ⟨i,_,h⟩:=RI.mp ha;exact R.off i a h
 have up:ah Hm (lend Hm H (is.flatMap F)):=jo off;have bH:∀ {i a},a∈F i->H a≠none:=fun ha z=>by
  obtain ⟨u,hu,_⟩:=R.bH _ _ ha;rw [z] at hu;cases hu
 have own:∀ q∈ix,q.2∈F q.1:=fun q hq=>by rw [(hix q hq).2];exact Q2
 have lentF:∀ {i a},a∈F i->a∈ix.map (·.2)->i∈ix.map (·.1):=fun {i a} ha m=>by
  obtain ⟨q,hq,rfl⟩:=QB.mp m;exact QB.mpr ⟨q,hq,(R.aV i q.1 q.2 ha (own q hq)).symm⟩
 have lis:∀ a,a∈ix.map (·.2)->a∉is.flatMap F:=fun a m z=>by
  obtain ⟨q,hq,rfl⟩:=QB.mp m;obtain ⟨i,hi,h⟩:=RI.mp z;exact hik q hq (R.aV i q.1 q.2 h (own q hq) ▸ hi)
 have nfp:∀ a∈fp,∀ i,a∉F i:=fun a ha i=>R.fresh (fr a ha).1
 have m2:∀ {a},H a≠none->a∉is.flatMap F->(a∉ix.map (·.2)/\OE (Hm2 a) (Hm a))\/(a∈ix.map (·.2)/\Hm2 a=none):=fun {a} h c=>by
  by_cases z:a∈ix.map (·.2)
  ·obtain ⟨q,hq,rfl⟩:=QB.mp z;obtain ⟨_,_,_,_,_,_,_,_,_,e⟩:=hu q hq;exact .inr ⟨z,e⟩
  ·refine .inl ⟨z,?_⟩;have h':=old a z h;rw [cV c] at h';exact h'
 have offI:∀ {i a},a∈F i->a∉is.flatMap F->Hm2 a=none:=fun {i a} ha c=>by
  rcases m2 (bH ha) c with ⟨z,e⟩ | ⟨_,e⟩
  ·obtain ⟨w,hw,nt⟩:=R.bH i a ha;exact e.off (R.off i a ha) s2 (sH a w z hw) nt
  ·exact e
 have od:∀ {a},g.H0 a≠none->a∉is.flatMap F->OE (Hm2 a) (g.ji a):=fun {a} h c=>by
  rcases m2 (R.qk h) c with ⟨_,e⟩ | ⟨z,e⟩
  ·exact e.trans (R.old a h)
  ·obtain ⟨q,hq,rfl⟩:=QB.mp z;have h':=R.old _ h;rw [R.off q.1 q.2 (own q hq)] at h';rw [e];exact h'
 have hliv:∀ {i a},a∈F i->∃ w,H' a=some w/\qR w:=fun {i a} ha=>by
  by_cases z:a∈ix.map (·.2)
  ·obtain ⟨q,hq,rfl⟩:=QB.mp z;obtain ⟨_,_,_,_,_,_,_,e,_,_⟩:=hu q hq;exact ⟨_,e,mO⟩
  ·obtain ⟨w,hw,nt⟩:=R.bH i a ha;exact ⟨w,sH a w z hw,nt⟩
 have keepH:∀ {j a},j∉ix.map (·.1)->a∈F j->H' a=H a:=fun {j a} hj ha=>by
  obtain ⟨w,hw,_⟩:=R.bH j a ha;rw [hw];exact sH a w (fun z=>hj (lentF ha z)) hw
 have frm:∀ p o,p∉g.M->g.H0 p=some o->H' p=some o:=fun p o hp ho=>by
  refine sH p o (fun z=>?_) (R.fr p o hp ho)
  obtain ⟨q,hq,rfl⟩:=QB.mp z;rcases R.new q.1 q.2 (own q hq) with y | y
  ·exact hp y
  ·rw [y] at ho;cases ho
 have pinn:∀ {E4:En},(∀ j,j∉is->E4[j]?=E2[j]?)->(∀ j∈is,E4[j]?=E2[j]?\/∃ k d,E2[j]?=some (some (k,d))/\k.fz=true)->∀ q∈g.pins,U[q.1]?=some (some (.ref q.2))/\∃ ds,E4[q.1]?=some (some (.ow true,.list ds)):=fun {E4} h4 h5 q hq=>by
  obtain ⟨h1,ds',h2⟩:=R.pin q hq;refine ⟨h1,?_⟩;have e2:∃ ds,E2[q.1]?=some (some (.ow true,.list ds)):=by
   by_cases z:q.1∈ix.map (·.1)
   ·obtain ⟨q',hq',e⟩:=QB.mp z;obtain ⟨p,es,xs',es',_,g1,g2,_⟩:=hu q' hq';rw [e,h2] at g1;cases g1;exact ⟨es',e ▸ g2⟩
   ·exact ⟨ds',by rw [hs _ z];exact h2⟩
  obtain ⟨ds,e2⟩:=e2
  by_cases z:q.1∈is
  ·rcases h5 _ z with y | ⟨k0,d0,y,yk⟩
   ·exact ⟨ds,y.trans e2⟩
   ·rw [e2] at y;cases y;cases yk
  ·exact ⟨ds,(h4 _ z).trans e2⟩
 by_cases hf:(flat k v && us.all (flat (.ow false)))=true
 ·rw [if_pos hf] at hE;cases hE;rw [QC,QK] at hf;have st:lB Hm2 (back Hm2 (is.flatMap F)):=fun a xs h=>by
   have c:a∉is.flatMap F:=fun z=>by
    obtain ⟨i,_,hi⟩:=RI.mp z;obtain ⟨w,hw,nt⟩:=R.bH i a hi;have e2:Hm2 a=some w:=s1 _ _ (by rw [fO z];exact hw)
    rw [e2] at h;cases h;exact nt xs rfl
   rw [cW c];exact h
  have upB:ah Hm (back Hm2 (is.flatMap F)):=fun b o e=>by
   rw [cW fun z=>by rw [off b z] at e;cases e]
   exact s1 _ _ (up _ _ e)
  have R':Rl K g E2 U H' (back Hm2 (is.flatMap F)) F:={
   len:=l2.trans R.len
   sub:=yg s2
   slot:=fun j k' d' e'=>by
    by_cases z:j∈ix.map (·.1)
    ·obtain ⟨q,hq,rfl⟩:=QB.mp z;obtain ⟨p,es,xs',es',mu,g1,g2,g3,g4,_⟩:=hu q hq;rw [g2] at e';cases e';obtain ⟨h1,h2⟩:=hix q hq;exact ⟨_,h1,by rw [h2];exact .ow g3 (g4.yH st (hf.2 _ mu))⟩
    ·rw [hs j z] at e';obtain ⟨v',h1,h2⟩:=R.slot j k' d' e';exact ⟨v',h1,h2.step upB fun a ha=>keepH z ha⟩
   off:=fun i a ha=>by
    by_cases c:a∈is.flatMap F
    ·exact jl c
    ·rw [cW c];exact offI ha c
   bH:=fun i a ha=>hliv ha
   aV:=R.aV
   fr:=frm
   new:=R.new
   pin:=pinn (fun j _=>rfl) fun j _=>.inl rfl
   old:=fun a ha=>by
    by_cases c:a∈is.flatMap F
    ·have h':=R.old a ha;rw [off a c] at h';rw [jl c];exact h'
    ·rw [cW c];exact od ha c }
  refine ⟨_,F,R',upB,⟨o.flat st hf.1,fun a ha=>?_,nfp,fun a ha=>R.fX (fr a ha).1⟩⟩
  by_cases c:a∈is.flatMap F
  ·exact jl c
  ·rw [cW c];exact (fr a ha).2
 ·rw [if_neg hf] at hE;obtain ⟨l3,g3⟩:=m9 hE;have R':Rl K g E3 U H' Hm2 (fun j=>if j∈is then [] else F j):={
   len:=l3.trans (l2.trans R.len)
   sub:=s2
   slot:=fun j k' d' e'=>by
    by_cases c:j∈is
    ·obtain ⟨k0,d0,e0,hk0,e1⟩:=(g3 j).2 c;rw [e1] at e';cases e';have z:j∉ix.map (·.1):=fun z=>by
      obtain ⟨q,hq,rfl⟩:=QB.mp z;exact hik q hq c
     rw [hs j z] at e0;obtain ⟨v',h1,h2⟩:=R.slot j k0 _ e0;refine ⟨v',h1,?_⟩;rw [if_pos c];exact .sh ((h2.rp (by cases k0 <;> first | rfl | cases hk0) up fun a ha=>fO (mem ha c)).mono s1)
    ·rw [(g3 j).1 c] at e';rw [if_neg c]
     by_cases z:j∈ix.map (·.1)
     ·obtain ⟨q,hq,rfl⟩:=QB.mp z;obtain ⟨p,es,xs',es',mu,g1,g2,g4,g5,_⟩:=hu q hq;rw [g2] at e';cases e';obtain ⟨h1,h2⟩:=hix q hq;exact ⟨_,h1,by rw [h2];exact .ow g4 g5⟩
     ·rw [hs j z] at e';obtain ⟨v',h1,h2⟩:=R.slot j k' d' e';exact ⟨v',h1,h2.step (up.trans s1) fun a ha=>keepH z ha⟩
   off:=fun j a ha=>by
    by_cases c:j∈is
    ·rw [if_pos c] at ha;cases ha
    ·rw [if_neg c] at ha;exact offI ha fun z=>by
      obtain ⟨i,hi,h⟩:=RI.mp z;exact c (R.aV i j a h ha ▸ hi)
   bH:=fun j a ha=>by
    by_cases c:j∈is
    ·rw [if_pos c] at ha;cases ha
    ·rw [if_neg c] at ha;exact hliv ha
   aV:=fun j l a h1 h2=>by
    by_cases c:j∈is
    ·rw [if_pos c] at h1;cases h1
    ·rw [if_neg c] at h1
     by_cases c':l∈is
     ·rw [if_pos c'] at h2;cases h2
     ·rw [if_neg c'] at h2;exact R.aV j l a h1 h2
   fr:=frm
   new:=fun j a ha=>by
    by_cases c:j∈is
    ·rw [if_pos c] at ha;cases ha
    ·rw [if_neg c] at ha;exact R.new j a ha
   pin:=pinn (fun j hj=>(g3 j).1 hj) fun j hj=>by
    obtain ⟨k0,d0,e0,hk0,_⟩:=(g3 j).2 hj;exact .inr ⟨k0,d0,e0,hk0⟩
   old:=fun a ha=>by
    refine od ha fun z=>?_
    obtain ⟨i,hi,h⟩:=RI.mp z;obtain ⟨k0,d0,e0,hk0,_⟩:=(g3 i).2 hi;have zi:i∉ix.map (·.1):=fun z=>by
     obtain ⟨q,hq,rfl⟩:=QB.mp z;exact hik q hq hi
    rw [hs i zi] at e0;exact ha (R.notM e0 (by cases k0 <;> first | rfl | (rename_i p;cases p <;> first | rfl | cases hk0) | cases hk0) h) }
  refine ⟨Hm2,_,R',up.trans s1,⟨o,fun a ha=>(fr a ha).2,fun a ha i=>?_,fun a ha=>R.fX (fr a ha).1⟩⟩
  by_cases c:i∈is
  ·rw [if_pos c];simp
  ·rw [if_neg c];exact nfp a ha i
end
section
variable {X:Cx}{Ex:XK}{Y:VV}
def JH {x:Str}{k:Nat}{ps:VX}{ms:VS}{sp:bD}{p pos:Pos}{e:Expr}{es:VT}{as:List Arg}(F:bV X.prog X.w X.K X.mg X.base k x ps (cB X.mg X.K ms sp))(hp:Passes (fh X.prog X.w) X Ex)(hr:cZ k X.A)(hg:Gl X x)(hd:(x == ("__debug__":Str))=false)
  (ns:(e::es).all noStar=true)(S:aU X Ex Y (e::es) as):SE X Ex Y (.Call (.Name x p) (e::es) [] pos) (aD sp ms as):=by
 intro g xc E U H Hm Fo P Q hx R h q;obtain ⟨f,fd,h1,h2,h3,h4⟩:=F;refine WE.of (Kf (E:=Ex) h4 hr hg h1 h2 h3 .nil hp (dW ns) hd (b5 (by rw [QM,QC] at ns;exact ns.1)) (gc (by rw [QM,QC] at ns;exact ns.2))) ?_
 refine kH hx S R h fun E1 os vs H1 Hm1 F1 p R1 s1 G=>?_
 replace p:Cp sp ms as xc E1 os P:=p
 unfold Cp at p;rw [<- bB,fE] at p;obtain ⟨ds,hf,p⟩:=p;rw [dH,GF] at p;obtain ⟨hl,hsp⟩:=p;unfold yJ at hl;rw [QC,QC,RS,QK] at hl;obtain ⟨⟨l1,l2⟩,l3⟩:=hl;have hlent:∀ i∈lent ms as,i∉kept ms as/\∃ p es,E1[i]?=some (some (.ow p,.list es)):=fun i hi=>by
  have:=l3 i hi;rw [QC] at this;refine ⟨fun z=>?_,?_⟩
  ·have y:=this.1;rw [UZ,SQ] at y;simp [z] at y
  ·have y:=this.2;split at y
   ·rename_i p es e;exact ⟨p,es,e⟩
   ·cases y
 have off:∀ a∈(kept ms as).flatMap F1,Hm1 a=none:=fun a ha=>by
  obtain ⟨i,_,h⟩:=RI.mp ha;exact R1.off i a h
 have up:=jo (Hm:=Hm1) (H:=H1) off;obtain ⟨ix,e1,e2,e3⟩:=NU R1 up (ms:=ms) G hf l1 l2 (fun i hi=>(hlent i hi).2) (fun i hi a ha=>fO (RI.mpr ⟨i,hi,ha⟩)) fun i hi a ha=>by
  rw [cV fun z=>by
   obtain ⟨j,hj,h⟩:=RI.mp z;exact (hlent i hi).1 (R1.aV j i a h ha ▸ hj)]
  exact R1.off i a ha
 show cB X.mg X.K ms sp (vs++[]) H1 Q Ex;rw [RN];refine ⟨ds,ix.map (·.2),lend Hm1 H1 ((kept ms as).flatMap F1),_,xc,k7 R1.sub,e2,hsp,fun us k r u H' Hm' fp p sM sS fr old bk o new=>?_,fun c d C a H' hC hxc fr ha hn=>?_⟩
 ·replace p:D8 ms as E1 us k r P:=p
  unfold D8 at p;rw [<- bB,uA] at p;obtain ⟨E2,hu,p⟩:=p;rw [<- bB,Ga] at p;obtain ⟨E3,ha,p⟩:=p;obtain ⟨u1,u2,u3,u4⟩:=nh hu l2;have hu':∀ q∈ix,∃ p es xs' es',PyData.list es'∈us/\E1[q.1]?=some (some (.ow p,.list es))/\E2[q.1]?=some (some (.ow p,.list es'))/\H' q.2=some (.lst xs')/\aA X.K Hm' xs' es'/\Hm' q.2=none:=fun q hq=>by
   obtain ⟨n,hn⟩:=Rt hq;have hn1:(lent ms as)[n]?=some q.1:=by rw [<- e1,QN,hn];rfl
   have hn2:(ix.map (·.2))[n]?=some q.2:=by rw [QN,hn];rfl
   obtain ⟨xs',es',g1,g2,g3,g4⟩:=bk.get hn2;obtain ⟨p',es,es'',g5,g6,g7⟩:=u4 n q.1 _ hn1 g1;cases g5;exact ⟨p',es,xs',es',QX g1,g6,g7,g2,g3,g4⟩
  obtain ⟨Hm'',F'',R'',s'',T⟩:=BW R1 (is:=kept ms as) (ix:=ix) (us:=us) e3 (fun q hq=>(hlent q.1 (e1 ▸ QB.mpr ⟨q,hq,rfl⟩)).1) u1 (fun j hj=>u2 j (e1 ▸ hj)) hu' (yV ha) sM sS fr old o new
  exact q _ _ _ _ _ _ _ _ p R'' (s1.trans s'') T
 ·refine hx c d C a H' hC hxc (fun p o hp ho=>?_) ha (R1.fX hn)
  refine fr p o (fun z=>?_) (R1.fr p o hp ho)
  obtain ⟨q,hq,rfl⟩:=QB.mp z;rcases R1.new q.1 q.2 (by rw [(e3 q hq).2];exact Q2) with y | y
  ·exact hp y
  ·rw [y] at ho;cases ho
end
def WS (X:Cx)(st:Stmt):TS:=fun D U H=>∀ (pins:VF)(s:Shared),Inv X pins U H s->wpAny (model X.prog X.w) X.A (exec st X.env) (SP X pins D) X.xe s
def nX (X:Cx)(st:VU):TS:=fun D U H=>∀ (pins:VF)(s:Shared),Inv X pins U H s->wpAny (model X.prog X.w) X.A (execs st X.env) (SP X pins D) X.xe s
def Bm:PS X st (WS X st):=fun pins s _ _ _ I h=>h pins s I
def gG:lI X st (nX X st):=fun pins s _ _ _ I h=>h pins s I
def WS.of (h:PS X st t)(q:t D U H):WS X st D U H:=fun pins s I=>h pins s U H D I q
def nX.of (h:lI X st t)(q:t D U H):nX X st D U H:=fun pins s I=>h pins s U H D I q
def aZ {α:Type}{l:List α}{i:Nat}{a:α}(h:l[i]?=some a):i < l.length:=by
 rcases RL i l.length with z | z
 ·exact z
 ·rw [RG z] at h;cases h
def jr {Y:VV}{U:St}{j i:Nat}{v:Option V}(nd:Y.Nodup)(h:Y[j]?=some i)(hi:i < U.length):(sel Y U).set j v=sel Y (U.set i v):=by
 have lj:j < Y.length:=aZ h;refine Rx fun k=>?_
 by_cases c:k=j
 ·subst c;rw [aF (by unfold sel;rw [Q8];exact lj)]
  unfold sel;rw [QN,h];show some v=some ((U.set i v)[i]?).join;rw [aF hi];rfl
 ·rw [ao (Ne.symm c)];unfold sel;rw [QN,QN];cases e:Y[k]? with
  | none=>rfl
  | some m =>
   have ne:i≠m:=fun z=>c (by
    have h1:=RT.mp e;have h2:=RT.mp h;obtain ⟨l1,e1⟩:=h1;obtain ⟨l2,e2⟩:=h2;exact (List.getElem_inj nd).mp (e1.trans (z.symm.trans e2.symm)))
   show some (U[m]?).join=some ((U.set i v)[m]?).join;rw [ao ne]
abbrev aH (X:Cx):VV:=List.range X.N.length
def OL (X:Cx)(Ex:XK)(w:TS)(d:DS):Prop :=
 ∀ (g:Gh)(D':gE)(E:En)(U:St)(H Hm:Hp)(F:Nat->VR)(D:Ends),XL X Ex D'.xc g->Rl X.K g E U H Hm F->d D' E ->
  (∀ E' σ' H' Hm' F',D'.nx E'->Rl X.K g E' σ' H' Hm' F'->ah Hm Hm'->D.nx (sel (aH X) σ') H') ->
  (∀ E' k v u σ' H' Hm' F' fp,D'.rt E' k v->Rl X.K g E' σ' H' Hm' F'->Tm X.K g F' H' Hm' k u v fp->D.rt u H')->w D (sel (aH X) U) H
abbrev S1 (X:Cx)(Ex:XK)(st:Stmt)(d:DS):Prop:=OL X Ex (WS X st) d
abbrev SS (X:Cx)(Ex:XK)(st:VU)(d:DS):Prop:=OL X Ex (nX X st) d
section
variable {X:Cx}{Ex:XK}
def b7:SS X Ex [] dR:=fun g D' E U H Hm F D hx R h nx rt=>nX.of Jm (nx _ _ _ _ _ h R (ah.refl _))
def af {st:Stmt}{rest:VU}{a b:DS}(h1:S1 X Ex st a)(h2:SS X Ex rest b):SS X Ex (st::rest) (aq a b):=by
 intro g D' E U H Hm F D hx R h nx rt;refine nX.of (yr Bm gG) (h1 g { D' with nx:=b D' } E U H Hm F _ hx R h (fun E1 σ1 H1 Hm1 F1 p1 R1 s1=>?_) rt)
 exact h2 g D' E1 σ1 H1 Hm1 F1 D hx R1 p1 (fun E2 σ2 H2 Hm2 F2 p2 R2 s2=>nx _ _ _ _ _ p2 R2 (s1.trans s2)) rt
def CW {st:Stmt}{rest:VU}{a b:DS}(h1:S1 X Ex st a)(h2:SS X Ex rest b):SS X Ex (st::rest) (Ba a b):=by
 intro g D' E U H Hm F D hx R h nx rt;obtain ⟨J,h,hJ⟩:=h;refine nX.of (yr Bm gG) (h1 g { D' with nx:=J } E U H Hm F _ hx R h (fun E1 σ1 H1 Hm1 F1 p1 R1 s1=>?_) rt)
 exact h2 g D' E1 σ1 H1 Hm1 F1 D hx R1 (hJ E1 p1) (fun E2 σ2 H2 Hm2 F2 p2 R2 s2=>nx _ _ _ _ _ p2 R2 (s1.trans s2)) rt
def ai (h1:S1 X Ex st a):SS X Ex [st] a:=fun g D' E U H Hm F D hx R h nx rt=>nX.of (z7 Bm) (h1 g D' E U H Hm F D hx R h nx rt)
def O8 (hc:ST X Ex (aH X) c t)(ha:SS X Ex a d)(hb:SS X Ex b2 e):S1 X Ex (.If c a b2 pos) (cK t d e):=by
 rw [Jk];intro g D' E U H Hm F D hx R h nx rt;refine WS.of (Nu jJ gG gG) (hc g D'.xc E U H Hm F _ (fun b H1=>if b=true then nX X a D _ H1 else nX X b2 D _ H1) hx R h fun E1 b H1 Hm1 F1 p1 R1 s1=>?_)
 cases b with
 | true=>exact oY (ha g D' E1 U H1 Hm1 F1 D hx R1 (by simpa using p1) (fun E2 σ2 H2 Hm2 F2 p2 R2 s2=>nx _ _ _ _ _ p2 R2 (s1.trans s2)) rt)
 | false=>exact pQ (hb g D' E1 U H1 Hm1 F1 D hx R1 (by simpa using p1) (fun E2 σ2 H2 Hm2 F2 p2 R2 s2=>nx _ _ _ _ _ p2 R2 (s1.trans s2)) rt)
def N4 (h:SE X Ex (aH X) e d):S1 X Ex (.Return (some e) pos) (bY d):=fun g D' E U H Hm F D hx R p nx rt=>WS.of (E7 bP) (h g D'.xc E U H Hm F _ _ hx R p fun E' k v u H' Hm' F' fp p' R' s' T=>rt _ _ _ _ _ _ _ _ _ p' R' T)
def MF (h:SE X Ex (aH X) e d)(hs:swapsWith e none pos.line X.env=pure false):S1 X Ex (.Expr e pos) (fU d):=fun g D' E U H Hm F D hx R p nx rt=>WS.of (IU bP hs) (h g D'.xc E U H Hm F _ _ hx R p fun E' k v u H' Hm' F' fp p' R' s' T=>nx _ _ _ _ _ p' R' s')
def Rl.move {K:Frag}{g:Gh}{E:En}{U:St}{H Hm:Hp}{F:Nat->VR}(R:Rl K g E U H Hm F){i:Nat}{k:Kd}{d:PyData}(e:E[i]?=some (some (k,d)))(hk:k.pin=false):∃ v F',U[i]?=some (some v)/\Rl K g (E.set i none) U H Hm F'/\Tm K g F' H Hm k v d (F i):=by
 obtain ⟨v,h1,h2⟩:=R.slot i k d e;have li:=aZ e;refine ⟨v,fun j=>if j=i then [] else F j,h1,?_,⟨h2,R.off i,fun a ha j=>?_,fun a ha=>R.notM e hk ha⟩⟩
 ·exact {
   len:=by rw [RJ];exact R.len
   sub:=R.sub
   slot:=fun j k' d' e'=>by
    by_cases c:j=i
    ·subst c;rw [aF li] at e';cases e'
    ·rw [ao (Ne.symm c)] at e';obtain ⟨u,g1,g2⟩:=R.slot j k' d' e';exact ⟨u,g1,by rw [if_neg c];exact g2⟩
   off:=fun j a ha=>by
    by_cases c:j=i
    ·rw [if_pos c] at ha;cases ha
    ·rw [if_neg c] at ha;exact R.off j a ha
   bH:=fun j a ha=>by
    by_cases c:j=i
    ·rw [if_pos c] at ha;cases ha
    ·rw [if_neg c] at ha;exact R.bH j a ha
   aV:=fun j l a g1 g2=>by
    by_cases c:j=i
    ·rw [if_pos c] at g1;cases g1
    ·rw [if_neg c] at g1
     by_cases c':l=i
     ·rw [if_pos c'] at g2;cases g2
     ·rw [if_neg c'] at g2;exact R.aV j l a g1 g2
   fr:=R.fr
   new:=fun j a ha=>by
    by_cases c:j=i
    ·rw [if_pos c] at ha;cases ha
    ·rw [if_neg c] at ha;exact R.new j a ha
   pin:=fun q hq=>by
    obtain ⟨g1,ds',g2⟩:=R.pin q hq;have c:i≠q.1:=fun z=>by
     rw [<- z,e] at g2;cases g2;cases hk
    exact ⟨g1,ds',by rw [ao c];exact g2⟩
   old:=R.old }
 ·by_cases c:j=i
  ·rw [if_pos c];simp
  ·rw [if_neg c];exact fun z=>c (R.aV j i a z ha)
def fP {n i:Nat}(h:i < n):(List.range n)[i]?=some i:=RU h
def La {i:Nat}(h:PE X e (nL i))(hi:i < X.N.length):S1 X Ex (.Return (some e) pos) (iL i):=by
 intro g D' E U H Hm F D hx R p nx rt
 replace p:DX E i D'.rt:=p
 unfold DX at p;split at p
 rotate_left
 ·exact p.elim
 rename_i k d e1;rw [dH] at p;obtain ⟨hk,p⟩:=p;have hk:k.pin=false:=by simpa using hk
 obtain ⟨v,F',h1,R',T⟩:=R.move e1 hk;exact WS.of (E7 h) ⟨v,eX (fP hi) h1,rt _ _ _ _ _ _ _ _ _ p R' T⟩
def gu {i:Nat}(h:bL E i=true):i < E.length:=by
 rcases RL i E.length with z | z
 ·exact z
 ·unfold bL at h;rw [RG z] at h;cases h
def Oa {i:Nat}{x:Str}{e:Expr}{pos pos':Pos}{d:DE}(hN:X.N.Nodup)(hi:X.N[i]?=some x)(hl:Loc X.env.scope x)(hs:swapsWith e (some (.Name x pos')) pos.line X.env=pure false)(hf:X.fn x=true\/X.env.scope.names.lookup x=some .local)(h:SE X Ex (aH X) e d):S1 X Ex (.Assign [.Name x pos'] e pos) (aC i d):=by
 rw [ug];intro g D' E U H Hm F D hx R p nx rt;refine WS.of (CD hN hi hl bP hs hf) (h g D'.xc E U H Hm F _ _ hx R p fun E' k v u H' Hm' F' fp p' R' s' T=>?_)
 show D.nx ((sel (aH X) U).set i (some u)) H';rw [jr Ri (fP (aZ hi)) (R'.len ▸ gu p'.1)];exact nx _ _ _ _ _ p'.2 (R'.put T p'.1) s'
inductive kI (X:Cx)(Y:VV):VT->VV->Prop
 | nil:kI X Y [] []
 | cons {x:Str}{p:Pos}{j i:Nat}{ts:VT}{is:VV}:X.N[j]?=some x->Y[j]?=some i->Loc X.env.scope x->(X.fn x=true\/X.env.scope.names.lookup x=some .local)->kI X Y ts is->kI X Y (.Name x p::ts) (i::is)
inductive eK (X:Cx)(Y:VV):Expr->Tg->Prop
 | nm {x:Str}{p:Pos}{j i:Nat}:X.N[j]?=some x->Y[j]?=some i->Loc X.env.scope x->(X.fn x=true\/X.env.scope.names.lookup x=some .local)->eK X Y (.Name x p) (.nm i)
 | tp {ts:VT}{k:Nat}{p:Pos}{is:VV}:kI X Y ts is->eK X Y (.Tuple ts k p) (.tp is)
def Qa (X:Cx)(Y:VV)(tg:Tg)(G:TG):Prop:=∀ {g:Gh}{d:PyData}{v:V}{E E2:En}{U:St}{H Hm:Hp}{F:Nat->VR}{Q:St->Hp->Prop},cG tg d E=some E2->Rp X.K Hm v d->Rl X.K g E U H Hm F->(∀ σ' F',Rl X.K g E2 σ' H Hm F'->(∀ j,j∉tg.slots->σ'[j]?=U[j]?)->Q (sel Y σ') H)->G v (sel Y U) H Q
def GP (hN:X.N.Nodup)(nd:Y.Nodup)(h:kI X Y ts is):∃ G:qz,C9 X ts G/\(assignEach ts X.env).length=is.length/\(assignEach ts X.env).findIdx? (·.1)=none /\
  ∀ {g:Gh}{ds:VO}{vs:List V}{E E2:En}{U:St}{H Hm:Hp}{F:Nat->VR}{Q:St->Hp->Prop},bQ is ds E=some E2->aA X.K Hm vs ds->Rl X.K g E U H Hm F->(∀ σ' F',Rl X.K g E2 σ' H Hm F'->(∀ j,j∉is->σ'[j]?=U[j]?)->Q (sel Y σ') H)->vs.length=is.length/\G vs (sel Y U) H Q:=by
 induction h with
 | nil =>
  refine ⟨LX,IV,rfl,rfl,fun {g ds vs E E2 U H Hm F Q} h r R q=>?_⟩
  cases ds with
  | nil =>
   cases h;cases r;exact ⟨rfl,rfl,q _ _ R fun _ _=>rfl⟩
  | cons _ _=>cases h
 | @cons x p j i ts is h1 h2 h3 h4 _ ih =>
  obtain ⟨G,g1,g2,g3,g4⟩:=ih;refine ⟨Ht (p9 j) G,GW (zV hN h1 h3 h4) g1,?_,?_,fun {g ds vs E E2 U H Hm F Q} h r R q=>?_⟩
  ·show (assignEach ts X.env).length + 1=_;rw [g2];rfl
  ·show List.findIdx? (·.1) ((false,assign (.Name x p) X.env)::assignEach ts X.env)=none;rw [List.findIdx?_cons,g3];rfl
  ·cases ds with
   | nil=>cases h
   | cons d ds =>
    rw [bQ] at h
    by_cases o:bL E i=true
    ·rw [if_pos o] at h;cases r with
     | cons r1 r2 =>
      obtain ⟨l,k⟩:=g4 h r2 (R.put (Tm.sh r1) o) fun σ' F' R' a=>q σ' F' R' fun j' hj=>by
       have ne:i≠j':=fun z=>hj (z ▸ Q2)
       exact (a j' fun z=>hj (Q7 _ z)).trans (ao ne)
      refine ⟨congrArg (· + 1) l,_,_,rfl,?_⟩;show G _ ((sel Y U).set j (some _)) H Q;rw [jr nd h2 (R.len ▸ gu o)];exact k
    ·rw [if_neg o] at h;cases h
def pZ (hc:X.calm=true)(hN:X.N.Nodup)(nd:Y.Nodup)(h:eK X Y e tg):∃ G,PG X e G/\Qa X Y tg G:=by
 cases h with
 | @nm x p j i h1 h2 h3 h4 =>
  refine ⟨p9 j,zV hN h1 h3 h4,fun {g d v E E2 U H Hm F Q} h r R q=>?_⟩
  have h:bQ [i] [d] E=some E2:=h;rw [bQ] at h
  by_cases o:bL E i=true
  ·rw [if_pos o] at h;cases h;show Q ((sel Y U).set j (some v)) H;rw [jr nd h2 (R.len ▸ gu o)];exact q _ _ (R.put (Tm.sh r) o) fun j' hj=>ao (show i≠j' from fun z=>hj (z ▸ Q2))
  ·rw [if_neg o] at h;cases h
 | @tp ts k p is h =>
  obtain ⟨G,g1,g2,g3,g4⟩:=GP hN nd h;refine ⟨_,M7 hc g1 g2 g3,fun {g d v E E2 U H Hm F Q} h r R q=>?_⟩
  cases d with
  | tuple ds =>
   have h:bQ is ds E=some E2:=h;cases r with
   | tup a r =>
    obtain ⟨l,k⟩:=g4 h r R q;exact ⟨_,_,rfl,cj.of (R.sub _ _ a),l,k⟩
  | _=>cases h
def Nz {k:Nat}(hc:X.calm=true)(hN:X.N.Nodup)(ht:kI X (aH X) ts is)(hs:swapsWithSole [.Tuple ts k p] e pos.line X.env=pure false)(hw:swappedStores [.Tuple ts k p] e X.env=pure none)(h:SE X Ex (aH X) e d):S1 X Ex (.Assign [.Tuple ts k p] e pos) (pB is d):=by
 intro g D' E U H Hm F D hx R pp nx rt;obtain ⟨G,g1,g2⟩:=pZ hc hN Ri (eK.tp (k:=k) (p:=p) ht);refine WS.of (Du bP g1 hs hw) (h g D'.xc E U H Hm F _ _ hx R pp fun E' k v u H' Hm' F' fp p' R' s' T=>?_)
 replace p':bK k.fz _:=p'
 rw [dH] at p';obtain ⟨hk,p'⟩:=p';unfold Ie at p';split at p'
 rotate_left
 ·exact p'.elim
 rename_i ds;rw [<- bB,Ds] at p';obtain ⟨E2,e2,p'⟩:=p';have e2:cG (.tp is) (.tuple ds) E'=some E2:=e2;obtain ⟨Hm2,s2,R2,r2⟩:=T.iI R' hk;exact g2 e2 r2 R2 fun σ' F' R3 _=>nx _ _ _ _ _ p' R3 (s'.trans s2)
def IS (hp:PassesOwn (model X.prog X.w) X.A X.env X.xe)(hc:ST X Ex (aH X) c t)(hb:SS X Ex b d):S1 X Ex (.While c b [] pos) (wC t d):=by
 intro g D' E U H Hm F D hx R h nx rt;obtain ⟨W,⟨m0,w0⟩,step⟩:=h;refine WS.of (GR hp jJ gG) ⟨fun m τ H'=>∃ E' σ' Hm' F',W m E'/\Rl X.K g E' σ' H' Hm' F'/\ah Hm Hm'/\τ=sel (aH X) σ',⟨m0,E,U,Hm,F,w0,R,ah.refl _,rfl⟩,?_⟩
 rintro m τ H1 ⟨E1,σ1,Hm1,F1,w1,R1,s1,rfl⟩;refine hc g D'.xc E1 σ1 H1 Hm1 F1 _ _ hx R1 (step m E1 w1) fun E2 b2 H2 Hm2 F2 p2 R2 s2=>?_
 cases b2 with
 | true =>
  refine oY ⟨fun τ H'=>∃ m',m' < m/\∃ E' σ' Hm' F',W m' E'/\Rl X.K g E' σ' H' Hm' F'/\ah Hm Hm'/\τ=sel (aH X) σ',fun _ _ z=>z,?_⟩
  exact hb g { D' with nx:=fun E'=>∃ m',m' < m/\W m' E' } E2 σ1 H2 Hm2 F2 _ hx R2 (by simpa using p2) (fun E3 σ3 H3 Hm3 F3 p3 R3 s3=>by
   obtain ⟨m',hm,w3⟩:=p3;exact ⟨m',hm,E3,σ3,Hm3,F3,w3,R3,s1.trans (s2.trans s3),rfl⟩) rt
 | false=>exact pQ (nx _ _ _ _ _ (by simpa using p2) R2 (s1.trans s2))
def AK (K:Frag)(J:It)(xs:VO)(ji:Hp):Prop:=∀ (i:Nat)(H Hm:Hp),ah ji Hm->ah Hm H ->
 (∀ d,xs[i]?=some d->J.go i H/\∀ x H',J.qL i H x H'->∃ Hm',ah Hm Hm'/\ah Hm' H'/\ah H H'/\(∀ a,H a≠none->OE (Hm' a) (Hm a))/\Rp K Hm' x d)/\(xs.length<=i->J.stop i H)
def SI (X:Cx)(Ex:XK)(Y:VV)(tg e:Expr)(d:DI):Prop:=∃ wi:TI,PI X tg e wi /\
 ∀ (g:Gh)(x:XC)(E:En)(U:St)(H Hm:Hp)(F:Nat->VR)(P:En->VO->Prop)(R:It->Hp->Prop),XL X Ex x g->Rl X.K g E U H Hm F->d x E P ->
  (∀ E' xs J H' Hm' F',P E' xs->Rl X.K g E' U H' Hm' F'->ah Hm Hm'->AK X.K J xs Hm'->R J H')->wi (sel Y U) H R
def Rl.turn {F:Nat->VR}(R:Rl K g E U H Hm F)(s1:ah Hm Hm')(s2:ah Hm' H')(s3:ah H H')(old:∀ a,H a≠none->OE (Hm' a) (Hm a)):Rl K g E U H' Hm' F :=
 R.grow s3 s1 s2 (fun i a ha=>by
  obtain ⟨u,hu,nt⟩:=R.bH i a ha;exact (old a (by rw [hu];simp)).off (R.off i a ha) s2 (s3 _ _ hu) nt) fun a ha=>old a (R.qk ha)
def Nr (hp:PassesOwn (model X.prog X.w) X.A X.env X.xe)(hc:X.calm=true)(hN:X.N.Nodup)(hi:SI X Ex (aH X) tg it di)(ht:eK X (aH X) tg t)(hb:SS X Ex b d)
  (hs:∀ x,foldedSetIterable it X.env x=pure x):S1 X Ex (.For tg it b [] pos) (eN di t d):=by
 intro g D' E U H Hm F D hx R h nx rt;obtain ⟨wi,hpi,hw⟩:=hi;obtain ⟨G,g1,g2⟩:=pZ hc hN Ri ht;refine WS.of (MY hp hc hpi g1 gG hs) (hw g D'.xc E U H Hm F _ _ hx R h fun E1 xs J H1 Hm1 F1 p1 R1 s1 it1=>?_)
 obtain ⟨I,i0,step,fin⟩:=p1;refine ⟨fun i m τ H'=>m=xs.length - i/\i<=xs.length/\∃ E' σ' Hm' F',I i E'/\Rl X.K g E' σ' H' Hm' F'/\ah Hm1 Hm'/\τ=sel (aH X) σ',⟨xs.length,by simp,Qw _,E1,U,Hm1,F1,i0,R1,ah.refl _,rfl⟩,?_⟩
 rintro i m τ H2 ⟨rfl,hi,E2,σ2,Hm2,F2,i2,R2,s2,rfl⟩;obtain ⟨go,stop⟩:=it1 i H2 Hm2 s2 R2.sub
 by_cases c:i < xs.length
 ·obtain ⟨go,qL⟩:=go xs[i] (QV c);refine .inr ⟨go,fun τ H'=>i + 1<=xs.length/\∃ E' σ' Hm' F',I (i + 1) E'/\Rl X.K g E' σ' H' Hm' F'/\ah Hm1 Hm'/\τ=sel (aH X) σ',fun τ H' z=>⟨xs.length - (i + 1),by lia,rfl,z⟩,fun x H3 y=>?_⟩
  obtain ⟨Hm3,t1,t2,t3,old,r⟩:=qL x H3 y;have R3:=R2.turn t1 t2 t3 old;obtain ⟨E4,e4,p4⟩:=step i xs[i] E2 (QV c) i2;refine g2 e4 r R3 fun σ4 F4 R4 _=>?_
  exact hb g { D' with nx:=I (i + 1) } E4 σ4 H3 Hm3 F4 _ hx R4 p4 (fun E5 σ5 H5 Hm5 F5 p5 R5 s5=>⟨c,E5,σ5,Hm5,F5,p5,R5,s2.trans (t1.trans s5),rfl⟩) rt
 ·have e:i=xs.length:=by lia
  subst e;exact .inl ⟨stop (Q6 _),nx _ _ _ _ _ (fin E2 i2) R2 (s1.trans s2)⟩
end
end Dv
namespace L2
open PySem PySem.Spec PyProof.Rows
def iB (elt:Expr)(gens:VD)(scope:Scope)(pos:Pos) (k:Nat)(acc:Value)(env:Env)(fin:Sem Fin):Sem Fin:=match gens[k]? with
 | some g'=>do
  let x <- eval g'.iter env
  standAt g'.iter.pos
  let x <- foldedSetIterable g'.iter env x
  let y <- holding [x] (pyIter x)
  let _ <- runOwn (.compStart (.ListComp elt gens scope pos) k y acc env) env
  fin
 | none=>do
  (do let _ <- call (.builtin "list.append") [acc,<- eval elt env])
  fin
def compTurn_gen {k:Nat}(hk:gens[k]?=some ⟨tg,iter,ifs,0⟩)(ha:∀ g∈gens,g.is_async=0)(it acc:Value)(env:Env) :
  compTurn (.ListComp elt gens scope pos) k it acc env=(do
   standAt iter.pos
   match <- pyNext it with
   | none=>pure (.done .next)
   | some v =>
    letOwnedTupleGo tg it v
    assign tg env v
    let mut ok:=true
    for c in ifs do
     if ok then ok <- isTrue c env (eval c env)
    if ok then iB elt gens scope pos (k + 1) acc env (again (.compLoop (.ListComp elt gens scope pos) k it acc env))
    else again (.compLoop (.ListComp elt gens scope pos) k it acc env)):=by
 unfold compTurn iB;simp only [hk];cases h:gens[k + 1]? with
 | none=>rfl
 | some g' =>
  have e:=ha g' (QX h);obtain ⟨t,i,f,a⟩:=g';dsimp only at e;subst e;rfl
section
variable {prog:Program}{w:World}{A:Around}{R:Result->Shared->Prop}{s:Shared}{elt tg iter:Expr}{gens:VD}{ifs:VT}{scope:Scope}{pos:Pos}{k:Nat}
def nF (hk:gens[k]?=some ⟨tg,iter,ifs,0⟩)(ha:∀ g∈gens,g.is_async=0)(I:Nat->Shared->Prop)
  (turn:∀ n s,I n s->wpAny (model prog w) A (pyNext it) (fun r s1=>match r with
   | none=>R (.ok .next) s1
   | some v=>wpAny (model prog w) A (letOwnedTupleGo tg it v) (fun _ s0=>wpAny (model prog w) A (assign tg env v) (fun _ s2=>wpAny (model prog w) A (forIn ifs true fun c r=>if r=true then do let ok <- isTrue c env (eval c env);pure (ForInStep.yield ok) else pure (ForInStep.yield r)) (fun ok s3 =>
      if ok=true then ∀ (fin:Sem Fin)(Qf:Fin->Shared->Prop),(∀ s5,(∃ m,m < n/\I m s5)->wpAny (model prog w) A fin Qf (nV prog w A env R) s5)->wpAny (model prog w) A (iB elt gens scope pos (k + 1) acc env fin) Qf (nV prog w A env R) s3
      else ∃ m,m < n/\I m s3) (nV prog w A env R) s2) (nV prog w A env R) s0) (nV prog w A env R) s1) (nV prog w A env R) s)
  (n:Nat)(h:I n s):codeAny (model prog w) A (.compLoop (.ListComp elt gens scope pos) k it acc env) R s:=by
 refine codeAny_loop rfl I (fun n s hI=>?_) n h
 refine (wpAny_noted (?_:_):wpAny _ A ((compTurn (.ListComp elt gens scope pos) k it acc env).onRaise (fun x=>do noteFrame x env;theTreesLotGoes x)) _ _ s)
 rw [compTurn_gen hk ha];refine Q0 (Ss (Q0 (Qq (turn n s hI) (fun r s1 h1=>?_) fun _ _ z=>z)))
 cases r with
 | none=>exact Q5 h1
 | some v =>
  refine Q0 (Qq h1 (fun _ s0 h0=>Q0 (Qq h0 (fun _ s2 h2=>Q0 (Qq h2 (fun ok s3 h3=>?_) fun _ _ z=>z)) fun _ _ z=>z)) fun _ _ z=>z)
  cases ok with
  | false=>exact Q5 ⟨rfl,h3⟩
  | true=>exact h3 _ _ fun s5 h5=>Q5 ⟨rfl,h5⟩
def zA (hk:gens[k]?=some ⟨tg,iter,ifs,0⟩)
  (h0:codeAny (model prog w) A (.compLoop (.ListComp elt gens scope pos) k it acc env) R s)
  (h:wpAny (model prog w) A (pyIter it) (fun it' s'=>codeAny (model prog w) A (.compLoop (.ListComp elt gens scope pos) k it' acc env) R s') (notedBy (model prog w) A env fun x s'=>R (.error x) s') s) :
  codeAny (model prog w) A (.compStart (.ListComp elt gens scope pos) k it acc env) R s:=by
 refine codeAny_of_tree ?_;show wpAny _ _ ((compStart (.ListComp elt gens scope pos) k it acc env).onRaise (fun x=>do noteFrame x env;standAt theWindowsPlace)) _ _ s
 refine wpAny_notedAt ?_;unfold compStart;have ec:(clausesOf (.ListComp elt gens scope pos))[k]?=some ⟨tg,iter,ifs,0⟩:=hk;rw [ec];show wpAny _ _ (ask >>= _) _ _ s;refine Q0 (T9 (wpAny_ite ?_));split
 ·first
   | exact Q0 (Q5 (Q5 (And.intro rfl h0)))
   | exact Q5 (And.intro rfl h0)
 ·first
   | exact Q0 (Ra (Q0 (Ss (Q0 (Qq h (fun it' s' h'=>Q5 (And.intro rfl h')) fun _ _ x=>x)))))
   | (refine Q0 (Ra ?_);show wpAny _ _ (standAt iter.pos >>= _) _ _ s;exact Q0 (Ss (Q0 (Qq h (fun it' s' h'=>Q5 (And.intro rfl h')) fun _ _ x=>x))))
end
def mD (N:VX)(fs scope:Scope)(vs NB:VX)(ix:VV):Bool :=
 decide (scope.kind=.function) && scope.names.all (fun y=>decide (y.2≠.cell)) && scope.names.all (fun y=>decide (y.2≠.local) || decide (scope.names.lookup y.1=some .local)) &&
 scope.names.all (fun y=>decide (y.2≠.free) || (decide (fs.names.lookup y.1=some .cell) || decide (fs.names.lookup y.1=some .free))) &&
 decide (NB=vs++ix.map fun i=>N.getD i "") && decide NB.Nodup && ix.all fun i=>match N[i]? with | some y=>decide (scope.names.lookup y=some .free) | none=>false
structure cC (X:Cx)(scope:Scope)(vs NB:VX)(ix:VV):Prop where
 kind:scope.kind=.function
 cell:∀ y∈scope.names,y.2≠.cell
 names:∀ y∈scope.names,y.2=.local->scope.names.lookup y.1=some .local
 free:∀ y,(y,NameKind.free)∈scope.names->(X.env.kindOf y=some .cell\/X.env.kindOf y=some .free)
 nb:NB=vs++ix.map fun i=>X.N.getD i ""
 nd:NB.Nodup
 cap:∀ i∈ix,∃ y,X.N[i]?=some y/\scope.names.lookup y=some .free
def cC.of (h:mD N fs scope vs NB ix=true)(hN:X.N=N:=by rfl)(hf:X.env.scope=fs:=by rfl):cC X scope vs NB ix:=by
 subst hN hf;unfold mD at h;simp only [QC] at h;obtain ⟨⟨⟨⟨⟨⟨h1,h2⟩,h3⟩,h4⟩,h6⟩,h7⟩,h8⟩:=h;refine ⟨QS h1,fun y hy=>QS (QK.mp h2 y hy),fun y hy e=>?_,fun y hy=>?_,QS h6,QS h7,fun i hi=>?_⟩
 ·have z:=QK.mp h3 y hy;rw [SJ] at z;rcases z with z | z
  ·exact absurd e (QS z)
  ·exact QS z
 ·have z:=QK.mp h4 _ hy;rw [SJ,SJ] at z;rcases z with z | z | z
  ·exact absurd rfl (QS z)
  ·exact .inl (QS z)
  ·exact .inr (QS z)
 ·have z:=QK.mp h8 i hi;cases e:X.N[i]? with
  | none=>rw [e] at z;cases z
  | some y=>rw [e] at z;exact ⟨y,rfl,QS z⟩
section
variable {X:Cx}{scope:Scope}{vs:VX}{NB:VX}{ix:VV}{pins:VF}{U:St}{H2:Hp}{s2:Shared}{fp:VR}
def cC.clos (B:cC X scope vs NB ix)(I2:Inv X pins U H2 s2):closureFor scope X.env=pure (bU X.env.cells scope.names []) :=
 lJ fun n hn=>I2.ok.has n (B.free n hn)
def cC.look (B:cC X scope vs NB ix)(I2:Inv X pins U H2 s2){c:Addr}(h:(bU X.env.cells scope.names []).lookup y=some c):X.env.cells.lookup y=some c:=by
 rcases l6 _ _ h with ⟨m,e⟩ | e
 ·obtain ⟨c',hc⟩:=I2.ok.has y (B.free y m);rw [hc] at e ⊢;exact congrArg some e
 ·cases e
def Df (B:cC X scope vs NB ix)(I2:Inv X pins U H2 s2){C:Addr}(hC:s2.heap.objs.size<=C)(f2:∀ b∈fp,dN X pins H2 b)(ft:∀ b∈fp,b < s2.heap.objs.size):(X.block scope C NB s2 H2 fp).Ok where
 mod:=I2.ok.mod
 kind:=B.kind
 glob:=I2.ok.glob
 blt:=I2.ok.blt
 above:=hC
 inj:=fun a b c h1 h2=>I2.ok.inj a b c (B.look I2 h1) (B.look I2 h2)
 has:=fun y hy=>by
  have key:∀ k,(relabel scope X.env).names.lookup y=some k->(k=.cell\/k=.free)->∃ c,(bU X.env.cells scope.names []).lookup y=some c:=fun k hk kk=>by
   rcases qX (names:=scope.names) hk with e | ⟨e,_⟩
   ·rcases kk with rfl | rfl
    ·exact absurd rfl (B.cell _ (cY e))
    ·exact fD _ _ (.inl (cY e))
   ·exact fD _ _ (.inl (cY e))
  rcases hy with e | e
  ·exact key _ e (.inl rfl)
  ·exact key _ e (.inr rfl)
 vj:=fun _ _ z=>by cases z
 hd:=I2.ok.hd
 frames:=I2.ok.frames
 stk:=.inl rfl
 Dw:=fun b hb=>⟨QG (QT (ft b hb) hC),fun y c e=>(f2 b hb).2.2.2.2.1 y c (B.look I2 e)⟩
 bs:=I2.bs
 oO:=QW I2.ok.oO I2.sz
 nH:=fun b o e hb=>by
  rcases (f2 b hb).2.2.2.1 with z | z
  ·exact I2.ok.nH b o e z
  ·exact absurd (QT (QD (I2.ok.bs b o e).1) z) (R9 _)
 rG:=fun b hb z=>by
  rcases Q9.mp (I2.ja b z) with e | e
  ·exact (f2 b hb).2.1 e
  ·exact (f2 b hb).2.2.1 e
 iS:=I2.stack
 sC:=I2.mG
def Ca (B:cC X scope vs NB ix)(I2:Inv X pins U H2 s2){C D:Addr}{tk:Nat}(hC:s2.heap.objs.size<=C)(hD:s2.heap.objs.size<=D)(hDC:D≠C)(f2:∀ b∈fp,dN X pins H2 b)(ft:∀ b∈fp,b < s2.heap.objs.size)
  (old:∀ b o,s2.heap.get? b=some o->h1.get? b=some o)(hn:h1.Ns C m)(ho:h1.get? D=some oD)(hcl:∀ v,oD.data≠.cell v) :
  Inv (X.block scope C NB s2 H2 fp) [(D,oD)] (List.replicate vs.length none++caps ix U) H2 { s2 with heap:=h1,toks:=tk } where
 ok:=Df B I2 hC f2 ft
 os:=rfl
 bare:=I2.bare
 base:=Un.kept old
 loc:=by
  refine ⟨m,hn,fun i y v e1 e2 _=>?_⟩
  have e1:NB[i]?=some y:=e1
  by_cases li:i < vs.length
  ·rw [SW (by rw [Rh];exact li),Ui,if_pos li] at e2
   cases e2
  ·obtain ⟨j,rfl⟩:∃ j,i=vs.length + j:=⟨i - vs.length,by lia⟩
   have e2:(caps ix U)[j]?=some (some v):=by
    rw [S5 (by rw [Rh];lia),Rh,Tw] at e2
    exact e2
   rw [B.nb] at e1;have e1:(ix.map fun i=>X.N.getD i "")[j]?=some y:=by
    rw [S5 (by lia),Tw] at e1
    exact e1
   rw [QN] at e1;unfold caps at e2;rw [QN] at e2;cases q:ix[j]? with
   | none=>rw [q] at e1;cases e1
   | some i =>
    rw [q] at e1 e2;obtain ⟨z,hz,fz⟩:=B.cap i (QX q);have ey:y=z:=by
     have w:X.N.getD i ""=y:=Option.some.inj e1;rw [<- w,RD,hz];rfl
    subst ey;have e2:(U[i]?).join=some v:=Option.some.inj e2;have es:U[i]?=some (some v):=by
     cases w:U[i]? with
     | none=>rw [w] at e2;cases e2
     | some o=>rw [w] at e2;exact congrArg some e2
    have fk:=B.free y (cY fz);have vis:mX X.env.scope y:=.inr fk;obtain ⟨mm,_,hl⟩:=I2.loc;obtain ⟨u,ru,lk⟩:=hl i y v hz es vis;refine ⟨u,ru,.inr ⟨?_,?_⟩⟩
    ·rcases nA (env:=X.env) (names:=scope.names) fz with e | ⟨_,e⟩
     ·exact .inr e
     ·exact .inl e
    ·rcases lk with ⟨lk,_⟩ | ⟨_,c,hc,hcell⟩
     ·rcases fk with fk | fk
      ·rw [lk] at fk;cases fk
      ·rw [lk] at fk;cases fk
     ·obtain ⟨c',hc'⟩:=fD (cells:=X.env.cells) scope.names [] (.inl (cY fz));have e3:=B.look I2 hc';rw [hc] at e3;cases e3;obtain ⟨oc,g1,g2⟩:=hcell;exact ⟨c,hc',oc,old _ _ g1,g2⟩
 cell:=fun y c e=>by
  obtain ⟨v,o,g1,g2⟩:=I2.cell y c (B.look I2 e);exact ⟨v,o,old _ _ g1,g2⟩
 free:=I2.hok.fresh hC
 d9:=fun y c e=>I2.d9 y c (B.look I2 e)
 pin:=fun p hp=>by
  have e:p=(D,oD):=by simpa [Cx.block] using hp
  subst e;refine ⟨ho,I2.hok.fresh hD,hDC,fun z=>?_,hcl⟩
  rcases Q9.mp (I2.ja D z) with e | e
  ·have e:D=X.env.locals:=e;exact absurd (QT I2.lt (e ▸ hD)) (R9 _)
  ·exact I2.Gg hD e
 hok:=I2.hok.kept old
 len:=by
  show (List.replicate vs.length none++caps ix U).length=NB.length;rw [B.nb,QE,QE,xD,Q8,Rh]
end
abbrev TL:=List V->St->Hp->(List V->St->Hp->Prop)->Prop
def PL (X:Cx)(D:Addr)(elt:Expr)(gens:VD)(scope:Scope)(pos:Pos) (k:Nat)(t:TL):Prop :=
 X.s₀.heap.objs.size<=D->(∀ y c,X.env.cells.lookup y=some c->c≠D)->(∀ e s',X.xe e s'->False) ->
 ∀ (pins:VF)(s:Shared)(U:St)(H:Hp)(ys:List V)(its:VQ) (nn:Nat)(Q:List V->St->Hp->Prop)(fin:Sem Fin)(Qf:Fin->Shared->Prop)(E:VC),
  (∀ p∈X.pn++pins,p.1≠D)->Inv X ((D,dG its nn)::pins) U H s->Vals ys its->ys.length<=sizeLine->t ys U H Q ->
  (∀ s' ys' its' nn' σ' H',Inv X ((D,dG its' nn')::pins) σ' H' s'->Vals ys' its'->ys'.length<=sizeLine->Q ys' σ' H'->wpAny (model X.prog X.w) X.A fin Qf E s') ->
  wpAny (model X.prog X.w) X.A (iB elt gens scope pos k (.ref D) X.env fin) Qf E s
def Im (te:TE):TL:=fun ys U H Q=>te U H fun v H1=>ys.length < sizeLine/\Q (ys++[v]) U H1
def yq (J:It)(g:TG)(tt:TT)(tr:TL)(ys0:List V)(σ0:St)(H1:Hp)(Q:List V->St->Hp->Prop):Prop :=
 ∃ W:Nat->Nat->List V->St->Hp->Prop,(∃ m,W 0 m ys0 σ0 H1)/\∀ i m ys U H,W i m ys U H ->
  (J.stop i H/\Q ys U H)\/(J.go i H/\∃ N:List V->St->Hp->Prop,(∀ ys' σ' H',N ys' σ' H'->∃ m',m' < m/\W (i + 1) m' ys' σ' H') /\
   ∀ x H',J.qL i H x H'->g x U H' fun σ2 H2=>tt σ2 H2 fun b H3=>if b=true then tr ys σ2 H3 N else N ys σ2 H3)
def NK (wi:TI)(g:TG)(tt:TT)(tr:TL):TL:=fun ys U H Q=>wi U H fun J H1=>yq J g tt tr ys U H1 Q
section
variable {X:Cx}{D:Addr}{elt tg iter:Expr}{gens:VD}{ifs:VT}{scope:Scope}{pos:Pos}{k:Nat}
def zQ (he:PE X elt te)(hk:gens[k]?=none:=by rfl):PL X D elt gens scope pos k (Im te):=by
 intro hD hc hx pins s U H ys its nn Q fin Qf E hp I rv hz h hf;unfold iB;rw [hk];refine Q0 (Q0 (Qq (he _ s U H _ I h) (fun y s8 ⟨yv,H8,I8,r8,hlt,n8⟩=>Q0 ?_) fun e s' z=>(hx e s' z).elim))
 have pD:=I8.pin (D,dG its nn) (Qx _ Q2);refine append_at (hsz:=by rw [QJ,<- rv.length];exact hz) pD.1 fun h9 hs9 hD9=>Q5 ?_
 have I8n:Inv X pins U H8 s8:=I8.jC fun p hp'=>I8.pin p (Qx _ (Q7 _ hp'))
 have I9:=I8n.turned (h':=h9) (t':=s8.toks) (it:=D) (fun b o hb e=>hs9.extBut b o hb e) pD.2.1 pD.2.2.1 (.inr hD) hc hp
 have e9:dG (its++[y]) (nn + 1)={ cls:=.type "list",data:=.seq (its.toArray.push y) (nn + 1) }:=by
  show ({ cls:=.type "list",data:=.seq (its++[y]).toArray (nn + 1) }:Obj)=_;rw [List.push_toArray]
 have I10:Inv X ((D,dG (its++[y]) (nn + 1))::pins) U H8 { s8 with heap:=h9 }:=by
  refine I9.jC fun p hp'=>?_
  rcases Q9.mp hp' with rfl | hp'
  ·exact ⟨hD9.trans (congrArg some e9.symm),pD.2.1,pD.2.2.1,pD.2.2.2.1,fun v q=>by cases q⟩
  ·exact I9.pin p (Qx _ hp')
 exact hf _ (ys++[yv]) (its++[y]) (nn + 1) U H8 I10 (Vals.append rv (.cons r8 .nil)) (by rw [QE];exact hlt) n8
def GC {b:Addr}(f:dN X ((D,o)::pins) H b)(hn:H' b=none):dN X ((D,o')::pins) H' b:=by
 obtain ⟨f0,f1,f2,f3,f4,f5⟩:=f;refine ⟨hn,f1,f2,f3,f4,fun p hp=>?_⟩
 rcases QA.mp hp with hp | hp
 ·exact f5 p (TV _ hp)
 ·rcases Q9.mp hp with rfl | hp
  ·exact f5 (D,o) (Qx _ Q2)
  ·exact f5 p (Qx _ (Q7 _ hp))
def M8 (hc:X.calm=true)(hi:PI X tg iter wi)(hg:PG X tg g)(ht:nQ X ifs tt)(hr:PL X D elt gens scope pos (k + 1) tr)
  (hk:gens[k]?=some ⟨tg,iter,ifs,0⟩:=by rfl)(ha:∀ g∈gens,g.is_async=0:=by decide)(hs:∀ v,foldedSetIterable iter X.env v=pure v:=by intro _;rfl):PL X D elt gens scope pos k (NK wi g tt tr):=by
 intro hD hcD hx pins s U H ys its nn Q fin Qf E hp I rv hz h hf;unfold iB;rw [hk];refine Q0 (Qq (hi _ s U H _ I h) (fun v s1 h1=>Q0 (Ss (Q0 (Tq (hs v) (Q0 (RX (Qq h1 (fun itv s2 h2=>?_) fun e s' z=>(hx e s' z).elim))))))) fun e s' z=>(hx e s' z).elim)
 obtain ⟨it,fp,tn,J,H2,e,I2,T,st2,f2,W,⟨m0,w0⟩,turn⟩:=h2;subst e;refine Q0 (wpAny_runOwn ?_);have loop:codeAny (model X.prog X.w) X.A (.compLoop (.ListComp elt gens scope pos) k (.ref it) (.ref D) X.env) (fun r s'=>match r with | .ok f=>wpAny (model X.prog X.w) X.A fin Qf E s' | .error e=>cameBackBy (model X.prog X.w) X.A X.env E e s') s2:=by
  refine nF hk ha (fun n s'=>∃ i ys' its' nn' σ' H',W i n ys' σ' H'/\Inv X ((D,dG its' nn')::pins) σ' H' s'/\tn i s'.heap/\(∀ b∈fp,H' b=none)/\Vals ys' its'/\ys'.length<=sizeLine) ?_ m0 ⟨0,ys,its,nn,U,H2,w0,I2,st2,fun b hb=>(f2 b hb).1,rv,hz⟩
  rintro n s' ⟨i,ys',its',nn',σ',H',w',I',st',fr',rv',hz'⟩;have fy:∀ {H3:Hp},(∀ b∈fp,H3 b=none)->∀ b∈fp,dN X ((D,dG its' nn')::pins) H3 b:=fun hn b hb=>GC (f2 b hb) (hn b hb)
  rcases turn i n ys' σ' H' w' with ⟨stop,q⟩ | ⟨go,Nx,hNx,step⟩
  ·refine Qq (T.done X rfl rfl rfl hc i _ s' _ H' (fun _ _=>False) I' (fy fr') st' stop) (fun r s4 ⟨hr',I4⟩=>?_) fun _ _ z=>z.elim
   subst hr';exact hf _ _ _ _ _ _ I4 rv' hz' q
  ·refine Qq (T.item X rfl rfl rfl hc i _ s' _ H' (fun _ _=>False) I' (fy fr') st' go) (fun r s4 ⟨u,hr',h4⟩=>?_) fun _ _ z=>z.elim
   subst hr';refine Qq h4 (fun _ s4 ⟨v,H5,I5,r5,y5,st5,fr5⟩=>?_) fun _ _ z=>z.elim
   have pIt:∀ b∈fp,∃ o,s4.heap.get? b=some o/\∀ v,o.data≠.cell v:=T.obj _ _ st5;have I5':=I5.pinned (fy fr5) pIt;refine Qq (hg _ s4 σ' H5 v u _ I5' r5 (step v H5 y5)) (fun _ s6 ⟨σ6,H6,I6,q6⟩=>?_) fun e s' z=>(hx e s' z).elim
   refine Qq (ht _ s6 σ6 H6 _ I6 q6) (fun b s7 ⟨H7,I7,q7⟩=>?_) fun e s' z=>(hx e s' z).elim
   have stays:∀ {s9:Shared}{H9:Hp}{σ9:St}{oD:Obj},Inv X ((D,oD)::(pins++fG fp s4.heap)) σ9 H9 s9->tn (i + 1) s9.heap/\(∀ b∈fp,H9 b=none)/\Inv X ((D,oD)::pins) σ9 H9 s9:=fun {s9 H9 σ9 oD} I9=>by
    refine ⟨T.keep _ _ _ st5 fun b hb o e=>(I9.pin (b,o) (Qx _ (Q7 _ (Qx _ (d8 hb e))))).1,fun b hb=>?_,I9.jC fun p hp'=>I9.pin p (Qx _ ?_)⟩
    ·obtain ⟨o,e,d⟩:=pIt b hb;exact (I9.pin (b,o) (Qx _ (Q7 _ (Qx _ (d8 hb e))))).2.1
    ·rcases Q9.mp hp' with rfl | hp'
     ·exact Q2
     ·exact Q7 _ (TV _ hp')
   cases b with
   | false =>
    rw [if_neg Qu] at q7 ⊢;obtain ⟨m',hm,w7⟩:=hNx _ _ _ q7;obtain ⟨g1,g2,g3⟩:=stays I7;exact ⟨m',hm,i + 1,ys',its',nn',σ6,H7,w7,g3,g1,g2,rv',hz'⟩
   | true =>
    rw [if_pos rfl] at q7 ⊢;intro fin' Qf' hf';refine hr hD hcD hx (pins++fG fp s4.heap) s7 σ6 H7 ys' its' nn' Nx fin' Qf' _ (fun p hp'=>?_) I7 rv' hz' q7 fun s8 ys8 its8 nn8 σ8 H8 I8 rv8 hz8 n8=>?_
    ·rcases QA.mp hp' with hp' | hp'
     ·exact hp p (TV _ hp')
     ·rcases QA.mp hp' with hp' | hp'
      ·exact hp p (Qx _ hp')
      ·exact Ne.symm ((f2 p.1 (lA hp').1).2.2.2.2.2 (D,dG its nn) (Qx _ Q2))
    ·obtain ⟨m',hm,w8⟩:=hNx _ _ _ n8;obtain ⟨g1,g2,g3⟩:=stays I8;exact hf' s8 ⟨m',hm,i + 1,ys8,its8,nn8,σ8,H8,w8,g3,g1,g2,rv8,hz8⟩
 exact zA hk loop (T.self _ 0 _ _ _ st2 loop)
end
section
variable {X:Cx}{scope:Scope}{vs:VX}{NB:VX}{ix:VV}
def mJ (wi:TI) (n:Nat)(ix:VV)(g:TG)(tt:TT)(tr:TL):TE:=fun U H Q=>wi U H fun J H1=>yq J g tt tr [] (List.replicate n none++caps ix U) H1 fun ys _ H'=>∀ p,H' p=none->Q (.ref p) (upd H' p (.lst ys))
def tF {elt tg iter:Expr}{ifs:VT}{rest:VD}{pos:Pos}{g:TG}{tt:TT}{tr:TL}{J:It}{it:Addr}{tn:Nat->Heap->Prop}{fp:VR}{pins:VF}{U:St}{H2:Hp}{s2:Shared}{E:VC}{RR:Value->Addr->Result->Shared->Prop}{Qr:VK}(B:cC X scope vs NB ix)(hc:X.calm=true)
  (hg:∀ (C:Addr)(s:Shared)(H:Hp)(fp:VR),PG (X.block scope C NB s H fp) tg g)(ht:∀ (C:Addr)(s:Shared)(H:Hp)(fp:VR),nQ (X.block scope C NB s H fp) ifs tt)
  (hr:∀ (C:Addr)(s:Shared)(H:Hp)(fp:VR)(D:Addr),PL (X.block scope C NB s H fp) D elt (⟨tg,iter,ifs,0⟩:: rest) scope pos 1 tr)
  (ha:∀ g∈rest,g.is_async=0)(I2:Inv X pins U H2 s2)(T:Turn X.prog X.w X.K tg J fp it tn)(st2:tn 0 s2.heap)(f2:∀ b∈fp,dN X pins H2 b)(h:yq J g tt tr [] (List.replicate vs.length none++caps ix U) H2 fun ys _ H'=>∀ p,H' p=none->Qr (.ref p) (upd H' p (.lst ys)))
  (hRR:∀ (D C:Addr)(Hf:Hp)(s':Shared)(m':VE),Inv X pins U Hf s'->s'.heap.Ns C m'->dN X pins Hf C->Qr (.ref D) Hf->RR (.ref D) C (.ok .next) s') :
  wpAny (model X.prog X.w) X.A (newList []) (fun acc s3=>wpAny (model X.prog X.w) X.A (newFunctionEnv scope X.env.globals (bU X.env.cells scope.names []) [] X.env.qual none .none (some X.env)) (fun cenv s4 =>
   codeAny (model X.prog X.w) X.A (.compStart (.ListComp elt (⟨tg,iter,ifs,0⟩:: rest) scope pos) 0 (.ref it) acc { cenv with scope:=relabel scope X.env }) (RR acc cenv.locals) s4) E s3) E s2:=by
 obtain ⟨W,⟨m0,w0⟩,turn⟩:=h;have ha':∀ g∈(⟨tg,iter,ifs,0⟩:Comprehension)::rest,g.is_async=0:=fun g hg=>by
  rcases Q9.mp hg with rfl | hg
  ·rfl
  ·exact ha g hg
 refine Rr (wpAny_newFunctionEnv B.cell (by intro y hy;simp at hy) (fun h1 hns hsb=>?_) B.kind)
 dsimp only at hns hsb ⊢;generalize eG:s2.heap.push { cls:=.type "list",dict:=none,data:=.seq ([]:VQ).toArray }=G at hns hsb ⊢;have hC:G.objs.size=s2.heap.objs.size + 1:=by rw [<- eG,Sj]
 have hDC:s2.heap.objs.size≠G.objs.size:=by rw [hC];exact QG (Si _)
 have hCle:s2.heap.objs.size<=G.objs.size:=by rw [hC];exact Sx _
 have old:∀ b o,s2.heap.get? b=some o->h1.get? b=some o:=fun b o e=>by
  have lt:=QD e;exact hsb.extBut b o (QG (QT lt hCle)) (QL _ (eG ▸ QL _ e))
 have hacc:h1.get? s2.heap.objs.size=some (dG [] 0):=hsb.extBut _ _ hDC (QL _ (eG ▸ R7 _ rfl));have ft:∀ b∈fp,b < s2.heap.objs.size:=fun b hb=>by
  obtain ⟨o,e,_⟩:=T.obj _ _ st2 b hb;exact QD e
 have cD:∀ y c,(X.block scope G.objs.size NB s2 H2 fp).env.cells.lookup y=some c->c≠s2.heap.objs.size:=fun y c e z=>by
  obtain ⟨w,q⟩:=I2.cell y c (B.look I2 e);exact R9 _ (z ▸ q.lt)
 have loop:∀ s3:Shared,s3={ s2 with heap:=h1,toks:=s2.toks + ([]:List (Str×Value)).length } ->
   codeAny (model X.prog X.w) X.A (.compLoop (.ListComp elt (⟨tg,iter,ifs,0⟩:: rest) scope pos) 0 (.ref it) (.ref s2.heap.objs.size) (compEnvC scope (bU X.env.cells scope.names []) G.objs.size X.env))
    (RR (.ref s2.heap.objs.size) G.objs.size) s3:=by
  rintro s3 rfl;have I3:=Ca (tk:=s2.toks + ([]:List (Str×Value)).length) B I2 hCle (Q6 _) hDC f2 ft old hns hacc (fun v q=>by cases q)
  have st3:tn 0 h1:=T.keep _ _ _ st2 fun b _ o e=>old b o e
  have fy:∀ {H':Hp}{oD:Obj},(∀ b∈fp,H' b=none)->∀ b∈fp,dN (X.block scope G.objs.size NB s2 H2 fp) [(s2.heap.objs.size,oD)] H' b:=fun {H' oD} hn b hb=>by
   refine ⟨hn b hb,QG (QT (ft b hb) hCle),fun z=>?_,.inl hb,fun y c e=>(f2 b hb).2.2.2.2.1 y c (B.look I2 e),fun p hp=>?_⟩
   ·rcases Q9.mp (I2.ja b z) with e | e
    ·exact (f2 b hb).2.1 e
    ·exact (f2 b hb).2.2.1 e
   ·have e:p=(s2.heap.objs.size,oD):=by simpa [Cx.block] using hp
    subst e;exact Ne.symm (QG (ft b hb))
  refine nF (k:=0) rfl ha' (fun n s'=>∃ i ys its nn σ' H',W i n ys σ' H'/\Inv (X.block scope G.objs.size NB s2 H2 fp) [(s2.heap.objs.size,dG its nn)] σ' H' s'/\tn i s'.heap/\(∀ b∈fp,H' b=none)/\Vals ys its/\ys.length<=sizeLine)
   ?_ m0 ⟨0,[],[],0,_,H2,w0,I3,st3,fun b hb=>(f2 b hb).1,.nil,Qw _⟩
  rintro n s' ⟨i,ys,its,nn,σ',H',w',I',st',fr',rv,hz⟩;rcases turn i n ys σ' H' w' with ⟨stop,q⟩ | ⟨go,Nx,hNx,step⟩
  ·refine Qq (T.done (X.block scope G.objs.size NB s2 H2 fp) rfl rfl rfl hc i _ s' _ H' (fun _ _=>False) I' (fy fr') st' stop) (fun r s4 ⟨hr',I4⟩=>?_) fun _ _ z=>z.elim
   subst hr';have I5:=CO I2 f2 (Q6 _) I4 rv hz;obtain ⟨m4,hn4,_⟩:=I4.loc;have hfree:H' s2.heap.objs.size=none:=(I4.pin (s2.heap.objs.size,dG its nn) (by show _∈[]++[(s2.heap.objs.size,dG its nn)];simp)).2.1
   have fC:dN X pins (upd H' s2.heap.objs.size (.lst ys)) G.objs.size:=I2.uV hCle (by
    rw [au (Ne.symm hDC)];exact I4.free)
   exact hRR _ _ _ s4 m4 I5 hn4 fC (q _ hfree)
  ·refine Qq (T.item (X.block scope G.objs.size NB s2 H2 fp) rfl rfl rfl hc i _ s' _ H' (fun _ _=>False) I' (fy fr') st' go) (fun r s4 ⟨u,hr',h4⟩=>?_) fun _ _ z=>z.elim
   subst hr';refine Qq h4 (fun _ s4 ⟨v,H5,I5,r5,y5,st5,fr5⟩=>?_) fun _ _ z=>z.elim
   have pIt:∀ b∈fp,∃ o,s4.heap.get? b=some o/\∀ v,o.data≠.cell v:=T.obj _ _ st5;have I5':=I5.pinned (fy fr5) pIt;refine Qq (hg _ _ _ _ _ s4 σ' H5 v u _ I5' r5 (step v H5 y5)) (fun _ s6 ⟨σ6,H6,I6,q6⟩=>?_) fun _ _ z=>z.elim
   refine Qq (ht _ _ _ _ _ s6 σ6 H6 _ I6 q6) (fun b s7 ⟨H7,I7,q7⟩=>?_) fun _ _ z=>z.elim
   have stays:∀ {s9:Shared}{H9:Hp}{σ9:St}{oD:Obj},Inv (X.block scope G.objs.size NB s2 H2 fp) ((s2.heap.objs.size,oD)::fG fp s4.heap) σ9 H9 s9->tn (i + 1) s9.heap/\(∀ b∈fp,H9 b=none)/\Inv (X.block scope G.objs.size NB s2 H2 fp) [(s2.heap.objs.size,oD)] σ9 H9 s9:=fun {s9 H9 σ9 oD} I9=>by
    refine ⟨T.keep _ _ _ st5 fun b hb o e=>(I9.pin (b,o) (Qx _ (Q7 _ (d8 hb e)))).1,fun b hb=>?_,I9.jC fun p hp'=>I9.pin p (Qx _ ?_)⟩
    ·obtain ⟨o,e,d⟩:=pIt b hb;exact (I9.pin (b,o) (Qx _ (Q7 _ (d8 hb e)))).2.1
    ·rw [QF.mp hp'];exact Q2
   cases b with
   | false =>
    rw [if_neg Qu] at q7 ⊢;obtain ⟨m',hm,w7⟩:=hNx _ _ _ q7;obtain ⟨g1,g2,g3⟩:=stays I7;exact ⟨m',hm,i + 1,ys,its,nn,σ6,H7,w7,g3,g1,g2,rv,hz⟩
   | true =>
    rw [if_pos rfl] at q7 ⊢;intro fin' Qf' hf';refine hr _ _ _ _ s2.heap.objs.size (Q6 _) cD (fun _ _ z=>z) (fG fp s4.heap) s7 σ6 H7 ys its nn Nx fin' Qf' _ (fun p hp'=>?_) I7 rv hz q7 fun s8 ys8 its8 nn8 σ8 H8 I8 rv8 hz8 n8=>?_
    ·have hp'':p∈fG fp s4.heap:=hp';exact QG (ft _ (lA hp'').1)
    ·obtain ⟨m',hm,w8⟩:=hNx _ _ _ n8;obtain ⟨g1,g2,g3⟩:=stays I8;exact hf' s8 ⟨m',hm,i + 1,ys8,its8,nn8,σ8,H8,w8,g3,g1,g2,rv8,hz8⟩
 exact codeAny_compStart_list (loop _ rfl) (T.self _ 0 _ _ _ (T.keep _ _ _ st2 fun b _ o e=>old b o e) (loop _ rfl))
def GO {elt tg iter:Expr}{ifs:VT}{rest:VD}{pos:Pos}{wi:TI}{g:TG}{tt:TT}{tr:TL}(B:cC X scope vs NB ix)(hc:X.calm=true)(hi:PI X tg iter wi)
  (hg:∀ (C:Addr)(s:Shared)(H:Hp)(fp:VR),PG (X.block scope C NB s H fp) tg g)(ht:∀ (C:Addr)(s:Shared)(H:Hp)(fp:VR),nQ (X.block scope C NB s H fp) ifs tt)
  (hr:∀ (C:Addr)(s:Shared)(H:Hp)(fp:VR)(D:Addr),PL (X.block scope C NB s H fp) D elt (⟨tg,iter,ifs,0⟩:: rest) scope pos 1 tr)
  (ha:∀ g∈rest,g.is_async=0:=by decide)(hs:∀ v,foldedSetIterable iter X.env v=pure v:=by intro _;rfl):PE X (.ListComp elt (⟨tg,iter,ifs,0⟩:: rest) scope pos) (mJ wi vs.length ix g tt tr):=by
 intro pins s U H Q I h;rw [eval_ListComp];refine Uz (use:=none) rfl hs (B.clos I) B.kind B.names (aR (hi pins s U H _ I h) fun v s1 h1=>aR h1 fun itv s2 h2=>?_)
 obtain ⟨it,fp,tn,J,H2,e,I2,T,st2,f2,w⟩:=h2;subst e;refine tF (Qr:=Q) (RR:=fun acc C=>compPost (model X.prog X.w) X.A X.xe none (EP X pins U Q) acc C) B hc hg ht hr ha I2 T st2 f2 w fun D C Hf s' m' I' hn' fC q=>?_
 refine ⟨m',hn',fun h'' hs''=>⟨.ref D,Hf,?_,rfl,q⟩⟩
 obtain ⟨c0,c1,c2,c3,c4,c5⟩:=fC;exact I'.turned (it:=C) (t':=s'.toks) (fun b o hb e=>hs''.extBut b o hb e) c0 c1 c3 c4 c5
def xZ {elt tg iter:Expr}{ifs:VT}{rest:VD}{pos py spos:Pos}{wi:TI}{g:TG}{tt:TT}{tr:TL}{j:Nat}{y:Str}(hN:X.N.Nodup)(hj:X.N[j]?=some y)(hy:X.env.scope.names.lookup y=some .local)(B:cC X scope vs NB ix)(hc:X.calm=true)(hi:PI X tg iter wi)
  (hg:∀ (C:Addr)(s:Shared)(H:Hp)(fp:VR),PG (X.block scope C NB s H fp) tg g)(ht:∀ (C:Addr)(s:Shared)(H:Hp)(fp:VR),nQ (X.block scope C NB s H fp) ifs tt)
  (hr:∀ (C:Addr)(s:Shared)(H:Hp)(fp:VR)(D:Addr),PL (X.block scope C NB s H fp) D elt (⟨tg,iter,ifs,0⟩:: rest) scope pos 1 tr)
  (hsw:swapsWith (.ListComp elt (⟨tg,iter,ifs,0⟩:: rest) scope pos) (some (.Name y py)) spos.line X.env=pure true)
  (ha:∀ g∈rest,g.is_async=0:=by decide)(hs:∀ v,foldedSetIterable iter X.env v=pure v:=by intro _;rfl):PS X (.Assign [.Name y py] (.ListComp elt (⟨tg,iter,ifs,0⟩:: rest) scope pos) spos) (Fz (mJ wi vs.length ix g tt tr) (p9 j)):=by
 intro pins s U H Dn I h;rw [exec_Assign_Name_used _ _ _ _ hsw];refine Q0 (Ss (Q0 ?_));show wpAny (model X.prog X.w) X.A (comprehension (.ListComp elt (⟨tg,iter,ifs,0⟩:: rest) scope pos) scope X.env _ (newList []) false (eval iter X.env) (some (assign (.Name y py) X.env)) >>= fun _=>pure ()) _ _ s
 refine Q0 (aR (Uz (use:=some (assign (.Name y py) X.env)) (Q:=fun _ s'=>SP X pins Dn .next s') rfl hs (B.clos I) B.kind B.names (aR (hi pins s U H _ I h) fun v s1 h1=>aR h1 fun itv s2 h2=>?_)) fun _ s' q=>Q5 (Q5 q))
 obtain ⟨it,fp,tn,J,H2,e,I2,T,st2,f2,w⟩:=h2;subst e;refine tF (Qr:=fun x H1=>p9 j x U H1 Dn.nx) (RR:=fun acc C=>compPost (model X.prog X.w) X.A X.xe (some (assign (.Name y py) X.env)) (fun _ s'=>SP X pins Dn .next s') acc C) B hc hg ht hr ha I2 T st2 f2 w fun D C Hf s' m' I' hn' fC q=>?_
 obtain ⟨c0,c1,c2,c3,c4,c5⟩:=fC;show wpAny (model X.prog X.w) X.A (assign (.Name y py) X.env (.ref D)) _ _ s';refine wpAny_assign_Name (vD I' hN hj (.inl hy) (v:=.ref D) rfl (fun s'' I'' ⟨a,sb,ha⟩=>?_) (.inr hy))
 have hCa:C≠a:=by
  rcases ha with e | e
  ·rw [e];exact c1
  ·exact fun z=>c4 y a e z.symm
 refine ⟨m',hn'.sameBut sb hCa,fun h3 hs3=>⟨_,Hf,?_,q⟩⟩
 exact I''.turned (it:=C) (t':=s''.toks) (fun b o hb e=>hs3.extBut b o hb e) c0 c1 c3 c4 c5
end
end L2
namespace Dv
open PySem L2 PySem.W
section
variable {X:Cx}{Ex:XK}{Y:VV}{tg:Expr}
def Gm {a:Addr}(h:cy K ji a xs)(r:aA K ji xs ds):AK K (G9 K a) ds ji:=by
 intro i H Hm s1 s2;have q:bX K H a xs:=(cy.mono (s1.trans s2) h).sq;refine ⟨fun d e=>?_,fun l=>⟨xs,q,by rw [r.len];exact l⟩⟩
 obtain ⟨v,e1,r1⟩:=r.get e;refine ⟨⟨xs,v,q,e1⟩,fun x H' y=>?_⟩
 obtain ⟨rfl,y⟩:=y;have:=y xs q;rw [e1] at this;cases this;exact ⟨Hm,ah.refl _,s2,ah.refl _,fun _ _=>.inl rfl,r1.mono s1⟩
def Jf {a:Addr}(h:ji a=some (.tup xs))(r:aA K ji xs ds):AK K (Hv K a) ds ji:=by
 intro i H Hm s1 s2;have q:cj K H a xs:=cj.of (s2 _ _ (s1 _ _ h));refine ⟨fun d e=>?_,fun l=>⟨xs,q,by rw [r.len];exact l⟩⟩
 obtain ⟨v,e1,r1⟩:=r.get e;refine ⟨⟨xs,v,q,e1⟩,fun x H' y=>?_⟩
 obtain ⟨rfl,y⟩:=y;have:=y xs q;rw [e1] at this;cases this;exact ⟨Hm,ah.refl _,s2,ah.refl _,fun _ _=>.inl rfl,r1.mono s1⟩
def Jb {lo:Int}{n i:Nat}(h:(kg lo n)[i]?=some d):i < n/\d=.int (lo + i):=by
 unfold kg at h;rw [QN] at h
 by_cases c:i < n
 ·rw [RU c] at h;cases h;exact ⟨c,rfl⟩
 ·rw [RG (by rw [QI];lia)] at h
  cases h
def zY {lo:Int}{n:Nat}:AK K (EY lo n) (kg lo n) ji:=by
 intro i H Hm s1 s2;refine ⟨fun d e=>?_,fun l=>?_⟩
 ·obtain ⟨l,rfl⟩:=Jb e;refine ⟨l,fun x H' y=>?_⟩
  obtain ⟨rfl,rfl⟩:=y;exact ⟨Hm,ah.refl _,s2,ah.refl _,fun _ _=>.inl rfl,.int _⟩
 ·unfold kg at l;rw [Q8,QI] at l;exact l
def FF {T:Addr}(s:ah Hm H)(hT:H T=none)(r1:Rp K Hm x a)(r2:Rp K Hm y b):∃ Hm',ah Hm Hm'/\ah Hm' (upd H T (.tup [x,y]))/\ah H (upd H T (.tup [x,y]))/\(∀ a,H a≠none->OE (Hm' a) (Hm a))/\Rp K Hm' (.ref T) (.tuple [a,b]):=by
 have n:=jG s hT;have s2:=cg (o:=.tup [x,y]) n;refine ⟨upd Hm T (.tup [x,y]),s2,fun b o e=>?_,cg hT,fun a ha=>.inl (au fun z=>ha (z ▸ hT)),.tup aL (.cons (r1.mono s2) (.cons (r2.mono s2) .nil))⟩
 by_cases c:b=T
 ·rw [c,aL] at e ⊢;exact e
 ·rw [au c] at e ⊢;exact s _ _ e
def Dy {i:Nat}(h:(jF ds)[i]?=some d):∃ e,ds[i]?=some e/\d=.tuple [.int i,e]:=by
 unfold jF at h;rw [QN,List.getElem?_zipIdx] at h;cases e:ds[i]? with
 | none=>rw [e] at h;cases h
 | some a =>
  rw [e] at h;simp at h;exact ⟨a,rfl,h.symm⟩
def EG (ds:VO):(jF ds).length=ds.length:=by unfold jF;rw [Q8,List.length_zipIdx]
def GB {a:Addr}(h:cy K ji a xs)(r:aA K ji xs ds):AK K (LY K a) (jF ds) ji:=by
 intro i H Hm s1 s2;have q:bX K H a xs:=(cy.mono (s1.trans s2) h).sq;refine ⟨fun d e=>?_,fun l=>⟨xs,q,by rw [r.len,<- EG];exact l⟩⟩
 obtain ⟨d0,e0,rfl⟩:=Dy e;obtain ⟨v,e1,r1⟩:=r.get e0;refine ⟨⟨xs,v,q,e1⟩,fun x H' y=>?_⟩
 obtain ⟨T,hT,rfl,y⟩:=y;obtain ⟨x',e2,rfl⟩:=y xs q;rw [e1] at e2;cases e2;exact FF s2 hT (.int _) (r1.mono s1)
open PyProof.Rows in
def Kg {a:Addr}(I:Inv X pins U H s)(hq:bX X.K H a xs)(q:R (G9 X.K a) H):wpAny (model X.prog X.w) X.A (pyIter (.ref a)) (Hu X pins U tg R) E s:=by
 obtain ⟨its,rv,p,hz⟩:=I.list hq;refine UO p.isList ?_;refine ⟨s.heap.objs.size,[s.heap.objs.size],_,_,H,rfl,I.kept (t':=s.toks) fun b o e=>QL _ e,EH a _,⟨_,R7 _ rfl,rfl,rfl⟩,fun b hb=>?_,q⟩
 have e:b=s.heap.objs.size:=by simpa using hb
 subst e;exact I.uV (Q6 _) (I.hok.fresh (Q6 _))
open PyProof.Rows in
def Ms {a:Addr}(I:Inv X pins U H s)(hq:cj X.K H a xs)(q:R (Hv X.K a) H):wpAny (model X.prog X.w) X.A (pyIter (.ref a)) (Hu X pins U tg R) E s:=by
 obtain ⟨its,rv,p,hz⟩:=I.tuple hq;refine wpAny_pyIter_tuple (show s.heap.IsTuple a its.toArray from p) ?_
 refine ⟨s.heap.objs.size,[s.heap.objs.size],_,_,H,rfl,I.kept (t':=s.toks) fun b o e=>QL _ e,Bp a _,⟨_,R7 _ rfl,rfl,rfl⟩,fun b hb=>?_,q⟩
 have e:b=s.heap.objs.size:=by simpa using hb
 subst e;exact I.uV (Q6 _) (I.hok.fresh (Q6 _))
def bC (h:SE X Ex Y e d):SI X Ex Y tg e (iE d):=by
 rw [N7];refine ⟨fun U H R=>WE X e U H fun x H1=>(∃ a,x=.ref a/\(∃ xs,bX X.K H1 a xs)/\R (G9 X.K a) H1)\/∃ a,x=.ref a/\(∃ xs,cj X.K H1 a xs)/\R (Hv X.K a) H1,?_,?_⟩
 ·intro pins s U H R I h;refine aR (h pins s I) fun v s1 ⟨x,H1,I1,r1,q1⟩=>?_
  rcases q1 with ⟨a,rfl,⟨xs,hq⟩,q⟩ | ⟨a,rfl,⟨xs,hq⟩,q⟩
  ·cases r1;exact Kg I1 hq q
  ·cases r1;exact Ms I1 hq q
 ·intro g x E U H Hm F P R hx Rl p q;refine h g x E U H Hm F _ _ hx Rl p fun E' k v u H' Hm' F' fp p' R' s' T=>?_
  obtain ⟨hk,ds,e1,p'⟩:=p';obtain ⟨Hm2,s2,R2,r2⟩:=T.iI R' hk;cases r2 with
  | lst a r =>
   cases e1;exact .inl ⟨_,rfl,⟨_,(cy.mono R2.sub a).sq⟩,q _ _ _ _ _ _ p' R2 (s'.trans s2) (Gm a r)⟩
  | tup a r =>
   cases e1;exact .inr ⟨_,rfl,⟨_,cj.of (R2.sub _ _ a)⟩,q _ _ _ _ _ _ p' R2 (s'.trans s2) (Jf a r)⟩
  | _=>cases e1
def oj:VO->Option (VO)
 | [.int j]=>@ite _ (-(2 ^ 62)<=j/\j < 2 ^ 62) (Classical.propDecidable _) (some (kg 0 j.toNat)) none
 | _=>none
def Dp:VO->Option (VO)
 | [.int i,.int j]=>@ite _ (-(2 ^ 62)<=i/\i < 2 ^ 62/\-(2 ^ 62)<=j/\j < 2 ^ 62) (Classical.propDecidable _) (some (kg i (j - i).toNat)) none
 | _=>none
def yw {g:Gh}{U:St}{E:En}{H Hm:Hp}{F:Nat->VR}{as:List Arg}{os:VZ}{vs:List V}{ds:VO}{K:Frag}(R:Rl K g E U H Hm F)(G:Got K U Hm as os vs)(h:fill as E os=some ds):aA K H vs ds:=qh R R.sub G h fun _ _ _ _=>rfl
def N1 (hg:Gl X "range")(hm:X.mg "range"=none)(ns:noStar a=true)(S:aU X Ex Y [a] as):SI X Ex Y tg (.Call (.Name "range" p) [a] [] pos) (mE oj as):=by
 refine ⟨_,ET hg hm (dW (es:=[a]) (by rw [QM,ns];rfl)) (b5 ns),fun g x E U H Hm F P R hx Rl p q=>?_⟩
 refine kH hx S Rl p fun E1 os vs H1 Hm1 F1 p1 R1 s1 G=>?_
 replace p1:aB (cL as E1 os) _:=p1
 rw [<- bB,fE] at p1;obtain ⟨ds,hf,p1⟩:=p1;rw [<- bB] at p1;obtain ⟨xs,hg',p1⟩:=p1;have r:=yw R1 G hf;unfold oj at hg';split at hg'
 ·rename_i j;obtain ⟨v,rfl,r1⟩:=dO r;cases r1;split at hg'
  ·rename_i c;cases hg';exact ⟨j,rfl,c.1,c.2,q _ _ _ _ _ _ p1 R1 s1 zY⟩
  ·cases hg'
 ·cases hg'
def Nn (hg:Gl X "range")(hm:X.mg "range"=none)(ns:noStar a=true)(ns2:noStar b=true)(S:aU X Ex Y [a,b] as):SI X Ex Y tg (.Call (.Name "range" p) [a,b] [] pos) (mE Dp as):=by
 refine ⟨_,Fc hg hm (dW (es:=[a,b]) (by rw [QM,QM,ns,ns2];rfl)) ((b5 ns).trans (by rw [b5 ns2];rfl)) (b5 ns2),fun g x E U H Hm F P R hx Rl p q=>?_⟩
 refine kH hx S Rl p fun E1 os vs H1 Hm1 F1 p1 R1 s1 G=>?_
 replace p1:aB (cL as E1 os) _:=p1
 rw [<- bB,fE] at p1;obtain ⟨ds,hf,p1⟩:=p1;rw [<- bB] at p1;obtain ⟨xs,hg',p1⟩:=p1;have r:=yw R1 G hf;unfold Dp at hg';split at hg'
 ·rename_i i j;obtain ⟨v,w,rfl,r1,r2⟩:=cO r;cases r1;cases r2;split at hg'
  ·rename_i c;cases hg';exact ⟨i,j,rfl,c,q _ _ _ _ _ _ p1 R1 s1 zY⟩
  ·cases hg'
 ·cases hg'
def Og {x1:Nat}(hg:Gl X "enumerate")(hm:X.mg "enumerate"=none)(ns:noStar e=true)(h:SE X Ex Y e d):SI X Ex Y (.Tuple elts x1 tp) (.Call (.Name "enumerate" p) [e] [] pos) (vt d):=by
 rw [LD];refine ⟨_,Jp hg hm (dW (es:=[e]) (by rw [QM,ns];rfl)) (b5 ns),fun g x E U H Hm F P R hx Rl p q=>?_⟩
 refine h g x E U H Hm F _ _ hx Rl p fun E' k v u H' Hm' F' fp p' R' s' T=>?_
 obtain ⟨hk,ds,rfl,p'⟩:=p';obtain ⟨Hm2,s2,R2,r2⟩:=T.iI R' hk;obtain ⟨a,xs,rfl,ha,r⟩:=gz r2;exact ⟨a,rfl,⟨xs,(cy.mono R2.sub ha).sq⟩,q _ _ _ _ _ _ p' R2 (s'.trans s2) (GB ha r)⟩
end
def WG (X:Cx)(tg:Expr):TG:=fun v U H Q=>∀ (pins:VF)(s:Shared)(u:Value),Inv X pins U H s->RelV v u->wpAny (model X.prog X.w) X.A (assign tg X.env u) (fun _ s'=>∃ σ' H',Inv X pins σ' H' s'/\Q σ' H') X.xe s
def WG.of (h:PG X tg t)(q:t v U H Q):WG X tg v U H Q:=fun pins s u I r=>h pins s U H v u Q I r q
def tL (X:Cx)(ifs:VT):TT:=fun U H Q=>∀ (pins:VF)(s:Shared),Inv X pins U H s->wpAny (model X.prog X.w) X.A (forIn ifs true fun c r=>if r=true then do let ok <- isTrue c X.env (eval c X.env);pure (ForInStep.yield ok) else pure (ForInStep.yield r)) (TP X pins U Q) X.xe s
def tL.of (h:nQ X ifs t)(q:t U H Q):tL X ifs U H Q:=fun pins s I=>h pins s U H Q I q
def WL (X:Cx)(D:Addr)(elt:Expr)(gens:VD)(scope:Scope)(pos:Pos) (k:Nat):TL:=fun ys U H Q =>
 X.s₀.heap.objs.size<=D->(∀ y c,X.env.cells.lookup y=some c->c≠D)->(∀ e s',X.xe e s'->False) ->
 ∀ (pins:VF)(s:Shared)(its:VQ) (nn:Nat)(fin:Sem Fin)(Qf:Fin->Shared->Prop)(E:VC),
  (∀ p∈X.pn++pins,p.1≠D)->Inv X ((D,dG its nn)::pins) U H s->Vals ys its->ys.length<=sizeLine ->
  (∀ s' ys' its' nn' σ' H',Inv X ((D,dG its' nn')::pins) σ' H' s'->Vals ys' its'->ys'.length<=sizeLine->Q ys' σ' H'->wpAny (model X.prog X.w) X.A fin Qf E s') ->
  wpAny (model X.prog X.w) X.A (iB elt gens scope pos k (.ref D) X.env fin) Qf E s
def N8 {D:Addr}{k:Nat}:PL X D elt gens scope pos k (WL X D elt gens scope pos k):=fun h1 h2 h3 pins s U H ys its nn Q fin Qf E hp I rv hz h hf=>h h1 h2 h3 pins s its nn fin Qf E hp I rv hz hf
def WL.of {D:Addr}{k:Nat}(h:PL X D elt gens scope pos k t)(q:t ys U H Q):WL X D elt gens scope pos k ys U H Q:=fun h1 h2 h3 pins s its nn fin Qf E hp I rv hz hf=>h h1 h2 h3 pins s U H ys its nn Q fin Qf E hp I rv hz q hf
def Agree (cs:VV)(U σ':St):Prop:=U.length=σ'.length/\∀ j,j∉cs->σ'[j]?=U[j]?
def Agree.refl (cs:VV)(U:St):Agree cs U U:=⟨rfl,fun _ _=>rfl⟩
theorem Agree.trans (h:Agree cs a b)(k:Agree cs b c):Agree cs a c:=⟨h.1.trans k.1,fun j hj=>(k.2 j hj).trans (h.2 j hj)⟩
theorem Agree.symm (h:Agree cs a b):Agree cs b a:=⟨h.1.symm,fun j hj=>(h.2 j hj).symm⟩
section
variable {K:Frag}{g:Gh}{E E0:En}{U σ':St}{H Hm:Hp}{F:Nat->VR}
def Rl.Nm (R:Rl K g E U H Hm F){i:Nat}(o:bL E i=true)(v:Option V):Rl K g (E.set i none) (U.set i v) H Hm (fun j=>if j=i then [] else F j) where
 len:=by rw [RJ,RJ];exact R.len
 sub:=R.sub
 slot:=fun j k' d' e'=>by
  by_cases c:j=i
  ·subst c;rw [aF (gu o)] at e';cases e'
  ·rw [ao (Ne.symm c)] at e';obtain ⟨u,g1,g2⟩:=R.slot j k' d' e';exact ⟨u,by rw [ao (Ne.symm c)];exact g1,by rw [if_neg c];exact g2⟩
 off:=fun j a ha=>by
  by_cases c:j=i
  ·rw [if_pos c] at ha;cases ha
  ·rw [if_neg c] at ha;exact R.off j a ha
 bH:=fun j a ha=>by
  by_cases c:j=i
  ·rw [if_pos c] at ha;cases ha
  ·rw [if_neg c] at ha;exact R.bH j a ha
 aV:=fun j l a g1 g2=>by
  by_cases c:j=i
  ·rw [if_pos c] at g1;cases g1
  ·rw [if_neg c] at g1
   by_cases c':l=i
   ·rw [if_pos c'] at g2;cases g2
   ·rw [if_neg c'] at g2;exact R.aV j l a g1 g2
 fr:=R.fr
 new:=fun j a ha=>by
  by_cases c:j=i
  ·rw [if_pos c] at ha;cases ha
  ·rw [if_neg c] at ha;exact R.new j a ha
 pin:=fun q hq=>by
  obtain ⟨g1,ds',g2⟩:=R.pin q hq;have c:i≠q.1:=fun z=>by
   unfold bL at o;rw [z,g2] at o;cases o
  exact ⟨by rw [ao c];exact g1,ds',by rw [ao c];exact g2⟩
 old:=R.old
theorem Rl.bf:∀ {cs:VV}{E E0:En}{U:St}{F:Nat->VR},Rl K g E U H Hm F->Dv.bf cs E=some E0->∃ σ' F',Rl K g E0 σ' H Hm F'/\Agree cs U σ'/\(∀ c∈cs,σ'[c]?=some none/\E0[c]?=some none)
 | [],E,E0,U,F,R,h=>by
  cases h;exact ⟨U,F,R,Agree.refl _ _,fun _ z=>by cases z⟩
 | c::cs,E,E0,U,F,R,h=>by
  rw [Dv.bf] at h
  by_cases o:bL E c=true
  ·rw [if_pos o] at h;have R1:=R.Nm o none;obtain ⟨σ',F',R',a,n⟩:=Rl.bf (cs:=cs) R1 h;have lc:=gu o;have keep:∀ {l:VV}{E E0:En},Dv.bf l E=some E0->∀ j,j∉l->E0[j]?=E[j]?:=by
    intro l
    induction l with
    | nil=>intro E E0 h j _;cases h;rfl
    | cons i l ih =>
     intro E E0 h j hj;rw [Dv.bf] at h
     by_cases o:bL E i=true
     ·rw [if_pos o] at h;have ne:i≠j:=fun z=>hj (z ▸ Q2)
      exact (ih h j fun z=>hj (Q7 _ z)).trans (ao ne)
     ·rw [if_neg o] at h;cases h
   refine ⟨σ',F',R',⟨by rw [<- a.1,RJ],fun j hj=>?_⟩,fun d hd=>?_⟩
   ·have ne:c≠j:=fun z=>hj (z ▸ Q2)
    exact (a.2 j fun z=>hj (Q7 _ z)).trans (ao ne)
   ·by_cases m:d∈cs
    ·exact n d m
    ·have e:d=c:=(Q9.mp hd).resolve_right m;subst e;exact ⟨(a.2 d m).trans (aF (R.len ▸ lc)),(keep h d m).trans (aF lc)⟩
  ·rw [if_neg o] at h;cases h
def Rl.agree (R:Rl K g E U H Hm F)(a:Agree cs U σ')(n:∀ c∈cs,E[c]?=some none):Rl K g E σ' H Hm F where
 len:=R.len.trans a.1
 sub:=R.sub
 slot:=fun j k d e=>by
  obtain ⟨v,h1,h2⟩:=R.slot j k d e;refine ⟨v,?_,h2⟩;rw [a.2 j fun z=>by rw [n j z] at e;cases e]
  exact h1
 off:=R.off
 bH:=R.bH
 aV:=R.aV
 fr:=R.fr
 new:=R.new
 pin:=fun q hq=>by
  obtain ⟨g1,ds',g2⟩:=R.pin q hq;refine ⟨?_,ds',g2⟩;rw [a.2 q.1 fun z=>by rw [n q.1 z] at g2;cases g2]
  exact g1
 old:=R.old
end
inductive gM (X:Cx)(Ex:XK)(Y:VV):VT->DT->Prop
 | nil:gM X Ex Y [] dQ
 | one {e:Expr}{t:DT}:ST X Ex Y e t->gM X Ex Y [e] t
def gM.ok (h:gM X Ex Y ifs t){F:Nat->VR}(hx:XL X Ex x g)(R:Rl X.K g E U H Hm F)(p:t x E P)
  (q:∀ E' b H' Hm' F',P E' b->Rl X.K g E' U H' Hm' F'->ah Hm Hm'->Q b H'):tL X ifs (sel Y U) H Q:=by
 cases h with
 | nil=>exact tL.of Km (q _ _ _ _ _ p R (ah.refl _))
 | one h=>exact tL.of (Jc jJ) (h g x E U H Hm F P Q hx R p q)
def SL (X:Cx)(Y cs:VV)(D:Addr)(elt:Expr)(gens:VD)(scope:Scope)(pos:Pos) (k:Nat)(dc:DC):Prop :=
 ∀ (g:Gh)(E:En)(U:St)(H Hm:Hp)(F:Nat->VR)(ys:List V)(dys:VO)(P:VO->En->Prop)(Q:List V->St->Hp->Prop),Rl X.K g E U H Hm F->aA X.K Hm ys dys->dc xF dys E P ->
  (∀ E' dys' ys' σ' H' Hm' F',P dys' E'->Rl X.K g E' σ' H' Hm' F'->ah Hm Hm'->aA X.K Hm' ys' dys'->Agree cs U σ'->Q ys' (sel Y σ') H')->WL X D elt gens scope pos k ys (sel Y U) H Q
section
variable {X:Cx}{Ex:XK}{Y cs:VV}{D:Addr}{elt tg iter:Expr}{ifs:VT}{gens:VD}{scope:Scope}{pos:Pos}{k:Nat}
def Jz (h:SE X Ex Y elt d)(hk:gens[k]?=none):SL X Y cs D elt gens scope pos k (aT sizeLine d):=by
 intro g E U H Hm F ys dys P Q R r p q;refine WL.of (zQ bP hk) (h g xF E U H Hm F _ _ XL.no R p fun E1 k1 v u H1 Hm1 F1 fp p1 R1 s1 T=>?_)
 obtain ⟨hk,hl,p1⟩:=p1;obtain ⟨Hm2,s2,R2,r2⟩:=T.iI R1 hk;exact ⟨by rw [r.len];exact hl,q _ _ _ _ _ _ _ p1 R2 (s1.trans s2) ((r.mono (s1.trans s2)).snoc r2) (Agree.refl _ _)⟩
def r9 {xs:VO}{t:Tg}{c:DT}{r:DC}{G:TG}{tt:TT}{tr:TL}{I:Nat->VO->En->Prop}{U:St}{F1:Nat->VR}{Q:List V->St->Hp->Prop}
  (hts:∀ i∈t.slots,i∈cs)(it1:AK K J xs Hm1)(R1:Rl K g E1 U H1 Hm1 F1)(r0:aA K Hm1 ys dys)(i0:I 0 dys E1)
  (hG:∀ {d:PyData}{v:V}{E E2:En}{U:St}{H Hm:Hp}{F:Nat->VR}{Q:St->Hp->Prop},cG t d E=some E2->Rp K Hm v d->Rl K g E U H Hm F->(∀ σ' F',Rl K g E2 σ' H Hm F'->(∀ j,j∉t.slots->σ'[j]?=U[j]?)->Q (sel Y σ') H)->G v (sel Y U) H Q)
  (hT:∀ {E:En}{U:St}{H Hm:Hp}{F:Nat->VR}{P:Vc}{Q:Bool->Hp->Prop},Rl K g E U H Hm F->c xF E P->(∀ E' b H' Hm' F',P E' b->Rl K g E' U H' Hm' F'->ah Hm Hm'->Q b H')->tt (sel Y U) H Q)
  (hR:∀ {E:En}{U:St}{H Hm:Hp}{F:Nat->VR}{ys:List V}{dys:VO}{P:VO->En->Prop}{Q:List V->St->Hp->Prop},Rl K g E U H Hm F->aA K Hm ys dys->r xF dys E P->(∀ E' dys' ys' σ' H' Hm' F',P dys' E'->Rl K g E' σ' H' Hm' F'->ah Hm Hm'->aA K Hm' ys' dys'->Agree cs U σ'->Q ys' (sel Y σ') H')->tr ys (sel Y U) H Q)
  (step:∀ i d ys E,xs[i]?=some d->I i ys E->∃ E2,cG t d E=some E2/\c xF E2 fun E3 b=>if b=true then r xF ys E3 (I (i + 1)) else I (i + 1) ys E3)
  (fin:∀ E' dys' ys' σ' H' Hm' F',I xs.length dys' E'->Rl K g E' σ' H' Hm' F'->ah Hm1 Hm'->aA K Hm' ys' dys'->Agree cs U σ'->Q ys' (sel Y σ') H'):yq J G tt tr ys (sel Y U) H1 Q:=by
 refine ⟨fun i m ys τ H'=>m=xs.length - i/\i<=xs.length/\∃ E' dys' σ' Hm' F',I i dys' E'/\Rl K g E' σ' H' Hm' F'/\ah Hm1 Hm'/\aA K Hm' ys dys'/\Agree cs U σ'/\τ=sel Y σ',⟨xs.length,by simp,Qw _,E1,dys,U,Hm1,F1,i0,R1,ah.refl _,r0,Agree.refl _ _,rfl⟩,?_⟩
 rintro i m ys τ H2 ⟨rfl,hi,E2,dys2,σ2,Hm2,F2,i2,R2,s2,r2,a2,rfl⟩;obtain ⟨go,stop⟩:=it1 i H2 Hm2 s2 R2.sub
 by_cases c':i < xs.length
 ·obtain ⟨go,qL⟩:=go xs[i] (QV c');refine .inr ⟨go,fun ys τ H'=>i + 1<=xs.length/\∃ E' dys' σ' Hm' F',I (i + 1) dys' E'/\Rl K g E' σ' H' Hm' F'/\ah Hm1 Hm'/\aA K Hm' ys dys'/\Agree cs U σ'/\τ=sel Y σ',fun ys τ H' z=>⟨xs.length - (i + 1),by lia,rfl,z⟩,fun x H3 y=>?_⟩
  obtain ⟨Hm3,t1,t2,t3,old,rx⟩:=qL x H3 y;have R3:=R2.turn t1 t2 t3 old;obtain ⟨E4,e4,p4⟩:=step i xs[i] dys2 E2 (QV c') i2;refine hG e4 rx R3 fun σ4 F4 R4 ag=>?_
  have a4:Agree cs U σ4:=a2.trans ⟨by rw [<- R3.len,<- R4.len];exact (show E2.length=E4.length from R3.len.trans (by
   have h1:=R3.len;have h2:=R4.len;have:E4.length=E2.length:=by
    have go:∀ {is:VV}{ds:VO}{E E':En},bQ is ds E=some E'->E'.length=E.length:=by
     intro is
     induction is with
     | nil=>intro ds E E' h;cases ds with | nil=>cases h;rfl | cons _ _=>cases h
     | cons j is ih =>
      intro ds E E' h;cases ds with
      | nil=>cases h
      | cons d ds =>
       rw [bQ] at h
       by_cases o:bL E j=true
       ·rw [if_pos o] at h;rw [ih h,RJ]
       ·rw [if_neg o] at h;cases h
    cases t with
    | nm j=>exact go (is:=[j]) e4
    | tp js =>
     cases hd:xs[i] with
     | tuple ds=>rw [hd] at e4;exact go (is:=js) e4
     | _=>rw [hd] at e4;cases e4
   lia)),fun j hj=>ag j fun z=>hj (hts j z)⟩
  refine hT R4 p4 fun E5 b H5 Hm5 F5 p5 R5 s5=>?_
  cases b with
  | true =>
   refine oY (hR R5 (r2.mono (t1.trans s5)) (by simpa using p5) fun E6 dys6 ys6 σ6 H6 Hm6 F6 p6 R6 s6 r6 a6=>?_)
   exact ⟨c',E6,dys6,σ6,Hm6,F6,p6,R6,s2.trans (t1.trans (s5.trans s6)),r6,a4.trans a6,rfl⟩
  | false=>exact pQ ⟨c',E5,dys2,σ4,Hm5,F5,by simpa using p5,R5,s2.trans (t1.trans s5),r2.mono (t1.trans s5),a4,rfl⟩
 ·have e:i=xs.length:=by lia
  subst e;exact .inl ⟨stop (Q6 _),fin _ _ _ _ _ _ _ i2 R2 s2 r2 a2⟩
def Mf (hc:X.calm=true)(hN:X.N.Nodup)(nd:Y.Nodup)(hi:SI X Ex Y tg iter di)(ht:eK X Y tg t)(hts:∀ i∈t.slots,i∈cs)(hif:gM X Ex Y ifs c)(hr:SL X Y cs D elt gens scope pos (k + 1) r)
  (hk:gens[k]?=some ⟨tg,iter,ifs,0⟩)(ha:∀ g∈gens,g.is_async=0)(hs:∀ v,foldedSetIterable iter X.env v=pure v):SL X Y cs D elt gens scope pos k (AL di t c r):=by
 intro g E U H Hm F ys dys P Q R rr p q;obtain ⟨wi,hpi,hw⟩:=hi;obtain ⟨G,g1,g2⟩:=pZ hc hN nd ht;refine WL.of (M8 (tt:=tL X ifs) hc hpi g1 (fun pins s U H Q I h=>h pins s I) N8 hk ha hs) (hw g xF E U H Hm F _ _ XL.no R p fun E1 xs J H1 Hm1 F1 p1 R1 s1 it1=>?_)
 obtain ⟨I,i0,step,fin⟩:=p1;exact r9 (cs:=cs) (t:=t) (c:=c) (r:=r) hts it1 R1 (rr.mono s1) i0 (fun h1 h2 h3 h4=>g2 h1 h2 h3 h4) (fun h1 h2 h3=>hif.ok XL.no h1 h2 h3) (fun h1 h2 h3 h4=>hr g _ _ _ _ _ _ _ _ _ h1 h2 h3 h4) step fun E' dys' ys' σ' H' Hm' F' i R' s' r' a'=>q _ _ _ _ _ _ _ (fin _ _ i) R' (s1.trans s') r' a'
def Fx:caps ix (sel Y U)=ix.map fun i=>(((Y[i]?).map fun m=>(U[m]?).join)).join:=by
 unfold caps sel;refine Rj fun i _=>?_
 rw [QN]
def bw (Y cs ix:VV):VV:=cs++ix.map fun i=>(Y[i]?).getD 0
def t8 (hix:∀ i∈ix,i < Y.length)(aV:∀ c∈cs,c∉Y)(a:Agree cs U σ0)(n:∀ c∈cs,σ0[c]?=some none):List.replicate cs.length none++caps ix (sel Y U)=sel (bw Y cs ix) σ0:=by
 unfold bw;rw [Fx];unfold sel;rw [QY,Qt];congr 1
 ·refine (List.eq_replicate_iff.mpr ⟨Q8 ..,fun x hx=>?_⟩).symm
  obtain ⟨c,hc,rfl⟩:=QB.mp hx;rw [n c hc];rfl
 ·refine Rj fun i hi=>?_
  have l:=hix i hi;show ((Y[i]?).map fun m=>(U[m]?).join).join=(σ0[(Y[i]?).getD 0]?).join
  rw [QV l];show (U[Y[i]]?).join=(σ0[Y[i]]?).join;rw [a.2 Y[i] fun z=>aV _ z (Rn l)]
def zT {rest:VD}{vs NB:VX}{ix:VV}{di:DI}{t:Tg}{c:DT}{r:DC}(B:cC X scope vs NB ix)(hc:X.calm=true)(hcs:cs.length=vs.length)(hix:∀ i∈ix,i < Y.length)(aV:∀ c∈cs,c∉Y)(nd:(bw Y cs ix).Nodup)
  (hi:SI X Ex Y tg iter di)(ht:∀ (C:Addr)(s:Shared)(H:Hp)(fp:VR),eK (X.block scope C NB s H fp) (bw Y cs ix) tg t)(hts:∀ i∈t.slots,i∈cs)(hif:∀ (C:Addr)(s:Shared)(H:Hp)(fp:VR),gM (X.block scope C NB s H fp) E0 (bw Y cs ix) ifs c)
  (hr:∀ (C:Addr)(s:Shared)(H:Hp)(fp:VR)(D:Addr),SL (X.block scope C NB s H fp) (bw Y cs ix) cs D elt (⟨tg,iter,ifs,0⟩:: rest) scope pos 1 r)
  (ha:∀ g∈rest,g.is_async=0)(hs:∀ v,foldedSetIterable iter X.env v=pure v){w:(V->Hp->Prop)->St->Hp->Prop}
  (hw:∀ {wi:TI}{G:TG}{tt:TT}{tr:TL}{U:St}{H:Hp}{Q:VK},PI X tg iter wi->(∀ (C:Addr)(s:Shared)(H:Hp)(fp:VR),PG (X.block scope C NB s H fp) tg G)->(∀ (C:Addr)(s:Shared)(H:Hp)(fp:VR),nQ (X.block scope C NB s H fp) ifs tt) ->
   (∀ (C:Addr)(s:Shared)(H:Hp)(fp:VR)(D:Addr),PL (X.block scope C NB s H fp) D elt (⟨tg,iter,ifs,0⟩:: rest) scope pos 1 tr)->mJ wi vs.length ix G tt tr U H Q->w Q U H)
  (g:Gh)(x:XC)(E:En)(U:St)(H Hm:Hp)(F:Nat->VR)(P:VY)(Q:VK)(hx:XL X Ex x g)(R:Rl X.K g E U H Hm F)(p:aO cs di t c r x E P)
  (q:∀ E' k v u H' Hm' F' fp,P E' k v->Rl X.K g E' U H' Hm' F'->ah Hm Hm'->Tm X.K g F' H' Hm' k u v fp->Q u H'):w Q (sel Y U) H:=by
 obtain ⟨wi,hpi,hwi⟩:=hi;refine hw (wi:=wi) (G:=fun v U H Q=>∀ (C:Addr)(s:Shared)(H2:Hp)(fp:VR),WG (X.block scope C NB s H2 fp) tg v U H Q) (tt:=fun U H Q=>∀ (C:Addr)(s:Shared)(H2:Hp)(fp:VR),tL (X.block scope C NB s H2 fp) ifs U H Q)
  (tr:=fun ys U H Q=>∀ (C:Addr)(s:Shared)(H2:Hp)(fp:VR)(D:Addr),WL (X.block scope C NB s H2 fp) D elt (⟨tg,iter,ifs,0⟩:: rest) scope pos 1 ys U H Q) hpi (fun C s H2 fp pins s' U H v u Q I r h=>h C s H2 fp pins s' u I r) (fun C s H2 fp pins s' U H Q I h=>h C s H2 fp pins s' I)
  (fun C s H2 fp D h1 h2 h3 pins s' U H ys its nn Q fin Qf E hp I rv hz h hf=>h C s H2 fp D h1 h2 h3 pins s' its nn fin Qf E hp I rv hz hf) ?_
 refine hwi g x E U H Hm F _ _ hx R p fun E1 xs J H1 Hm1 F1 p1 R1 s1 it1=>?_
 obtain ⟨E0',I,hcl,i0,step,fin⟩:=p1;obtain ⟨σ0,F0,R0,a0,n0⟩:=R1.bf hcl;rw [<- hcs,t8 hix aV a0 fun c hc=>(n0 c hc).1]
 refine r9 (cs:=cs) (t:=t) (c:=c) (r:=r) hts it1 R0 .nil i0 (fun h1 h2 h3 h4 C s H2 fp=>?_) (fun h1 h2 h3 C s H2 fp=>(hif C s H2 fp).ok XL.no h1 h2 h3) (fun h1 h2 h3 h4 C s H2 fp D=>hr C s H2 fp D g _ _ _ _ _ _ _ _ _ h1 h2 h3 h4) step fun E' dys' ys' σ' H' Hm' F' i R' s' r' a' p hp=>?_
 ·obtain ⟨G,g1,g2⟩:=pZ (X:=X.block scope C NB s H2 fp) hc B.nd nd (ht C s H2 fp);exact WG.of g1 (g2 h1 h2 h3 h4)
 ·obtain ⟨E2,hcl2,p2⟩:=fin _ _ i;obtain ⟨σ2,F2,R2,a2,n2⟩:=R'.bf hcl2;have R3:=R2.agree (cs:=cs) ((a0.trans a').trans a2).symm fun c hc=>(n2 c hc).2
  have s2:=cg (o:=.lst ys') hp;have R4:=R3.grow (H':=upd H' p (.lst ys')) s2 (ah.refl _) (R3.sub.trans s2) (fun i a ha=>R3.off i a ha) fun _ _=>.inl rfl
  refine q _ _ _ _ _ Hm' F2 [p] p2 R4 (s1.trans s') ⟨.ow aL r',fun a ha=>?_,fun a ha i=>?_,fun a ha=>?_⟩
  ·rw [QF.mp ha];exact R3.tR hp
  ·rw [QF.mp ha];exact R3.fresh hp
  ·rw [QF.mp ha];exact R3.fX hp
end
end Dv
namespace L2
open PySem PySem.Spec PyProof.Rows
structure dB (X:Cx)(scope:Scope) (x:Str)(vs NB:VX)(ix:VV):Prop where
 kind:scope.kind=.function
 cell:∀ y∈scope.names,y.2=.cell->y.1=x
 names:∀ y∈scope.names,y.2=.local->scope.names.lookup y.1=some .local
 free:∀ y,(y,NameKind.free)∈scope.names->(X.env.kindOf y=some .cell\/X.env.kindOf y=some .free)
 wJ:(x,NameKind.free)∉scope.names
 var:scope.names.lookup x=some .cell
 nb:NB=vs++ix.map fun i=>X.N.getD i ""
 nd:NB.Nodup
 cap:∀ i∈ix,∃ y,X.N[i]?=some y/\scope.names.lookup y=some .free
 cf:∀ (n:Nat)(acc:List (Str×Addr)),cellsFrom n scope.names acc=(x,n)::acc
 pc:∀ h:Heap,pushCells h scope.names=h.push qu
section
variable {M:Model}{A:Around}{E:VC}{s:Shared}{X:Cx}{scope:Scope}{x:Str}{vs NB:VX}{ix:VV}
def O6 {g:Addr}(B:dB X scope x vs NB ix)
  (q:Q { scope:=scope,locals:=s.heap.objs.size,globals:=g,cells:=(x,s.heap.objs.size + 1)::cl,qual:=ql,func:=none,code:=env.code,frame:=env.frame,builtins:=env.builtins } { s with heap:=(s.heap.push { cls:=.type "dict",data:=.dict #[] }).push qu }) :
  wpAny M A (newFunctionEnv scope g cl [] ql none .none (some env)) Q E s:=by
 simp only [newFunctionEnv,Option.isSome_some,if_true];refine Q0 (wpAny_alloc (?_:_))
 refine Q0 (wpAny_layCells _ (fun name kind cells=>by cases hkc:kind == NameKind.cell <;> simp [hkc]) _ _ _ _ (?_:_))
 rw [B.cf,B.pc];rw [show ({ s with heap:=s.heap.push { cls:=.type "dict",data:=.dict #[] } }:Shared).heap.objs.size=s.heap.objs.size + 1 from Sj ..]
 rw [List.forIn_nil];exact Q0 (Q5 (Q5 q))
end
section
variable {X:Cx}{scope:Scope}{x:Str}{vs NB:VX}{ix:VV}{pins:VF}{U:St}{H2:Hp}{s2:Shared}{fp:VR}
def dB.clos (B:dB X scope x vs NB ix)(I2:Inv X pins U H2 s2):closureFor scope X.env=pure (bU X.env.cells scope.names []) :=
 lJ fun n hn=>I2.ok.has n (B.free n hn)
def dB.look (B:dB X scope x vs NB ix)(I2:Inv X pins U H2 s2){c c':Addr}(h:((x,c)::bU X.env.cells scope.names []).lookup y=some c'):(y=x/\c'=c)\/X.env.cells.lookup y=some c':=by
 rw [RH] at h;cases q:(y == x) with
 | true =>
  rw [q] at h;exact .inl ⟨by simpa using q,(Option.some.inj h).symm⟩
 | false =>
  rw [q] at h;rcases l6 _ _ h with ⟨m,e⟩ | e
  ·obtain ⟨c2,hc⟩:=I2.ok.has y (B.free y m);rw [hc] at e ⊢;exact .inr (congrArg some e)
  ·cases e
def dB.apart (B:dB X scope x vs NB ix)(I2:Inv X pins U H2 s2){c c' b:Addr}(hc:s2.heap.objs.size<=c)(h:((x,c)::bU X.env.cells scope.names []).lookup y=some c')(hb:b < s2.heap.objs.size)(nb:∀ z d,X.env.cells.lookup z=some d->d≠b):c'≠b:=by
 rcases B.look I2 h with ⟨_,rfl⟩ | e
 ·exact S4 (QT hb hc)
 ·exact nb y c' e
def C0 (B:dB X scope x vs NB ix)(I2:Inv X pins U H2 s2){C c:Addr}(hC:s2.heap.objs.size<=C)(hc:s2.heap.objs.size<=c)(f2:∀ b∈fp,dN X pins H2 b)(ft:∀ b∈fp,b < s2.heap.objs.size):(X.aS scope x C c NB s2 H2 fp).Ok where
 mod:=I2.ok.mod
 kind:=B.kind
 glob:=I2.ok.glob
 blt:=I2.ok.blt
 above:=hC
 inj:=fun a b d h1 h2=>by
  rcases B.look I2 h1 with ⟨e1,e2⟩ | e1 <;> rcases B.look I2 h2 with ⟨e3,e4⟩ | e3
  ·rw [e1,e3]
  ·exact absurd (QT (rO I2 e3) (e2 ▸ hc)) (R9 _)
  ·exact absurd (QT (rO I2 e1) (e4 ▸ hc)) (R9 _)
  ·exact I2.ok.inj a b d e1 e3
 has:=fun y hy=>by
  show ∃ d,((x,c)::bU X.env.cells scope.names []).lookup y=some d;rw [RH];cases q:(y == x) with
  | true=>exact ⟨c,rfl⟩
  | false =>
   have nx:y≠x:=fun z=>by rw [z,UJ] at q;cases q
   have key:∀ k,(relabel scope X.env).names.lookup y=some k->(k=.cell\/k=.free)->∃ d,(bU X.env.cells scope.names []).lookup y=some d:=fun k hk kk=>by
    rcases qX (names:=scope.names) hk with e | ⟨e,_⟩
    ·rcases kk with rfl | rfl
     ·exact absurd (B.cell _ (cY e) rfl) nx
     ·exact fD _ _ (.inl (cY e))
    ·exact fD _ _ (.inl (cY e))
   rcases hy with e | e
   ·exact key _ e (.inl rfl)
   ·exact key _ e (.inr rfl)
 vj:=fun y d z e=>by
  rcases B.look I2 e with ⟨_,rfl⟩ | e
  ·exact hc
  ·have z:(y == x)=true:=z;have yx:y=x:=by simpa using z
   have h:((x,c)::bU X.env.cells scope.names []).lookup y=some d:=‹_›;rw [RH,z] at h;cases h;exact hc
 hd:=I2.ok.hd
 frames:=I2.ok.frames
 stk:=.inl rfl
 Dw:=fun b hb=>⟨QG (QT (ft b hb) hC),fun y d e=>B.apart I2 hc e (ft b hb) (f2 b hb).2.2.2.2.1⟩
 bs:=I2.bs
 oO:=QW I2.ok.oO I2.sz
 nH:=fun b o e hb=>by
  rcases (f2 b hb).2.2.2.1 with z | z
  ·exact I2.ok.nH b o e z
  ·exact absurd (QT (QD (I2.ok.bs b o e).1) z) (R9 _)
 rG:=fun b hb z=>by
  rcases Q9.mp (I2.ja b z) with e | e
  ·exact (f2 b hb).2.1 e
  ·exact (f2 b hb).2.2.1 e
 iS:=I2.stack
 sC:=I2.mG
def BO (B:dB X scope x vs NB ix)(I2:Inv X pins U H2 s2){C c D:Addr}{tk:Nat}(hC:s2.heap.objs.size<=C)(hD:s2.heap.objs.size<=D)(hDC:D≠C)(hc:s2.heap.objs.size<=c)(hcc:h1.IsCell c none)(f2:∀ b∈fp,dN X pins H2 b)(ft:∀ b∈fp,b < s2.heap.objs.size)
  (old:∀ b o,s2.heap.get? b=some o->h1.get? b=some o)(hn:h1.Ns C m)(ho:h1.get? D=some oD)(hcl:∀ v,oD.data≠.cell v) :
  Inv (X.aS scope x C c NB s2 H2 fp) [(D,oD)] (List.replicate vs.length none++caps ix U) H2 { s2 with heap:=h1,toks:=tk } where
 ok:=C0 B I2 hC hc f2 ft
 os:=rfl
 bare:=I2.bare
 base:=Un.kept old
 loc:=by
  refine ⟨m,hn,fun i y v e1 e2 _=>?_⟩
  have e1:NB[i]?=some y:=e1
  by_cases li:i < vs.length
  ·rw [SW (by rw [Rh];exact li),Ui,if_pos li] at e2
   cases e2
  ·obtain ⟨j,rfl⟩:∃ j,i=vs.length + j:=⟨i - vs.length,by lia⟩
   have e2:(caps ix U)[j]?=some (some v):=by
    rw [S5 (by rw [Rh];lia),Rh,Tw] at e2
    exact e2
   rw [B.nb] at e1;have e1:(ix.map fun i=>X.N.getD i "")[j]?=some y:=by
    rw [S5 (by lia),Tw] at e1
    exact e1
   rw [QN] at e1;unfold caps at e2;rw [QN] at e2;cases q:ix[j]? with
   | none=>rw [q] at e1;cases e1
   | some i =>
    rw [q] at e1 e2;obtain ⟨z,hz,fz⟩:=B.cap i (QX q);have ey:y=z:=by
     have w:X.N.getD i ""=y:=Option.some.inj e1;rw [<- w,RD,hz];rfl
    subst ey;have e2:(U[i]?).join=some v:=Option.some.inj e2;have es:U[i]?=some (some v):=by
     cases w:U[i]? with
     | none=>rw [w] at e2;cases e2
     | some o=>rw [w] at e2;exact congrArg some e2
    have fk:=B.free y (cY fz);have vis:mX X.env.scope y:=.inr fk;obtain ⟨mm,_,hl⟩:=I2.loc;obtain ⟨u,ru,lk⟩:=hl i y v hz es vis;refine ⟨u,ru,.inr ⟨?_,?_⟩⟩
    ·rcases nA (env:=X.env) (names:=scope.names) fz with e | ⟨_,e⟩
     ·exact .inr e
     ·exact .inl e
    ·rcases lk with ⟨lk,_⟩ | ⟨_,d,hd,hcell⟩
     ·rcases fk with fk | fk
      ·rw [lk] at fk;cases fk
      ·rw [lk] at fk;cases fk
     ·obtain ⟨c',hc'⟩:=fD (cells:=X.env.cells) scope.names [] (.inl (cY fz));have nx:(y == x)=false:=by
       cases q:(y == x) with
       | false=>rfl
       | true =>
        have e:y=x:=by simpa using q
        exact absurd (e ▸ cY fz) B.wJ
      have hc2:((x,c)::bU X.env.cells scope.names []).lookup y=some c':=by
       rw [RH,nx];exact hc'
      have e3:X.env.cells.lookup y=some c':=by
       rcases B.look I2 hc2 with ⟨e,_⟩ | e
       ·rw [e,UJ] at nx;cases nx
       ·exact e
      rw [hd] at e3;cases e3;obtain ⟨oc,g1,g2⟩:=hcell;exact ⟨d,hc2,oc,old _ _ g1,g2⟩
 cell:=fun y d e=>by
  rcases B.look I2 e with ⟨_,rfl⟩ | e
  ·exact ⟨none,hcc⟩
  ·obtain ⟨v,o,g1,g2⟩:=I2.cell y d e;exact ⟨v,o,old _ _ g1,g2⟩
 free:=I2.hok.fresh hC
 d9:=fun y d e=>by
  rcases B.look I2 e with ⟨_,rfl⟩ | e
  ·exact I2.hok.fresh hc
  ·exact I2.d9 y d e
 pin:=fun p hp=>by
  have e:p=(D,oD):=by simpa [Cx.aS] using hp
  subst e;refine ⟨ho,I2.hok.fresh hD,hDC,fun z=>?_,hcl⟩
  rcases Q9.mp (I2.ja D z) with e | e
  ·have e:D=X.env.locals:=e;exact absurd (QT I2.lt (e ▸ hD)) (R9 _)
  ·exact I2.Gg hD e
 hok:=I2.hok.kept old
 len:=by
  show (List.replicate vs.length none++caps ix U).length=NB.length;rw [B.nb,QE,QE,xD,Q8,Rh]
end
section
variable {X:Cx}{scope:Scope}{x:Str}{vs:VX}{NB:VX}{ix:VV}
def Ci {elt tg iter:Expr}{ifs:VT}{rest:VD}{pos:Pos}{g:TG}{tt:TT}{tr:TL}{J:It}{it:Addr}{tn:Nat->Heap->Prop}{fp:VR}{pins:VF}{U:St}{H2:Hp}{s2:Shared}{E:VC}{RR:Value->Addr->Result->Shared->Prop}{Qr:VK}(B:dB X scope x vs NB ix)(hc:X.calm=true)
  (hg:∀ (C c:Addr)(s:Shared)(H:Hp)(fp:VR),PG (X.aS scope x C c NB s H fp) tg g)(ht:∀ (C c:Addr)(s:Shared)(H:Hp)(fp:VR),nQ (X.aS scope x C c NB s H fp) ifs tt)
  (hr:∀ (C c:Addr)(s:Shared)(H:Hp)(fp:VR)(D:Addr),PL (X.aS scope x C c NB s H fp) D elt (⟨tg,iter,ifs,0⟩:: rest) scope pos 1 tr)
  (ha:∀ g∈rest,g.is_async=0)(I2:Inv X pins U H2 s2)(T:Turn X.prog X.w X.K tg J fp it tn)(st2:tn 0 s2.heap)(f2:∀ b∈fp,dN X pins H2 b)(h:yq J g tt tr [] (List.replicate vs.length none++caps ix U) H2 fun ys _ H'=>∀ p,H' p=none->Qr (.ref p) (upd H' p (.lst ys)))
  (hRR:∀ (D C:Addr)(Hf:Hp)(s':Shared)(m':VE),Inv X pins U Hf s'->s'.heap.Ns C m'->dN X pins Hf C->Qr (.ref D) Hf->RR (.ref D) C (.ok .next) s') :
  wpAny (model X.prog X.w) X.A (newList []) (fun acc s3=>wpAny (model X.prog X.w) X.A (newFunctionEnv scope X.env.globals (bU X.env.cells scope.names []) [] X.env.qual none .none (some X.env)) (fun cenv s4 =>
   codeAny (model X.prog X.w) X.A (.compStart (.ListComp elt (⟨tg,iter,ifs,0⟩:: rest) scope pos) 0 (.ref it) acc { cenv with scope:=relabel scope X.env }) (RR acc cenv.locals) s4) E s3) E s2:=by
 obtain ⟨W,⟨m0,w0⟩,turn⟩:=h;have ha':∀ g∈(⟨tg,iter,ifs,0⟩:Comprehension)::rest,g.is_async=0:=fun g hg=>by
  rcases Q9.mp hg with rfl | hg
  ·rfl
  ·exact ha g hg
 refine Rr (O6 B ?_);dsimp only;generalize eG:s2.heap.push { cls:=.type "list",dict:=none,data:=.seq ([]:VQ).toArray }=G;obtain ⟨h1,eh1⟩:∃ h1,h1=(G.push { cls:=.type "dict",data:=.dict #[] }).push { cls:=.type "cell",data:=.cell none }:=⟨_,rfl⟩;rw [<- eh1];have hC:G.objs.size=s2.heap.objs.size + 1:=by rw [<- eG,Sj]
 have hDC:s2.heap.objs.size≠G.objs.size:=by rw [hC];exact QG (Si _)
 have hCle:s2.heap.objs.size<=G.objs.size:=by rw [hC];exact Sx _
 have up:∀ b o,G.get? b=some o->h1.get? b=some o:=fun b o e=>by
  rw [eh1];exact QL _ (QL _ e)
 have old:∀ b o,s2.heap.get? b=some o->h1.get? b=some o:=fun b o e=>up b o (eG ▸ QL _ e)
 have hacc:h1.get? s2.heap.objs.size=some (dG [] 0):=up _ _ (eG ▸ R7 _ rfl);have hns:h1.Ns G.objs.size (fun _=>none):=by
  rw [eh1];exact (Heap.Ns.new G (.type "dict")).keeps fun b o e=>QL _ e
 have hcc:h1.IsCell (G.objs.size + 1) none:=by
  rw [eh1];refine ⟨qu,?_,rfl⟩;have e:=R7 (G.push { cls:=.type "dict",data:=.dict #[] }) (o:=qu) rfl;rw [Sj] at e;exact e
 have hcle:s2.heap.objs.size<=G.objs.size + 1:=Nat.le_succ_of_le hCle;have ft:∀ b∈fp,b < s2.heap.objs.size:=fun b hb=>by
  obtain ⟨o,e,_⟩:=T.obj _ _ st2 b hb;exact QD e
 have cD:∀ y c,(X.aS scope x G.objs.size (G.objs.size + 1) NB s2 H2 fp).env.cells.lookup y=some c->c≠s2.heap.objs.size:=fun y c e z=>by
  rcases B.look I2 e with ⟨_,e4⟩ | e4
  ·rw [e4,hC] at z;exact absurd z (S4 (S9 (Si _)))
  ·exact R9 _ (z ▸ rO I2 e4)
 have loop:∀ s3:Shared,s3={ s2 with heap:=h1 } ->
   codeAny (model X.prog X.w) X.A (.compLoop (.ListComp elt (⟨tg,iter,ifs,0⟩:: rest) scope pos) 0 (.ref it) (.ref s2.heap.objs.size) (compEnvC scope ((x,G.objs.size + 1)::bU X.env.cells scope.names []) G.objs.size X.env))
    (RR (.ref s2.heap.objs.size) G.objs.size) s3:=by
  rintro s3 rfl;have I3:=BO (tk:=s2.toks) B I2 hCle (Q6 _) hDC hcle hcc f2 ft old hns hacc (fun v q=>by cases q)
  have st3:tn 0 h1:=T.keep _ _ _ st2 fun b _ o e=>old b o e
  have fy:∀ {H':Hp}{oD:Obj},(∀ b∈fp,H' b=none)->∀ b∈fp,dN (X.aS scope x G.objs.size (G.objs.size + 1) NB s2 H2 fp) [(s2.heap.objs.size,oD)] H' b:=fun {H' oD} hn b hb=>by
   refine ⟨hn b hb,QG (QT (ft b hb) hCle),fun z=>?_,.inl hb,fun y c e=>B.apart I2 hcle e (ft b hb) (f2 b hb).2.2.2.2.1,fun p hp=>?_⟩
   ·rcases Q9.mp (I2.ja b z) with e | e
    ·exact (f2 b hb).2.1 e
    ·exact (f2 b hb).2.2.1 e
   ·have e:p=(s2.heap.objs.size,oD):=by simpa [Cx.aS] using hp
    subst e;exact Ne.symm (QG (ft b hb))
  refine nF (k:=0) rfl ha' (fun n s'=>∃ i ys its nn σ' H',W i n ys σ' H'/\Inv (X.aS scope x G.objs.size (G.objs.size + 1) NB s2 H2 fp) [(s2.heap.objs.size,dG its nn)] σ' H' s'/\tn i s'.heap/\(∀ b∈fp,H' b=none)/\Vals ys its/\ys.length<=sizeLine)
   ?_ m0 ⟨0,[],[],0,_,H2,w0,I3,st3,fun b hb=>(f2 b hb).1,.nil,Qw _⟩
  rintro n s' ⟨i,ys,its,nn,σ',H',w',I',st',fr',rv,hz⟩;rcases turn i n ys σ' H' w' with ⟨stop,q⟩ | ⟨go,Nx,hNx,step⟩
  ·refine Qq (T.done (X.aS scope x G.objs.size (G.objs.size + 1) NB s2 H2 fp) rfl rfl rfl hc i _ s' _ H' (fun _ _=>False) I' (fy fr') st' stop) (fun r s4 ⟨hr',I4⟩=>?_) fun _ _ z=>z.elim
   subst hr';have I5:=A7 I2 f2 (Q6 _) I4 rv hz;obtain ⟨m4,hn4,_⟩:=I4.loc;have hfree:H' s2.heap.objs.size=none:=(I4.pin (s2.heap.objs.size,dG its nn) (by show _∈[]++[(s2.heap.objs.size,dG its nn)];simp)).2.1
   have fC:dN X pins (upd H' s2.heap.objs.size (.lst ys)) G.objs.size:=I2.uV hCle (by
    rw [au (Ne.symm hDC)];exact I4.free)
   exact hRR _ _ _ s4 m4 I5 hn4 fC (q _ hfree)
  ·refine Qq (T.item (X.aS scope x G.objs.size (G.objs.size + 1) NB s2 H2 fp) rfl rfl rfl hc i _ s' _ H' (fun _ _=>False) I' (fy fr') st' go) (fun r s4 ⟨u,hr',h4⟩=>?_) fun _ _ z=>z.elim
   subst hr';refine Qq h4 (fun _ s4 ⟨v,H5,I5,r5,y5,st5,fr5⟩=>?_) fun _ _ z=>z.elim
   have pIt:∀ b∈fp,∃ o,s4.heap.get? b=some o/\∀ v,o.data≠.cell v:=T.obj _ _ st5;have I5':=I5.pinned (fy fr5) pIt;refine Qq (hg _ _ _ _ _ _ s4 σ' H5 v u _ I5' r5 (step v H5 y5)) (fun _ s6 ⟨σ6,H6,I6,q6⟩=>?_) fun _ _ z=>z.elim
   refine Qq (ht _ _ _ _ _ _ s6 σ6 H6 _ I6 q6) (fun b s7 ⟨H7,I7,q7⟩=>?_) fun _ _ z=>z.elim
   have stays:∀ {s9:Shared}{H9:Hp}{σ9:St}{oD:Obj},Inv (X.aS scope x G.objs.size (G.objs.size + 1) NB s2 H2 fp) ((s2.heap.objs.size,oD)::fG fp s4.heap) σ9 H9 s9->tn (i + 1) s9.heap/\(∀ b∈fp,H9 b=none)/\Inv (X.aS scope x G.objs.size (G.objs.size + 1) NB s2 H2 fp) [(s2.heap.objs.size,oD)] σ9 H9 s9:=fun {s9 H9 σ9 oD} I9=>by
    refine ⟨T.keep _ _ _ st5 fun b hb o e=>(I9.pin (b,o) (Qx _ (Q7 _ (d8 hb e)))).1,fun b hb=>?_,I9.jC fun p hp'=>I9.pin p (Qx _ ?_)⟩
    ·obtain ⟨o,e,d⟩:=pIt b hb;exact (I9.pin (b,o) (Qx _ (Q7 _ (d8 hb e)))).2.1
    ·rw [QF.mp hp'];exact Q2
   cases b with
   | false =>
    rw [if_neg Qu] at q7 ⊢;obtain ⟨m',hm,w7⟩:=hNx _ _ _ q7;obtain ⟨g1,g2,g3⟩:=stays I7;exact ⟨m',hm,i + 1,ys,its,nn,σ6,H7,w7,g3,g1,g2,rv,hz⟩
   | true =>
    rw [if_pos rfl] at q7 ⊢;intro fin' Qf' hf';refine hr _ _ _ _ _ s2.heap.objs.size (Q6 _) cD (fun _ _ z=>z) (fG fp s4.heap) s7 σ6 H7 ys its nn Nx fin' Qf' _ (fun p hp'=>?_) I7 rv hz q7 fun s8 ys8 its8 nn8 σ8 H8 I8 rv8 hz8 n8=>?_
    ·have hp'':p∈fG fp s4.heap:=hp';exact QG (ft _ (lA hp'').1)
    ·obtain ⟨m',hm,w8⟩:=hNx _ _ _ n8;obtain ⟨g1,g2,g3⟩:=stays I8;exact hf' s8 ⟨m',hm,i + 1,ys8,its8,nn8,σ8,H8,w8,g3,g1,g2,rv8,hz8⟩
 exact codeAny_compStart_list (loop _ rfl) (T.self _ 0 _ _ _ (T.keep _ _ _ st2 fun b _ o e=>old b o e) (loop _ rfl))
def Gf {elt tg iter:Expr}{ifs:VT}{rest:VD}{pos:Pos}{wi:TI}{g:TG}{tt:TT}{tr:TL}(B:dB X scope x vs NB ix)(hc:X.calm=true)(hi:PI X tg iter wi)
  (hg:∀ (C c:Addr)(s:Shared)(H:Hp)(fp:VR),PG (X.aS scope x C c NB s H fp) tg g)(ht:∀ (C c:Addr)(s:Shared)(H:Hp)(fp:VR),nQ (X.aS scope x C c NB s H fp) ifs tt)
  (hr:∀ (C c:Addr)(s:Shared)(H:Hp)(fp:VR)(D:Addr),PL (X.aS scope x C c NB s H fp) D elt (⟨tg,iter,ifs,0⟩:: rest) scope pos 1 tr)
  (ha:∀ g∈rest,g.is_async=0:=by decide)(hs:∀ v,foldedSetIterable iter X.env v=pure v:=by intro _;rfl):PE X (.ListComp elt (⟨tg,iter,ifs,0⟩:: rest) scope pos) (mJ wi vs.length ix g tt tr):=by
 intro pins s U H Q I h;rw [eval_ListComp];refine Uz (use:=none) rfl hs (B.clos I) B.kind B.names (aR (hi pins s U H _ I h) fun v s1 h1=>aR h1 fun itv s2 h2=>?_)
 obtain ⟨it,fp,tn,J,H2,e,I2,T,st2,f2,w⟩:=h2;subst e;refine Ci (Qr:=Q) (RR:=fun acc C=>compPost (model X.prog X.w) X.A X.xe none (EP X pins U Q) acc C) B hc hg ht hr ha I2 T st2 f2 w fun D C Hf s' m' I' hn' fC q=>?_
 refine ⟨m',hn',fun h'' hs''=>⟨.ref D,Hf,?_,rfl,q⟩⟩
 obtain ⟨c0,c1,c2,c3,c4,c5⟩:=fC;exact I'.turned (it:=C) (t':=s'.toks) (fun b o hb e=>hs''.extBut b o hb e) c0 c1 c3 c4 c5
end
end L2
namespace Dv
open PySem L2 PySem.W
section
variable {X:Cx}{Ex:XK}{Y cs:VV}{elt tg iter:Expr}{ifs:VT}{scope:Scope}{pos:Pos}
def Gb {cx:Str}{rest:VD}{vs NB:VX}{ix:VV}{di:DI}{t:Tg}{c:DT}{r:DC}(B:dB X scope cx vs NB ix)(hc:X.calm=true)(hcs:cs.length=vs.length)(hix:∀ i∈ix,i < Y.length)(aV:∀ c∈cs,c∉Y)(nd:(bw Y cs ix).Nodup)
  (hi:SI X Ex Y tg iter di)(ht:∀ (C c':Addr)(s:Shared)(H:Hp)(fp:VR),eK (X.aS scope cx C c' NB s H fp) (bw Y cs ix) tg t)(hts:∀ i∈t.slots,i∈cs)(hif:∀ (C c':Addr)(s:Shared)(H:Hp)(fp:VR),gM (X.aS scope cx C c' NB s H fp) E0 (bw Y cs ix) ifs c)
  (hr:∀ (C c':Addr)(s:Shared)(H:Hp)(fp:VR)(D:Addr),SL (X.aS scope cx C c' NB s H fp) (bw Y cs ix) cs D elt (⟨tg,iter,ifs,0⟩:: rest) scope pos 1 r)
  (ha:∀ g∈rest,g.is_async=0)(hs:∀ v,foldedSetIterable iter X.env v=pure v){w:(V->Hp->Prop)->St->Hp->Prop}
  (hw:∀ {wi:TI}{G:TG}{tt:TT}{tr:TL}{U:St}{H:Hp}{Q:VK},PI X tg iter wi->(∀ (C c':Addr)(s:Shared)(H:Hp)(fp:VR),PG (X.aS scope cx C c' NB s H fp) tg G)->(∀ (C c':Addr)(s:Shared)(H:Hp)(fp:VR),nQ (X.aS scope cx C c' NB s H fp) ifs tt) ->
   (∀ (C c':Addr)(s:Shared)(H:Hp)(fp:VR)(D:Addr),PL (X.aS scope cx C c' NB s H fp) D elt (⟨tg,iter,ifs,0⟩:: rest) scope pos 1 tr)->mJ wi vs.length ix G tt tr U H Q->w Q U H)
  (g:Gh)(x:XC)(E:En)(U:St)(H Hm:Hp)(F:Nat->VR)(P:VY)(Q:VK)(hx:XL X Ex x g)(R:Rl X.K g E U H Hm F)(p:aO cs di t c r x E P)
  (q:∀ E' k v u H' Hm' F' fp,P E' k v->Rl X.K g E' U H' Hm' F'->ah Hm Hm'->Tm X.K g F' H' Hm' k u v fp->Q u H'):w Q (sel Y U) H:=by
 obtain ⟨wi,hpi,hwi⟩:=hi;refine hw (wi:=wi) (G:=fun v U H Q=>∀ (C c':Addr)(s:Shared)(H2:Hp)(fp:VR),WG (X.aS scope cx C c' NB s H2 fp) tg v U H Q) (tt:=fun U H Q=>∀ (C c':Addr)(s:Shared)(H2:Hp)(fp:VR),tL (X.aS scope cx C c' NB s H2 fp) ifs U H Q)
  (tr:=fun ys U H Q=>∀ (C c':Addr)(s:Shared)(H2:Hp)(fp:VR)(D:Addr),WL (X.aS scope cx C c' NB s H2 fp) D elt (⟨tg,iter,ifs,0⟩:: rest) scope pos 1 ys U H Q) hpi (fun C c' s H2 fp pins s' U H v u Q I r h=>h C c' s H2 fp pins s' u I r) (fun C c' s H2 fp pins s' U H Q I h=>h C c' s H2 fp pins s' I)
  (fun C c' s H2 fp D h1 h2 h3 pins s' U H ys its nn Q fin Qf E hp I rv hz h hf=>h C c' s H2 fp D h1 h2 h3 pins s' its nn fin Qf E hp I rv hz hf) ?_
 refine hwi g x E U H Hm F _ _ hx R p fun E1 xs J H1 Hm1 F1 p1 R1 s1 it1=>?_
 obtain ⟨E0',I,hcl,i0,step,fin⟩:=p1;obtain ⟨σ0,F0,R0,a0,n0⟩:=R1.bf hcl;rw [<- hcs,t8 hix aV a0 fun c hc=>(n0 c hc).1]
 refine r9 (cs:=cs) (t:=t) (c:=c) (r:=r) hts it1 R0 .nil i0 (fun h1 h2 h3 h4 C c' s H2 fp=>?_) (fun h1 h2 h3 C c' s H2 fp=>(hif C c' s H2 fp).ok XL.no h1 h2 h3) (fun h1 h2 h3 h4 C c' s H2 fp D=>hr C c' s H2 fp D g _ _ _ _ _ _ _ _ _ h1 h2 h3 h4) step fun E' dys' ys' σ' H' Hm' F' i R' s' r' a' p hp=>?_
 ·obtain ⟨G,g1,g2⟩:=pZ (X:=X.aS scope cx C c' NB s H2 fp) hc B.nd nd (ht C c' s H2 fp);exact WG.of g1 (g2 h1 h2 h3 h4)
 ·obtain ⟨E2,hcl2,p2⟩:=fin _ _ i;obtain ⟨σ2,F2,R2,a2,n2⟩:=R'.bf hcl2;have R3:=R2.agree (cs:=cs) ((a0.trans a').trans a2).symm fun c hc=>(n2 c hc).2
  have s2:=cg (o:=.lst ys') hp;have R4:=R3.grow (H':=upd H' p (.lst ys')) s2 (ah.refl _) (R3.sub.trans s2) (fun i a ha=>R3.off i a ha) fun _ _=>.inl rfl
  refine q _ _ _ _ _ Hm' F2 [p] p2 R4 (s1.trans s') ⟨.ow aL r',fun a ha=>?_,fun a ha i=>?_,fun a ha=>?_⟩
  ·rw [QF.mp ha];exact R3.tR hp
  ·rw [QF.mp ha];exact R3.fresh hp
  ·rw [QF.mp ha];exact R3.fX hp
def K9 {rest:VD}{vs NB:VX}{ix:VV}{di:DI}{t:Tg}{c:DT}{r:DC}(B:cC X scope vs NB ix)(hc:X.calm=true)(hcs:cs.length=vs.length)(hix:∀ i∈ix,i < Y.length)(aV:∀ c∈cs,c∉Y)(nd:(bw Y cs ix).Nodup)
  (hi:SI X Ex Y tg iter di)(ht:∀ (C:Addr)(s:Shared)(H:Hp)(fp:VR),eK (X.block scope C NB s H fp) (bw Y cs ix) tg t)(hts:∀ i∈t.slots,i∈cs)(hif:∀ (C:Addr)(s:Shared)(H:Hp)(fp:VR),gM (X.block scope C NB s H fp) E0 (bw Y cs ix) ifs c)
  (hr:∀ (C:Addr)(s:Shared)(H:Hp)(fp:VR)(D:Addr),SL (X.block scope C NB s H fp) (bw Y cs ix) cs D elt (⟨tg,iter,ifs,0⟩:: rest) scope pos 1 r)(ha:∀ g∈rest,g.is_async=0)(hs:∀ v,foldedSetIterable iter X.env v=pure v):SE X Ex Y (.ListComp elt (⟨tg,iter,ifs,0⟩:: rest) scope pos) (aO cs di t c r):=fun g x E U H Hm F P Q hx R p q =>
 zT B hc hcs hix aV nd hi ht hts hif hr ha hs (w:=fun Q U H=>WE X (.ListComp elt (⟨tg,iter,ifs,0⟩:: rest) scope pos) U H Q) (fun h1 h2 h3 h4 h5=>WE.of (GO B hc h1 h2 h3 h4 ha hs) h5) g x E U H Hm F P Q hx R p q
def Np {j:Nat}{y:Str}{py spos:Pos}(hN:X.N.Nodup)(hj:X.N[j]?=some y)(hy:X.env.scope.names.lookup y=some .local){rest:VD}{vs NB:VX}{ix:VV}{di:DI}{t:Tg}{c:DT}{r:DC}(B:cC X scope vs NB ix)(hc:X.calm=true)(hcs:cs.length=vs.length)(hix:∀ i∈ix,i < (aH X).length)(aV:∀ c∈cs,c∉aH X)(nd:(bw (aH X) cs ix).Nodup)
  (hi:SI X Ex (aH X) tg iter di)(ht:∀ (C:Addr)(s:Shared)(H:Hp)(fp:VR),eK (X.block scope C NB s H fp) (bw (aH X) cs ix) tg t)(hts:∀ i∈t.slots,i∈cs)(hif:∀ (C:Addr)(s:Shared)(H:Hp)(fp:VR),gM (X.block scope C NB s H fp) E0 (bw (aH X) cs ix) ifs c)
  (hr:∀ (C:Addr)(s:Shared)(H:Hp)(fp:VR)(D:Addr),SL (X.block scope C NB s H fp) (bw (aH X) cs ix) cs D elt (⟨tg,iter,ifs,0⟩:: rest) scope pos 1 r)(ha:∀ g∈rest,g.is_async=0)(hs:∀ v,foldedSetIterable iter X.env v=pure v)
  (hsw:swapsWith (.ListComp elt (⟨tg,iter,ifs,0⟩:: rest) scope pos) (some (.Name y py)) spos.line X.env=pure true):S1 X Ex (.Assign [.Name y py] (.ListComp elt (⟨tg,iter,ifs,0⟩:: rest) scope pos) spos) (aC j (aO cs di t c r)):=by
 rw [ug];intro g D' E U H Hm F D hx R p nx rt;refine zT B hc hcs hix aV nd hi ht hts hif hr ha hs (w:=fun Q τ H=>(Q=fun u H1=>D.nx (τ.set j (some u)) H1)->WS X (.Assign [.Name y py] (.ListComp elt (⟨tg,iter,ifs,0⟩:: rest) scope pos) spos) D τ H)
  (fun h1 h2 h3 h4 h5 e=>by
   subst e;exact WS.of (xZ hN hj hy B hc h1 h2 h3 h4 hsw ha hs) h5) g D'.xc E U H Hm F _ _ hx R p (fun E' k v u H' Hm' F' fp p' R' s' T=>?_) rfl
 rw [jr Ri (fP (aZ hj)) (R'.len ▸ gu p'.1)];exact nx _ _ _ _ _ p'.2 (R'.put T p'.1) s'
def Lh {cx:Str}{rest:VD}{vs NB:VX}{ix:VV}{di:DI}{t:Tg}{c:DT}{r:DC}(B:dB X scope cx vs NB ix)(hc:X.calm=true)(hcs:cs.length=vs.length)(hix:∀ i∈ix,i < Y.length)(aV:∀ c∈cs,c∉Y)(nd:(bw Y cs ix).Nodup)
  (hi:SI X Ex Y tg iter di)(ht:∀ (C c':Addr)(s:Shared)(H:Hp)(fp:VR),eK (X.aS scope cx C c' NB s H fp) (bw Y cs ix) tg t)(hts:∀ i∈t.slots,i∈cs)(hif:∀ (C c':Addr)(s:Shared)(H:Hp)(fp:VR),gM (X.aS scope cx C c' NB s H fp) E0 (bw Y cs ix) ifs c)
  (hr:∀ (C c':Addr)(s:Shared)(H:Hp)(fp:VR)(D:Addr),SL (X.aS scope cx C c' NB s H fp) (bw Y cs ix) cs D elt (⟨tg,iter,ifs,0⟩:: rest) scope pos 1 r)(ha:∀ g∈rest,g.is_async=0)(hs:∀ v,foldedSetIterable iter X.env v=pure v):SE X Ex Y (.ListComp elt (⟨tg,iter,ifs,0⟩:: rest) scope pos) (aO cs di t c r):=fun g x E U H Hm F P Q hx R p q =>
 Gb B hc hcs hix aV nd hi ht hts hif hr ha hs (w:=fun Q U H=>WE X (.ListComp elt (⟨tg,iter,ifs,0⟩:: rest) scope pos) U H Q) (fun h1 h2 h3 h4 h5=>WE.of (Gf B hc h1 h2 h3 h4 ha hs) h5) g x E U H Hm F P Q hx R p q
end
def xX (K:Frag)(f:DM)(r:V->List V->Hp->VK->Prop):Prop:=∀ (H Hm:Hp)(a:Addr)(xs:List V)(ds:VO)(vs:List V)(args:VO)(P:VO->PyData->Prop)(Q:VK),H a=some (.lst xs)->Hm a=none->ah Hm H->aA K Hm xs ds->aA K Hm vs args->f ds args P ->
 (∀ ys new u v,P new v->aA K Hm ys new->Rp K Hm u v->Q u (upd H a (.lst ys)))->r (.ref a) vs H Q
theorem CI:∀ {es:List DE}{os:VZ}{vs:List V}{ds:VO},Got K U Hm (es.map .ev) os vs->fill (es.map .ev) E os=some ds->aA K Hm vs ds
 | [],_,_,_,.nil,h=>by cases h;exact .nil
 | e::es,_,_,_,.ev (os:=os) r G,h=>by
  have h:(fill (es.map .ev) E os).map (_::·)=some _:=h;cases hf:fill (es.map .ev) E os with
  | none=>rw [hf] at h;cases h
  | some ds =>
   rw [hf] at h;cases h;exact .cons r (CI G hf)
inductive qE (X:Cx)(Ex:XK)(Y:VV):VT->List DE->Prop
 | nil:qE X Ex Y [] []
 | cons {e:Expr}{d:DE}{es:VT}{ds:List DE}:SE X Ex Y e d->qE X Ex Y es ds->qE X Ex Y (e::es) (d::ds)
def qE.as (h:qE X Ex Y es ds):aU X Ex Y es (ds.map .ev):=by
 induction h with
 | nil=>exact .nil
 | cons h _ ih=>exact .ev h ih
def Dq (ns:es.all noStar=true)(l:es.length < 30):((backTo cpos (starEach es env)).all (fun x=>!x.1) && (backToKw cpos (keywordEach [] env)).all (fun x=>x.1.isSome) && decide (es.length + ([]:List Keyword).length + (if ([]:List Keyword).isEmpty then 0 else 1) < 30))=true:=by
 have h:=gc (pos:=cpos) (env:=env) ns;rw [List.any_eq_false] at h;rw [QC,QC,QK];refine ⟨⟨fun x hx=>by simpa using h x hx,rfl⟩,Qz ?_⟩
 show es.length + 0 + 0 < 30;lia
section
variable {X:Cx}{Ex:XK}{Y:VV}
def G6 {i:Nat}(h:jw E i=true):∃ p ds,E[i]?=some (some (.ow p,.list ds)):=by
 unfold jw at h;split at h
 ·rename_i p ds e;exact ⟨p,ds,e⟩
 ·cases h
def NI {x name:Str}{id:String}{p apos cpos:Pos}{es:VT}{ds:List DE}{f:DM}{r:V->List V->Hp->VK->Prop}{i j:Nat}(hm:sN X id r)(D:xX X.K f r)(slot:Slot "list" name id)(hty:typeOf (.builtin id)=pure (.type "method_descriptor"))
  (hv:PE X (.Name x p) (nL j))(hj:Y[j]?=some i)(ns:es.all noStar=true)(l30:es.length < 30)(hline:(apos.endLine == cpos.line)=true)(S:qE X Ex Y es ds):SE X Ex Y (.Call (.Attribute (.Name x p) name apos) es [] cpos) (pF f i ds):=by
 intro g xc E U H Hm F P Q hx R h q
 replace h:bK (jw E i) _:=h
 rw [dH] at h;obtain ⟨ho,h⟩:=h;obtain ⟨p0,ds0,e0⟩:=G6 ho;obtain ⟨v,h1,h2⟩:=R.slot i _ _ e0;have hs1:=eX hj h1;have fin:∀ a xs0,v=.ref a->H a=some (.lst xs0)->vR X es (sel Y U) H fun vs H2=>r (.ref a) vs H2 Q:=fun a xs0 ev _=>by
  subst ev;refine kH hx S.as R h fun E1 os vs H1 Hm1 F1 p1 R1 s1 G=>?_
  replace p1:Ej f i (ds.map .ev) E1 os P:=p1
  unfold Ej at p1;rw [<- bB,fE] at p1;obtain ⟨args,hf,p1⟩:=p1;split at p1
  rotate_left
  ·exact p1.elim
  rename_i p1' ds1 e1;have ra:=CI G hf;obtain ⟨v',g1,g2⟩:=R1.slot i _ _ e1;rw [h1] at g1;cases g1;generalize hfi:F1 i=fi at g2;cases g2 with
  | @ow _ _ xs1 _ ha1 hr1 =>
   refine D H1 Hm1 a xs1 ds1 vs args _ Q ha1 (R1.off i a (by rw [hfi];exact Q2)) R1.sub hr1 ra p1 fun ys new u v p2 ry ru=>?_
   obtain ⟨a',xs',k1,k2,k3,k4,R2⟩:=R1.chg e1 ry;rw [h1] at k1;cases k1;exact q _ _ _ _ _ _ _ [] p2 R2 s1 (Tm.sh ru)
 generalize hfi:F i=fi at h2;cases h2 with
 | @ow _ a xs _ ha hr =>
  cases es with
  | nil=>exact WE.of (LC V0 slot hty hm hv rfl hline) ⟨_,hs1,.inl ⟨rfl,_,bX.of ha⟩,fin a xs rfl ha⟩
  | cons e es =>
   have ns':=ns;rw [QM,QC] at ns';exact WE.of (Iu V0 slot hty hm hv (dW ns) rfl (Dq ns l30) hline (b5 ns'.1) (gc ns'.2)) ⟨_,hs1,.inl ⟨rfl,_,bX.of ha⟩,fin a xs rfl ha⟩
def eY:DM:=fun ds args P=>match args with
 | [d]=>ds.length < sizeLine/\P (ds++[d]) .none
 | _=>False
def fF:xX K eY zZ:=by
 intro H Hm a xs ds vs args P Q ha _ s r ra h q;unfold eY at h;split at h
 ·obtain ⟨x,rfl,h1⟩:=dO ra;exact ⟨a,xs,x,rfl,rfl,ha,by rw [r.len];exact h.1,q _ _ _ _ h.2 (r.snoc h1) .bE⟩
 ·exact h.elim
inductive vH (K:Frag) (x:V)(vs:List V)(H:Hp)(Q:VK):Prop
 | mk:∀ l b xs zs,(x=.ref l)->(vs=[.ref b])->(H l=some (.lst xs))->(cy K H b zs)->(xs.length + zs.length<=sizeLine)->(Q .bE (upd H l (.lst (xs++zs))))->vH K x vs H Q
def y9 (K:Frag):V->List V->Hp->VK->Prop:=fun x vs H Q=>vH K x vs H Q
open PyProof.Rows in
def Cb:sN X "list.extend" (y9 X.K):=by
 intro pins s U H x vs v us Q I rx rv h;obtain ⟨l,b,xs,zs,rfl,rfl,hH,hB,hz,q⟩:=h;cases rx;obtain ⟨u,rfl,ru⟩:=rv.one;cases ru;obtain ⟨z,its,n,r,hl,e⟩:=I.wU hH;obtain ⟨z2,its2,n2,r2,e2⟩:=hB.get I;have hl2:=r2.length;have hsz:its.toArray.size + its2.toArray.size<=sizeLine:=by rw [QJ,QJ];lia
 have hlong:¬ (!its.toArray.isEmpty && Builtin.List.listTooLong (its.toArray.size + its2.toArray.size))=true:=by
  rw [q9 hsz,Bool.and_false];exact Qu
 refine Sa F.slot_list_extend ⟨_,e,rfl⟩ F.entry_list_extend (F.args_list_extend_2 _ _)
  (AutoSeq1.list_extend_list_list_0 l its.toArray n b its2.toArray n2 hlong (by rw [QJ];lia) (by lia)) ⟨e,e2,?_⟩
 refine ⟨.bE,_,I.xP (its':=its++its2) hH e (by simp) (r.append r2) ?_,rfl,q⟩
 rw [QE];lia
def qp:DM:=fun ds args P=>match args with
 | [.list es]=>ds.length + es.length<=sizeLine/\P (ds++es) .none
 | _=>False
def Ce:xX K qp (y9 K):=by
 intro H Hm a xs ds vs args P Q ha _ s r ra h q;unfold qp at h;split at h
 ·obtain ⟨x,rfl,h1⟩:=dO ra;obtain ⟨b,zs,rfl,hb,r2⟩:=gz h1;exact ⟨a,b,xs,zs,rfl,rfl,ha,cy.mono s hb,by rw [r.len,r2.len];exact h.1,q _ _ _ _ h.2 (r.app r2) .bE⟩
 ·exact h.elim
theorem aA.dropLast (r:aA K H vs ds):aA K H vs.dropLast ds.dropLast:=by
 rw [List.dropLast_eq_take,List.dropLast_eq_take,r.len];exact r.take _
theorem aA.erase:∀ {vs:List V}{ds:VO} (i:Nat),aA K H vs ds->aA K H (vs.eraseIdx i) (ds.eraseIdx i)
 | _,_,_,.nil=>.nil
 | _,_,0,.cons _ r=>r
 | _,_,i + 1,.cons h r=>.cons h (r.erase i)
def uB:DM:=fun ds args P=>match args with
 | []=>∃ d,ds[ds.length - 1]?=some d/\P ds.dropLast d
 | [.int i]=>(-(2 ^ 63)<=i/\i < 2 ^ 63)/\∃ n d,seqIndex? i ds.length=some n/\ds[n]?=some d/\P (ds.eraseIdx n) d
 | _=>False
def zU:sN X "list.pop" fun x vs H Q=>GV x vs H Q\/wB x vs H Q:=fun pins s U H x xs v us Q I a b z=>z.elim (MR pins s U H x xs v us Q I a b) (Gi pins s U H x xs v us Q I a b)
def zW:xX K uB fun x vs H Q=>GV x vs H Q\/wB x vs H Q:=by
 intro H Hm a xs ds vs args P Q ha _ s r ra h q;unfold uB at h;split at h
 ·cases ra;obtain ⟨d,e,h⟩:=h;obtain ⟨v,ev,rv⟩:=r.get e;refine .inl ⟨a,xs,v,rfl,rfl,ha,by rw [r.len];exact ev,q _ _ _ _ h r.dropLast rv⟩
 ·obtain ⟨x,rfl,h1⟩:=dO ra;cases h1;obtain ⟨⟨b1,b2⟩,n,d,e1,e2,h⟩:=h;obtain ⟨v,ev,rv⟩:=r.get e2;exact .inr ⟨a,xs,_,n,v,rfl,rfl,ha,b1,b2,by rw [r.len];exact e1,ev,q _ _ _ _ h (r.erase n) rv⟩
 ·exact h.elim
end
def ny:bF a=bF b↔a=b:=by
 cases a <;> cases b <;> simp [bF]
theorem vL:∀ {a b:List Key},a.map bF=b.map bF↔a=b
 | [],[]=>by simp
 | [],_::_=>by simp
 | _::_,[]=>by simp
 | a::as,b::bs=>by simp [ny,vL (a:=as) (b:=bs)]
def sf {a b:List Key}:PyData.tuple (a.map bF)=.tuple (b.map bF)↔a=b:=by
 rw [PyData.tuple.injEq];exact vL
def qa (h:qU w=true):∃ k,w=bF k:=by
 cases w with
 | int i=>exact ⟨.inl i,rfl⟩
 | str x=>exact ⟨.inr x,rfl⟩
 | _=>cases h
theorem lH:∀ {ks:VO},ks.all qU=true->∃ k:List Key,ks=k.map bF
 | [],_=>⟨[],rfl⟩
 | w::ks,h=>by
  rw [QM,QC] at h;obtain ⟨k,rfl⟩:=qa h.1;obtain ⟨l,rfl⟩:=lH h.2;exact ⟨k::l,rfl⟩
section
variable {K:Frag}{H:Hp}
def sL (r:Rp K H u (bF k)):u=kV k:=by
 cases k with
 | inl i =>
  have r:Rp K H u (.int i):=r;cases r;rfl
 | inr x =>
  have r:Rp K H u (.str x):=r;cases r;rfl
theorem xx:∀ {us:List V}{k:List Key},aA K H us (k.map bF)->us=k.map kV
 | _,[],r=>by cases r;rfl
 | _,k::ks,r=>by
  cases r with
  | cons h t=>rw [sL h,xx t];rfl
def uf {k:List Key}(r:Rp K H u (.tuple (k.map bF))):∃ b,u=.ref b/\H b=some (.tup (k.map kV)):=by
 cases r with
 | tup a r=>exact ⟨_,rfl,by rw [<- xx r];exact a⟩
theorem fc.len:∀ {kvs:List (Key×V)}{ds:VA},fc K H kvs ds->kvs.length=ds.length
 | _,_,.nil=>rfl
 | _,_,.cons _ r=>congrArg (· + 1) r.len
theorem fj.len:∀ {kvs:List (List Key×V)}{ds:VA},fj K H kvs ds->kvs.length=ds.length
 | _,_,.nil=>rfl
 | _,_,.cons _ r=>congrArg (· + 1) r.len
theorem fc.val:∀ {kvs:List (Key×V)}{ds:VA},fc K H kvs ds->(eL ds (bF k)=none/\cS kvs k=none)\/∃ v d,cS kvs k=some v/\eL ds (bF k)=some d/\Rp K H v d
 | _,_,.nil=>.inl ⟨rfl,rfl⟩
 | _,_,.cons (k:=k') (v:=v) (d:=d) (kvs:=kvs) (ds:=ds) h r=>by
  by_cases c:k'=k
  ·subst c;exact .inr ⟨v,d,by unfold cS;rw [Ua (by simp)];rfl,by unfold eL;rw [Ua (by simp)];rfl,h⟩
  ·have c':¬ bF k'=bF k:=fun z=>c (ny.mp z)
   have e1:cS ((k',v)::kvs) k=cS kvs k:=by unfold cS;rw [Ub (by simpa using c)]
   have e2:eL ((bF k',d)::ds) (bF k)=eL ds (bF k):=by unfold eL;rw [Ub (by simpa using c')]
   rw [e1,e2];exact r.val
theorem fj.val:∀ {kvs:List (List Key×V)}{ds:VA},fj K H kvs ds->(eL ds (.tuple (k.map bF))=none/\cS kvs k=none)\/∃ v d,cS kvs k=some v/\eL ds (.tuple (k.map bF))=some d/\Rp K H v d
 | _,_,.nil=>.inl ⟨rfl,rfl⟩
 | _,_,.cons (k:=k') (v:=v) (d:=d) (kvs:=kvs) (ds:=ds) h r=>by
  by_cases c:k'=k
  ·subst c;exact .inr ⟨v,d,by unfold cS;rw [Ua (by simp)];rfl,by unfold eL;rw [Ua (by simp)];rfl,h⟩
  ·have c':¬ PyData.tuple (k'.map bF)=.tuple (k.map bF):=fun z=>c (sf.mp z)
   have e1:cS ((k',v)::kvs) k=cS kvs k:=by unfold cS;rw [Ub (by simpa using c)]
   have e2:eL ((.tuple (k'.map bF),d)::ds) (.tuple (k.map bF))=eL ds (.tuple (k.map bF)):=by unfold eL;rw [Ub (by simpa using c')]
   rw [e1,e2];exact r.val
theorem fc.any:∀ {kvs:List (Key×V)}{ds:VA},fc K H kvs ds->(kvs.any fun kv=>decide (kv.1=k))=ds.any fun kv=>decide (kv.1=bF k)
 | _,_,.nil=>rfl
 | _,_,.cons (k:=k') h r=>by
  rw [Sb,Sb,r.any,decide_eq_decide.mpr (ny (a:=k') (b:=k)).symm]
theorem fj.any {k:List Key}:∀ {kvs:List (List Key×V)}{ds:VA},fj K H kvs ds->(kvs.any fun kv=>decide (kv.1=k))=ds.any fun kv=>decide (kv.1=.tuple (k.map bF))
 | _,_,.nil=>rfl
 | _,_,.cons (k:=k') h r=>by
  rw [Sb,Sb,r.any,decide_eq_decide.mpr (sf (a:=k') (b:=k)).symm]
theorem fc.app (k:Key)(h:Rp K H v d):∀ {kvs:List (Key×V)}{ds:VA},fc K H kvs ds->fc K H (kvs++[(k,v)]) (ds++[(bF k,d)])
 | _,_,.nil=>.cons h .nil
 | _,_,.cons g r=>.cons g (r.app k h)
theorem fj.app (k:List Key)(h:Rp K H v d):∀ {kvs:List (List Key×V)}{ds:VA},fj K H kvs ds->fj K H (kvs++[(k,v)]) (ds++[(.tuple (k.map bF),d)])
 | _,_,.nil=>.cons h .nil
 | _,_,.cons g r=>.cons g (r.app k h)
def fc.put (k:Key)(h:Rp K H v d)(r:fc K H kvs ds):fc K H (putK kvs k v) (putD ds (bF k) d):=by
 unfold putK putD;rw [r.any (k:=k)];split
 ·have go:∀ {kvs:List (Key×V)}{ds:VA},fc K H kvs ds->fc K H (kvs.map fun kv=>if kv.1=k then (kv.1,v) else kv) (ds.map fun kv=>if kv.1=bF k then (kv.1,d) else kv):=by
   intro kvs
   induction kvs with
   | nil=>intro ds r;cases r;exact .nil
   | cons p kvs ih =>
    intro ds r;cases r with
    | @cons k' v' d' _ ds g r =>
     rw [QO,QO]
     by_cases c:k'=k
     ·rw [if_pos c,if_pos (congrArg bF c)];exact .cons h (ih r)
     ·rw [if_neg c,if_neg fun z=>c (ny.mp z)]
      exact .cons g (ih r)
  exact go r
 ·exact r.app k h
def fj.put (k:List Key)(h:Rp K H v d)(r:fj K H kvs ds):fj K H (putK kvs k v) (putD ds (.tuple (k.map bF)) d):=by
 unfold putK putD;rw [r.any (k:=k)];split
 ·have go:∀ {kvs:List (List Key×V)}{ds:VA},fj K H kvs ds->fj K H (kvs.map fun kv=>if kv.1=k then (kv.1,v) else kv) (ds.map fun kv=>if kv.1=.tuple (k.map bF) then (kv.1,d) else kv):=by
   intro kvs
   induction kvs with
   | nil=>intro ds r;cases r;exact .nil
   | cons p kvs ih =>
    intro ds r;cases r with
    | @cons k' v' d' _ ds g r =>
     rw [QO,QO]
     by_cases c:k'=k
     ·rw [if_pos c,if_pos (by rw [c])]
      exact .cons h (ih r)
     ·rw [if_neg c,if_neg fun z=>c (sf.mp z)]
      exact .cons g (ih r)
  exact go r
 ·exact r.app k h
end
section
variable {X:Cx}{Ex:XK}{Y:VV}
inductive HF (neg:Bool) (x:V) (y:V)(H:Hp)(Q:VK):Prop
 | mk:∀ a o,(y=.ref a)->(iQ H a x o)->(Q (.bl (if neg then !o.isSome else o.isSome)) H)->HF neg x y H Q
def GY (neg:Bool):R2:=fun x y H Q=>HF neg x y H Q
def M1 (hu:X.A.units + 64 < cLine):bN X (compareOp .In) (GY false):=by
 intro pins s U H x y v u Q I rx ry h;obtain ⟨a,o,rfl,g,q⟩:=h;cases ry;exact Pu (by lia) I g rx fun s3 I3=>⟨.bl o.isSome,H,I3,rfl,q⟩
def DO (hu:X.A.units + 64 < cLine):bN X (compareOp .NotIn) (GY true):=by
 intro pins s U H x y v u Q I rx ry h;obtain ⟨a,o,rfl,g,q⟩:=h;cases ry;exact JL (by lia) I g rx fun s3 I3=>⟨.bl (!o.isSome),H,I3,rfl,q⟩
def eZ (neg:Bool):DR:=fun ds P=>match ds with
 | [.tuple ks,.dict ((.none,.none)::kvs)]=>ks.all qU=true/\P .sh (.bool (if neg then !(eL kvs (.tuple ks)).isSome else (eL kvs (.tuple ks)).isSome))
 | [w,.dict kvs]=>(qU w=true/\sY kvs=true)/\P .sh (.bool (if neg then !(eL kvs w).isSome else (eL kvs w).isSome))
 | ds=>Eb neg ds P
def Fg (K:Frag)(neg:Bool):R2:=fun x y H Q=>By K neg x y H Q\/GY neg x y H Q
def CJ (hu:X.A.units + 64 < cLine):bN X (compareOp .In) (Fg X.K false):=bN.or (Lr hu) (M1 hu)
def CT (hu:X.A.units + 64 < cLine):bN X (compareOp .NotIn) (Fg X.K true):=bN.or (Ei hu) (DO hu)
def rL (r:Rp K H u (.dict kvs))(h:sY kvs=true):∃ a es,u=.ref a/\H a=some (.dK es)/\fc K H es kvs:=by
 cases r with
 | dk a r=>exact ⟨_,_,rfl,a,r⟩
 | dt a r=>cases h
 | exc _ _=>cases h
def Dj (r:Rp K H u (.dict ((.none,.none)::kvs))):∃ a es,u=.ref a/\H a=some (.dT es)/\fj K H es kvs:=by
 generalize e:((PyData.none,PyData.none)::kvs)=ds at r;cases r with
 | dk a r =>
  cases r with
  | nil=>cases e
  | @cons k _ _ _ _ _ _=>cases k <;> cases e
 | dt a r=>cases e;exact ⟨_,_,rfl,a,r⟩
 | exc _ _=>cases e
def um (neg:Bool):cP K (eZ neg) (r2 (Fg K neg)):=by
 intro H Hm vs ds P Q s r h q;unfold eZ at h;split at h
 ·rename_i ks kvs;obtain ⟨x,y,rfl,h1,h2⟩:=cO r;obtain ⟨k,rfl⟩:=lH h.1;obtain ⟨b,rfl,hb⟩:=uf h1;obtain ⟨a,es,rfl,ha,rt⟩:=Dj h2;refine .inr ⟨a,_,rfl,iQ.t (s _ _ ha) (s _ _ hb),?_⟩;have e:(cS es k).isSome=(eL kvs (.tuple (k.map bF))).isSome:=by
   rcases rt.val (k:=k) with ⟨e1,e2⟩ | ⟨v,d,e1,e2,_⟩
   ·rw [e1,e2];rfl
   ·rw [e1,e2];rfl
  rw [e];exact bG.sc q s h.2 (.bl _)
 ·rename_i w kvs _;obtain ⟨x,y,rfl,h1,h2⟩:=cO r;obtain ⟨⟨hk,hp⟩,h⟩:=h;obtain ⟨k,rfl⟩:=qa hk;cases sL h1;obtain ⟨a,es,rfl,ha,rt⟩:=rL h2 hp;refine .inr ⟨a,_,rfl,iQ.k (s _ _ ha),?_⟩;have e:(cS es k).isSome=(eL kvs (bF k)).isSome:=by
   rcases rt.val (k:=k) with ⟨e1,e2⟩ | ⟨v,d,e1,e2,_⟩
   ·rw [e1,e2];rfl
   ·rw [e1,e2];rfl
  rw [e];exact bG.sc q s h (.bl _)
 ·rcases vs with _ | ⟨x,_ | ⟨y,_ | ⟨z,t⟩⟩⟩
  ·cases r;exact (show False from h).elim
  ·cases r with | cons _ r=>cases r;exact (by unfold Eb at h;simpa using h:False).elim
  ·exact .inl (Ma neg H Hm _ _ P Q s r h q)
  ·cases r with | cons _ r=>cases r with | cons _ r=>cases r;exact (by unfold Eb at h;simpa using h:False).elim
inductive Iw (x:V) (y:V)(H:Hp)(Q:VK):Prop
 | mk:∀ a v,(x=.ref a)->(iQ H a y (some v))->(Q v H)->Iw x y H Q
def M5:R2:=fun x y H Q=>Iw x y H Q
def Jj (hu:X.A.units + 64 < cLine):nR X M5:=by
 intro value slice pins s U H x y v u Q I rx ry h hs;obtain ⟨a,w,rfl,g,q⟩:=h;cases rx;exact PyProof.Rows.tail_any (zM I g) PySem.F.slot_dict_getitem.lookup (Ep (by lia) I g ry fun w' s3 I3 rw'=>⟨w,H,I3,rw',q⟩) hs
def atK (xs:VO) (i:Int):Option PyData:=match i with
 | .ofNat n=>xs[n]?
 | .negSucc n=>eE xs (.negSucc n)
def sV {xs:VO}{i:Int}:atK xs i=eE xs i:=by
 cases i with
 | ofNat n =>
  unfold atK eE nU;show xs[n]?=_;rw [if_pos (show (0:Int)<=Int.ofNat n from Int.natCast_nonneg n)]
  by_cases h:n < xs.length
  ·rw [if_pos (show Int.ofNat n < (xs.length:Int) from Sq.mpr h)];rfl
  ·rw [if_neg (show ¬ Int.ofNat n < (xs.length:Int) from fun z=>h (Sq.mp z))]
   exact RG (Nat.le_of_not_lt h)
 | negSucc n=>rfl
def bg:DR:=fun ds P=>match ds with
 | [.list xs,.int i]=>aB (atK xs i) (P .sh)
 | [.tuple xs,.int i]=>aB (atK xs i) (P .sh)
 | [.dict ((.none,.none)::kvs),.tuple ks]=>ks.all qU=true/\∃ d,eL kvs (.tuple ks)=some d/\P .sh d
 | [.dict kvs,w]=>(qU w=true/\sY kvs=true)/\∃ d,eL kvs w=some d/\P .sh d
 | ds=>Dl ds P
def LN (K:Frag):R2:=fun x y H Q=>Lm K x y H Q\/M5 x y H Q
def Pe (hu:X.A.units + 64 < cLine):nR X (LN X.K):=Fe.or (Jj hu)
def Kv:cP K bg (r2 (LN K)):=by
 intro H Hm vs ds P Q s r h q;unfold bg at h;split at h
 ·rename_i xs i;rw [sV,<- bB] at h;obtain ⟨x,y,rfl,_,_⟩:=cO r;exact .inl (xg H Hm _ _ P Q s r h q)
 ·rename_i xs i;rw [sV,<- bB] at h;obtain ⟨x,y,rfl,_,_⟩:=cO r;exact .inl (xg H Hm _ _ P Q s r h q)
 ·rename_i kvs ks;obtain ⟨x,y,rfl,h2,h1⟩:=cO r;obtain ⟨hk,d,hv,h⟩:=h;obtain ⟨k,rfl⟩:=lH hk;obtain ⟨b,rfl,hb⟩:=uf h1;obtain ⟨a,es,rfl,ha,rt⟩:=Dj h2;rcases rt.val (k:=k) with ⟨e1,e2⟩ | ⟨v,d',e1,e2,rv⟩
  ·rw [e1] at hv;cases hv
  ·rw [e2] at hv;cases hv;exact .inr ⟨a,v,rfl,by rw [<- e1];exact iQ.t (s _ _ ha) (s _ _ hb),bG.sc q s h rv⟩
 ·rename_i kvs w _;obtain ⟨x,y,rfl,h2,h1⟩:=cO r;obtain ⟨⟨hk,hp⟩,d,hv,h⟩:=h;obtain ⟨k,rfl⟩:=qa hk;cases sL h1;obtain ⟨a,es,rfl,ha,rt⟩:=rL h2 hp;rcases rt.val (k:=k) with ⟨e1,e2⟩ | ⟨v,d',e1,e2,rv⟩
  ·rw [e1] at hv;cases hv
  ·rw [e2] at hv;cases hv;exact .inr ⟨a,v,rfl,by rw [<- e1];exact iQ.k (s _ _ ha),bG.sc q s h rv⟩
 ·rcases vs with _ | ⟨x,_ | ⟨y,_ | ⟨z,t⟩⟩⟩
  ·cases r;exact (show False from h).elim
  ·cases r with | cons _ r=>cases r;exact (by unfold Dl at h;simpa using h:False).elim
  ·exact .inl (xg H Hm _ _ P Q s r h q)
  ·cases r with | cons _ r=>cases r with | cons _ r=>cases r;exact (by unfold Dl at h;simpa using h:False).elim
def cU:DR:=fun ds P=>match ds with
 | [.dict kvs]=>sY kvs=true/\P .sh (.int kvs.length)
 | ds=>F9 ds P
def G4:cP K cU fun xs H Q=>(∃ p ys,xs=[.ref p]/\(bX K H p ys\/cj K H p ys)/\Q (.int ys.length) H)\/∃ a kvs,xs=[V.ref a]/\H a=some (.dK kvs)/\Q (.int kvs.length) H:=by
 intro H Hm vs ds P Q s r h q;unfold cU at h;split at h
 ·obtain ⟨x,rfl,h1⟩:=dO r;obtain ⟨a,es,rfl,ha,rt⟩:=rL h1 h.1;exact .inr ⟨a,es,rfl,s _ _ ha,by rw [rt.len];exact bG.sc q s h.2 (.int _)⟩
 ·exact .inl (JR H Hm _ _ P Q s r h q)
def Rl.FO {F:Nat->VR}(R:Rl K g E U H Hm F){i:Nat}{a:Addr}(e:E[i]?=some (some (k,d)))(hF:F i=[a])(hv:U[i]?=some (some (.ref a)))(new:Own K (upd H a o) Hm k (.ref a) d' [a])(nt:qR o)(hp:k=.ow true->∃ ds,d'=.list ds) :
  Rl K g (E.set i (some (k,d'))) U (upd H a o) Hm F:=by
 have ma:a∈F i:=by rw [hF];exact Q2
 have na:=R.off i a ma;have up:∀ b,b≠a->upd H a o b=H b:=fun b hb=>au hb
 have li:=aZ e;exact {
  len:=by rw [RJ];exact R.len
  sub:=fun b u hb=>by
   have:b≠a:=fun z=>by rw [z,na] at hb;cases hb
   rw [up b this];exact R.sub b u hb
  slot:=fun j k' d'' e'=>by
   by_cases c:j=i
   ·subst c;rw [aF li] at e';cases e';exact ⟨_,hv,by rw [hF];exact new⟩
   ·rw [ao (Ne.symm c)] at e';obtain ⟨u,g1,g2⟩:=R.slot j k' d'' e';refine ⟨u,g1,g2.step (ah.refl _) fun b hb=>up b fun z=>c (R.aV j i a (z ▸ hb) ma)⟩
  off:=R.off
  bH:=fun j b hb=>by
   by_cases c:b=a
   ·rw [c];exact ⟨_,aL,nt⟩
   ·rw [up b c];exact R.bH j b hb
  aV:=R.aV
  fr:=fun q u hq ho=>by
   have:q≠a:=fun z=>by
    rcases R.new i a ma with y | y
    ·exact hq (z ▸ y)
    ·rw [z,y] at ho;cases ho
   rw [up q this];exact R.fr q u hq ho
  new:=R.new
  pin:=fun q hq=>by
   obtain ⟨g1,ds',g2⟩:=R.pin q hq
   by_cases c:i=q.1
   ·rw [<- c] at g1 g2 ⊢;rw [e] at g2;cases g2;obtain ⟨ds,rfl⟩:=hp rfl;exact ⟨g1,ds,aF li⟩
   ·exact ⟨g1,ds',by rw [ao c];exact g2⟩
  old:=R.old }
def Iq:A8:=fun o i v H Q=>Io o i v H Q\/∃ a H',o=.ref a/\oX H a i v H'/\Q H'
def Oc (hu:X.A.units + 64 < cLine):Gn X Iq:=by
 intro pins s U H o i v ov iv u Q I ro ri rv h;rcases h with h | ⟨a,H',rfl,g,q⟩
 ·exact set_list pins s U H o i v ov iv u Q I ro ri rv h
 ·cases ro;exact CS (by lia) I g ri rv fun s' I'=>⟨H',I',q⟩
def JS {F:Nat->VR}{i:Nat}(R:Rl K g E U H Hm F)(ho:U[i]?=some (some o))(rw':Rp K Hm wv w)(rv:Rp K Hm vv v)(h:lP.setI E i w v Qe)
  (q:∀ E' H',Qe E'->Rl K g E' U H' Hm F->Q H'):Iq o wv vv H Q:=by
 unfold lP.setI at h;split at h
 ·rename_i p ds a e;rw [<- bB,xq] at h;obtain ⟨n,hn,h⟩:=h;cases rw';obtain ⟨v',h1,h2⟩:=R.slot i _ _ e;rw [ho] at h1;cases h1;generalize hfi:F i=fi at h2;cases h2 with
  | @ow _ b xs _ ha hr =>
   refine .inl ⟨b,xs,a,n,rfl,rfl,ha,by rw [hr.len];exact hn,q _ _ h ?_⟩
   exact R.FO e hfi ho (.ow aL (hr.set rv n)) mO fun _=>⟨_,rfl⟩
 ·rename_i p kvs _ e;obtain ⟨⟨hk,hl⟩,h⟩:=h;obtain ⟨k,rfl⟩:=qa hk;cases sL rw';obtain ⟨v',h1,h2⟩:=R.slot i _ _ e;rw [ho] at h1;cases h1;generalize hfi:F i=fi at h2;cases h2 with
  | @dk _ b es _ ha hr =>
   refine .inr ⟨b,_,rfl,oX.k ha (by rw [hr.len];exact hl),q _ _ h ?_⟩
   exact R.FO e hfi ho (.dk aL (hr.put k rv)) u9 fun z=>by cases z
 ·rename_i p kv kvs ks e;obtain ⟨⟨hk,hl⟩,h⟩:=h;obtain ⟨k,rfl⟩:=lH hk;obtain ⟨c,rfl,hc⟩:=uf rw';obtain ⟨v',h1,h2⟩:=R.slot i _ _ e;rw [ho] at h1;cases h1;generalize hfi:F i=fi at h2;cases h2 with
  | @dt _ b es _ ha hr =>
   refine .inr ⟨b,_,rfl,oX.t ha (R.sub _ _ hc) (by rw [hr.len];exact hl),q _ _ h ?_⟩
   exact R.FO e hfi ho (.dt aL (hr.put k rv)) vE fun z=>by cases z
 ·exact h.elim
def Nk {i jx:Nat}(hu:X.A.units + 64 < cLine)(hv:PE X (.Name x p) (nL jx))(hj:(aH X)[jx]?=some i)(hs:swapsWithSole [.Subscript (.Name x p) j pos'] e pos.line X.env=pure false)
  (ha:∀ v,assign (.Subscript (.Name x p) j pos') X.env v=(do
   let ov <- holding [v] (eval (.Name x p) X.env)
   let iv <- holding [v,ov] (eval j X.env)
   standAt pos'
   holding [v,ov,iv] (setItem ov iv v)
   release [v,ov,iv] []))(hd:SE X Ex (aH X) e de)(hd2:SE X Ex (aH X) j dj):S1 X Ex (.Assign [.Subscript (.Name x p) j pos'] e pos) (lP i dj de):=by
 intro g D' E U H Hm F D hx R pp nx rt;refine WS.of (Du bP (MV hv bP (Oc hu) ha) hs) (hd g D'.xc E U H Hm F _ _ hx R pp fun E1 k v u H1 Hm1 F1 fp p1 R1 s1 T=>?_)
 replace p1:bK k.fz _:=p1
 rw [dH,dH] at p1;obtain ⟨hk,hh,p1⟩:=p1;obtain ⟨Hm2,s2,R2,r2⟩:=T.iI R1 hk;obtain ⟨o,ho⟩:=jW R2 hh;refine ⟨o,eX hj ho,hd2 g D'.xc E1 U H1 Hm2 F1 _ _ hx R2 p1 fun E3 k3 v3 u3 H3 Hm3 F3 fp3 p3 R3 s3 T3=>?_⟩
 replace p3:bK k3.fz _:=p3
 rw [dH] at p3;obtain ⟨hk3,p3⟩:=p3;obtain ⟨Hm4,s4,R4,r4⟩:=T3.iI R3 hk3;exact JS R4 ho r4 (r2.mono (s3.trans s4)) p3 fun E' H' q R'=>nx _ _ _ _ _ q R' (s1.trans (s2.trans (s3.trans s4)))
end
def ini:VS->VO->En
 | true::ms,d::ds=>some (.ow true,d)::ini ms ds
 | false::ms,d::ds=>some (.sh,d)::ini ms ds
 | _,_=>[]
def fm:VS->En->Option (VO)
 | [],_=>some []
 | true::ms,some (.ow true,.list es)::E=>(fm ms E).map (.list es::·)
 | false::ms,_::E=>fm ms E
 | _,_=>none
def fH:VS->Nat->VR->List (Nat×Addr)
 | true::ms,n,a::as=>(n,a)::fH ms (n + 1) as
 | false::ms,n,as=>fH ms (n + 1) as
 | _,_,_=>[]
def gy:VS->VR->List (VR)
 | true::ms,a::as=>[a]::gy ms as
 | false::ms,as=>[]::gy ms as
 | _,_=>[]
section
variable {K:Frag}{H Hm:Hp}
def Ag.yE (h:Ag K H Hm ms vs ds as):vs.length=ms.length:=by
 induction h with
 | nil=>rfl
 | sh _ _ ih=>rw [QH,QH,ih]
 | mu _ _ _ _ _ ih=>rw [QH,QH,ih]
def Ag.OP (h:Ag K H Hm ms vs ds as):(ini ms ds).length=vs.length:=by
 induction h with
 | nil=>rfl
 | sh _ _ ih=>rw [ini,QH,QH,ih]
 | mu _ _ _ _ _ ih=>rw [ini,QH,QH,ih]
def Ag.pins (h:Ag K H Hm ms vs ds as):∀ n,(fH ms n as).map (·.2)=as:=by
 induction h with
 | nil=>exact fun _=>rfl
 | sh _ _ ih=>exact fun n=>ih (n + 1)
 | @mu _ _ _ _ a _ _ _ _ _ _ _ ih=>exact fun n=>congrArg (a::·) (ih (n + 1))
def Ag.slot (h:Ag K H Hm ms vs ds as):∀ {i:Nat}{k:Kd}{d:PyData},(ini ms ds)[i]?=some (some (k,d))->∃ v,vs[i]?=some v/\Own K H Hm k v d ((gy ms as)[i]?.getD []):=by
 induction h with
 | nil=>intro i k d e;simp [ini] at e
 | @sh ms vs ds as v d r _ ih =>
  intro i k d' e;rw [ini] at e;cases i with
  | zero =>
   cases e;exact ⟨v,rfl,.sh r⟩
  | succ i=>exact ih e
 | @mu ms vs ds as a xs es h1 h2 h3 h4 _ ih =>
  intro i k d' e;rw [ini] at e;cases i with
  | zero =>
   cases e;exact ⟨_,rfl,.ow h1 h2⟩
  | succ i=>exact ih e
def Ag.Hi (h:Ag K H Hm ms vs ds as):(∀ (i:Nat) a,a∈(gy ms as)[i]?.getD []->a∈as/\Hm a=none/\∃ xs,H a=some (.lst xs))/\∀ (i j:Nat) a,a∈(gy ms as)[i]?.getD []->a∈(gy ms as)[j]?.getD []->i=j:=by
 induction h with
 | nil=>exact ⟨fun i a h=>by simp [gy] at h,fun i j a h=>by simp [gy] at h⟩
 | @sh ms vs ds as v d r _ ih =>
  refine ⟨fun i a h=>?_,fun i j a h1 h2=>?_⟩
  ·rw [gy] at h;cases i with
   | zero=>simp at h
   | succ i=>exact ih.1 i a h
  ·rw [gy] at h1 h2;cases i with
   | zero=>simp at h1
   | succ i =>
    cases j with
    | zero=>simp at h2
    | succ j=>exact congrArg (· + 1) (ih.2 i j a h1 h2)
 | @mu ms vs ds as a xs es g1 g2 g3 g4 _ ih =>
  refine ⟨fun i b h=>?_,fun i j b h1 h2=>?_⟩
  ·rw [gy] at h;cases i with
   | zero =>
    have h:b∈[a]:=h;rw [QF] at h;subst h;exact ⟨Q2,g3,xs,g1⟩
   | succ i =>
    obtain ⟨y1,y2⟩:=ih.1 i b h;exact ⟨Q7 _ y1,y2⟩
  ·rw [gy] at h1 h2;cases i with
   | zero =>
    have h1:b∈[a]:=h1;rw [QF] at h1;subst h1;cases j with
    | zero=>rfl
    | succ j=>exact absurd (ih.1 j b h2).1 g4
   | succ i =>
    cases j with
    | zero =>
     have h2:b∈[a]:=h2;rw [QF] at h2;subst h2;exact absurd (ih.1 i b h1).1 g4
    | succ j=>exact congrArg (· + 1) (ih.2 i j b h1 h2)
def Ag.pin (h:Ag K H Hm ms vs ds as):∀ n,∀ q∈fH ms n as,∃ i,q.1=n + i/\vs[i]?=some (.ref q.2)/\∃ es,(ini ms ds)[i]?=some (some (.ow true,.list es)):=by
 induction h with
 | nil=>exact fun n q h=>by cases h
 | @sh ms vs ds as v d r _ ih =>
  intro n q h;obtain ⟨i,e,h1,h2⟩:=ih (n + 1) q h;exact ⟨i + 1,by lia,h1,h2⟩
 | @mu ms vs ds as a xs es g1 g2 g3 g4 _ ih =>
  intro n q h;have h:q∈(n,a)::fH ms (n + 1) as:=h;rcases Q9.mp h with rfl | h
  ·exact ⟨0,rfl,rfl,es,rfl⟩
  ·obtain ⟨i,e,h1,h2⟩:=ih (n + 1) q h;exact ⟨i + 1,by lia,h1,h2⟩
def Ag.back {H' Hm':Hp}{E:En}(h:Ag K H Hm ms vs ds as):∀ {n:Nat}{us:VO},(∀ q∈fH ms n as,∃ es xs,E[q.1]?=some (some (.ow true,.list es))/\H' q.2=some (.lst xs)/\aA K Hm' xs es/\Hm' q.2=none)->fm ms (E.drop n)=some us->Bk K H' Hm' as us:=by
 induction h with
 | nil=>intro n us _ e;cases e;exact .nil
 | @sh ms vs ds as v d r _ ih =>
  intro n us hq e;cases hE:E.drop n with
  | nil=>rw [hE] at e;cases e
  | cons o E' =>
   rw [hE] at e;refine ih (n:=n + 1) hq ?_;rw [show E.drop (n + 1)=E' from by rw [<- List.tail_drop,hE];rfl]
   exact e
 | @mu ms vs ds as a xs es g1 g2 g3 g4 _ ih =>
  intro n us hq e;obtain ⟨es',xs',e1,e2,e3,e4⟩:=hq (n,a) Q2;cases hE:E.drop n with
  | nil=>rw [hE] at e;cases e
  | cons o E' =>
   have ho:o=some (.ow true,.list es'):=by
    have:=List.getElem?_drop (xs:=E) (i:=n) (j:=0);rw [hE,Nat.add_zero] at this;have e1:E[n]?=_:=e1;rw [e1] at this;exact Option.some.inj this
   subst ho;rw [hE] at e;have e:(fm ms E').map (PyData.list es'::·)=some us:=e;cases hb:fm ms E' with
   | none=>rw [hb] at e;cases e
   | some us' =>
    rw [hb] at e;cases e;refine .cons e2 e3 e4 (ih (n:=n + 1) (fun q hq'=>hq q (Q7 _ hq')) ?_)
    rw [show E.drop (n + 1)=E' from by rw [<- List.tail_drop,hE];rfl]
    exact hb
def CA {n:Nat}(h:n<=U.length):sel (List.range n) U=U.take n:=by
 refine Rx fun i=>?_
 unfold sel;rw [QN,List.getElem?_take]
 by_cases c:i < n
 ·rw [RU c,if_pos c];have l:i < U.length:=by lia
  rw [QV l];show some ((U[i]?).join)=some U[i];rw [QV l];rfl
 ·rw [if_neg c,RG (by rw [QI];lia)]
  rfl
def Ag.rl (h:Ag K H Hm ms vs ds as)(s:ah Hm H) (m:Nat):Rl K ⟨H,Hm,fH ms 0 as⟩ (ini ms ds++List.replicate m none) (vs.map some++List.replicate m none) H Hm (fun i=>(gy ms as)[i]?.getD []):=by
 have hM:Gh.M ⟨H,Hm,fH ms 0 as⟩=as:=h.pins 0;have inE:∀ {i:Nat}{k:Kd}{d:PyData},(ini ms ds++List.replicate m none)[i]?=some (some (k,d))->(ini ms ds)[i]?=some (some (k,d)):=fun {i k d} e=>by
  rcases RL i (ini ms ds).length with l | l
  ·rwa [SW l] at e
  ·rw [S5 l] at e;have:=QX e;have:=List.eq_of_mem_replicate this;cases this
 have inV:∀ {i:Nat}{v:V},vs[i]?=some v->(vs.map some++List.replicate m none)[i]?=some (some v):=fun {i v} e=>by
  have l:=aZ e;rw [SW (by rw [Q8];exact l),QN,e]
  rfl
 exact {
  len:=by rw [QE,QE,h.OP,Q8,Rh,Rh]
  sub:=s
  slot:=fun i k d e=>by
   obtain ⟨v,h1,h2⟩:=h.slot (inE e);exact ⟨v,inV h1,h2⟩
  off:=fun i a ha=>(h.Hi.1 i a ha).2.1
  bH:=fun i a ha=>by
   obtain ⟨_,_,xs,e⟩:=h.Hi.1 i a ha;exact ⟨_,e,mO⟩
  aV:=fun i j a h1 h2=>h.Hi.2 i j a h1 h2
  fr:=fun p o _ e=>e
  new:=fun i a ha=>.inl (by rw [hM];exact (h.Hi.1 i a ha).1)
  pin:=fun q hq=>by
   obtain ⟨i,e,h1,es,h2⟩:=h.pin 0 q hq;rw [Tj] at e;rw [e];refine ⟨inV h1,es,?_⟩;rw [SW (aZ h2)];exact h2
  old:=fun _ _=>.inl rfl }
end
section
variable {P:Program}{w:World}{K:Frag}{mg:VE}{base:Heap}
def bq (ms:VS)(Q:VO->Kd->PyData->Prop)(x:XC):gE where
 nx:=fun E=>aB (fm ms E) fun us=>Q us .sh .none
 rt:=fun E k v=>aB (fm ms E) fun us=>Q us k v
 xc:=x
def bR {f:Addr}{N ps:VX}{k:Nat}{ms:VS}{sp:bD}{d:DS}{m:Nat}(F:sI K x qual st f fd)(S:aM N ps (av st))(hl:ms.length=ps.length)(hm:N.length<=ps.length + m)
  (hb:∀ (cdv:Value)(A:Around)(outer:List Env)(s:Shared)(H:Hp)(Ex:XK),cZ k (A.deeper (PyProof.Rows.envOfC qual (av st) s.heap.objs.size f cdv))->SS (gO (fh P w) P w K mg base N qual (av st) f cdv A outer s H Ex) Ex (iJ st) d)
  (hd:∀ (ds:VO)(Q:VO->Kd->PyData->Prop)(x:XC),sp ds Q x->d (bq ms Q x) (ini ms ds++List.replicate m none)):gj P w K mg base (fh P w) (k + 1) f fd ps (cB mg K ms sp):=by
 refine F.Qd S (fun vs H Q E h=>?_) (fun cdv A outer s H vs Q E hr h=>?_)
 ·obtain ⟨ds,as,Hm,P',x,_,ag,_⟩:=h;rw [ag.yE,hl]
 ·obtain ⟨ds,as,Hm,P',xc,sm,ag,hsp,ret,exn⟩:=h;refine ⟨_,gG,?_⟩;have R:=ag.rl sm m;have hpre:N.length >= vs.length:=by
   rw [ag.yE,hl];have:=congrArg List.length S.pre;rw [Rq] at this;lia
  have hsel:L2.start N vs=sel (List.range N.length) (vs.map some++List.replicate m none):=by
   have hv:vs.length=ps.length:=by rw [ag.yE,hl]
   rw [CA (by rw [QE,Q8,Rh];lia)]
   unfold L2.start;rw [List.take_append,Q8,TF (by rw [Q8];exact hpre),List.take_replicate]
   congr 2;lia
  rw [hsel];have hM:Gh.M ⟨H,Hm,fH ms 0 as⟩=as:=ag.pins 0;have fin:∀ {E':En}{k:Kd}{v:PyData}{u:V}{σ':St}{H' Hm':Hp}{F':Nat->VR}{fp:VR},(aB (fm ms E') fun us=>P' us k v)->Rl K ⟨H,Hm,fH ms 0 as⟩ E' σ' H' Hm' F'->Tm K ⟨H,Hm,fH ms 0 as⟩ F' H' Hm' k u v fp->Q u H':=by
   intro E' k v u σ' H' Hm' F' fp p R' T;rw [<- bB] at p;obtain ⟨us,hus,p⟩:=p;refine ret us k v u H' Hm' fp p (fun a o e=>?_) R'.sub (fun p o hp e=>R'.fr p o (by rw [hM];exact hp) e) (fun a _ ha=>R'.old a ha) ?_ T.own fun a ha=>⟨T.new a ha,T.off a ha⟩
   ·have:H a≠none:=fun z=>by rw [sm _ _ e] at z;cases z
    rcases R'.old a this with e' | ⟨e',_⟩
    ·exact e'.trans e
    ·have e':Hm a=none:=e';rw [e] at e';cases e'
   ·refine ag.back (E:=E') (n:=0) (fun q hq=>?_) (by rw [UW];exact hus)
    obtain ⟨h1,es,h2⟩:=R'.pin q hq;obtain ⟨v',h3,h4⟩:=R'.slot _ _ _ h2;have hF:=R'.A0 hq;rw [h1] at h3;cases h3;rw [hF] at h4;cases h4 with
    | ow e1 e2=>exact ⟨es,_,h2,e1,e2,R'.off q.1 q.2 (by rw [hF];exact Q2)⟩
  refine hb cdv A outer s H E hr ⟨H,Hm,fH ms 0 as⟩ (bq ms P' xc) _ _ H Hm _ _ (fun c d' C a H' hC hx fr ha hn=>exn c d' C a H' hC hx (fun p o hp ho=>fr p o (by rw [hM];exact hp) ho) ha hn) R (hd ds P' xc hsp) (fun E' σ' H' Hm' F' p R' _=>?_) (fun E' k v u σ' H' Hm' F' fp p R' T=>fin p R' T)
  exact fin (k:=.sh) (v:=.none) (u:=.bE) p R' (Tm.sh .bE)
end
section
variable {X:Cx}{Ex:XK}{Y:VV}
def xI {i:Int} {j}:SE X Ex Y (.Constant (.int i) j pos) (dC (.int i)):=BC LI fun _=>.int i
def xS {j}:SE X Ex Y (.Constant (.str x) j pos) (dC (.str x)):=BC ES fun _=>.str x
def xB {b:Bool} {j}:SE X Ex Y (.Constant (.bool b) j pos) (dC (.bool b)):=BC Oo fun _=>.bl b
def xN {j}:SE X Ex Y (.Constant .none j pos) (dC .none):=BC Lf fun _=>.bE
def xV (j:Nat){i:Nat}(hN:X.N[j]?=some x:=by rfl)(hv:mX X.env.scope x:=by first | exact Or.inl rfl | exact Or.inr (Or.inl rfl) | exact Or.inr (Or.inr rfl))(hj:Y[j]?=some i:=by rfl)(hd:(x == ("__debug__":Str))=false:=by decide)
  (hcd:(x == ("__classdict__":Str))=false:=by decide):SE X Ex Y (.Name x pos) (aG i):=Ng (jR hN hv hd hcd) hj
def a0:aU X Ex Y [] []:=.nil
def aP (j:Nat){i:Nat}(S:aU X Ex Y es as)(hN:X.N[j]?=some x:=by rfl)(hv:mX X.env.scope x:=by first | exact Or.inl rfl | exact Or.inr (Or.inl rfl) | exact Or.inr (Or.inr rfl))(hj:Y[j]?=some i:=by rfl)(hd:(x == ("__debug__":Str))=false:=by decide)
  (hcd:(x == ("__classdict__":Str))=false:=by decide):aU X Ex Y (.Name x pos::es) (.pk i::as):=.pk (jR hN hv hd hcd) hj S
def aE (h:SE X Ex Y e d)(S:aU X Ex Y es as):aU X Ex Y (e::es) (.ev d::as):=.ev h S
def lT:DR:=nJ fun i j=>.int (i - j)
def j7:DR:=v7 (fun _ j=>0 < j) fun i j=>.int (i % j)
def uE:DR:=v7 Cm fun i j=>.int (i / j)
def Fw:DR:=v7 Ge fun i j=>.int (i ^ j.toNat)
def Ak:DR:=nJ fun i j=>.bool (decide (i < j))
def PR:DR:=nJ fun i j=>.bool (decide (i<=j))
def yb:DR:=nJ fun i j=>.bool (decide (j < i))
def Ip:DR:=nJ fun i j=>.bool (decide (j<=i))
def O7:DR:=fun ds P=>match ds with
 | [.int a]=>P .sh (.int (-a))
 | _=>False
variable {a b:Expr}{pos:Pos}{as:List Arg}
def gg (S:aU X Ex Y [a,b] as):SE X Ex Y (.BinOp a .Add b pos) (aa dP as):=mW IQ IZ S
def uz (S:aU X Ex Y [a,b] as):SE X Ex Y (.BinOp a .Sub b pos) (aa lT as):=mW K5 (nE fun _ _ _=>.int _) S
def kJ (S:aU X Ex Y [a,b] as):SE X Ex Y (.BinOp a .Mult b pos) (aa gQ as):=mW II J1 S
def mC (S:aU X Ex Y [a,b] as):SE X Ex Y (.BinOp a .Mod b pos) (aa j7 as):=mW L7 (uJ fun _ _ _=>.int _) S
def BG (S:aU X Ex Y [a,b] as):SE X Ex Y (.BinOp a .FloorDiv b pos) (aa uE as):=mW G5 (uJ fun _ _ _=>.int _) S
def O9 (S:aU X Ex Y [a,b] as):SE X Ex Y (.BinOp a .Pow b pos) (aa Fw as):=mW KZ (uJ fun _ _ _=>.int _) S
def IA (hu:X.A.units + 64 < cLine)(S:aU X Ex Y [a,b] as):SE X Ex Y (.Compare a [.Eq] [b] pos) (aa jg as):=yf (DF hu) (jV _) DW S
def Pq (S:aU X Ex Y [a,b] as):SE X Ex Y (.Compare a [.IsNot] [b] pos) (aa (fS true) as):=yf AQ (jV _) wV S
def Ln (hu:X.A.units + 64 < cLine)(S:aU X Ex Y [a,b] as)(hm:behindInMarks .In b=false:=by rfl):SE X Ex Y (.Compare a [.In] [b] pos) (aa (eZ false) as):=yf (CJ hu) hm (um false) S
def IE (S:aU X Ex Y [a,b] as):aW X Ex Y (.Compare a [.Lt] [b] pos) (aa Ak as):=iK BL (jV _) (nE fun _ _ _=>.bl _) S
def De (S:aU X Ex Y [a,b] as):aW X Ex Y (.Compare a [.Gt] [b] pos) (aa yb as):=iK Ot (jV _) (nE fun _ _ _=>.bl _) S
def OI (S:aU X Ex Y [a,b] as):aW X Ex Y (.Compare a [.GtE] [b] pos) (aa Ip as):=iK NV (jV _) (nE fun _ _ _=>.bl _) S
def xJ (hu:X.A.units + 64 < cLine)(S:aU X Ex Y [a,b] as):aW X Ex Y (.Compare a [.Eq] [b] pos) (aa jg as):=iK (DF hu) (jV _) DW S
def oW (hu:X.A.units + 64 < cLine)(S:aU X Ex Y [a,b] as):aW X Ex Y (.Compare a [.NotEq] [b] pos) (aa jN as):=iK (KJ hu) (jV _) LH S
def Pg (S:aU X Ex Y [a,b] as):aW X Ex Y (.Compare a [.IsNot] [b] pos) (aa (fS true) as):=iK AQ (jV _) wV S
def CQ (hu:X.A.units + 64 < cLine)(S:aU X Ex Y [a,b] as)(hm:behindInMarks .In b=false:=by rfl):aW X Ex Y (.Compare a [.In] [b] pos) (aa (eZ false) as):=iK (CJ hu) hm (um false) S
def G7 (hu:X.A.units + 64 < cLine)(S:aU X Ex Y [a,b] as)(hm:behindInMarks .NotIn b=false:=by rfl):aW X Ex Y (.Compare a [.NotIn] [b] pos) (aa (eZ true) as):=iK (CT hu) hm (um true) S
def yR (h:SE X Ex Y e d)(he:∀ whole,isTrue e X.env whole=(do let v <- whole;standAt e.pos;holding [v] (truthy v)):=by intro _;rfl):aW X Ex Y e d:=h.Aq he
def tV (j:Nat){i:Nat}(hN:X.N[j]?=some x:=by rfl)(hv:mX X.env.scope x:=by first | exact Or.inl rfl | exact Or.inr (Or.inl rfl) | exact Or.inr (Or.inr rfl))(hj:Y[j]?=some i:=by rfl)(hd:(x == ("__debug__":Str))=false:=by decide)
  (hcd:(x == ("__classdict__":Str))=false:=by decide):ST X Ex Y (.Name x pos) (Av i):=O0 (jR hN hv hd hcd) hj fun _=>rfl
def cJ (hu:X.A.units + 64 < cLine)(S:aU X Ex Y [a,b] as)(hs:mK b:=by intro _ _;rfl):SE X Ex Y (.Subscript a b pos) (aa bg as):=Om (Pe hu) hs Kv S
variable {p:Pos}
def iC (hm:X.mg "len"=none)(S:aU X Ex Y [a] as)(hg:Gl X "len":=by rfl)(ns:noStar a=true:=by rfl):SE X Ex Y (.Call (.Name "len" p) [a] [] pos) (aa cU as):=fB (yC.or Eu) G4 hg hm PySem.boot_len (by decide) (by decide) (by rw [QM,ns];rfl) S
def v8 (hm:X.mg "list"=none)(S:aU X Ex Y [a] as)(hg:Gl X "list":=by rfl)(ns:noStar a=true:=by rfl):SE X Ex Y (.Call (.Name "list" p) [a] [] pos) (aa kj as):=oS xw FY hg hm PyProof.Rows.boot_list (by decide) (by decide) (by rw [QM,ns];rfl) S
def Mi (hm:X.mg "tuple"=none)(S:aU X Ex Y [a] as)(hg:Gl X "tuple":=by rfl)(ns:noStar a=true:=by rfl):SE X Ex Y (.Call (.Name "tuple" p) [a] [] pos) (aa mR as):=oS vU Ew hg hm PyProof.Rows.boot_tuple (by decide) (by decide) (by rw [QM,ns];rfl) S
def Ll (hm:X.mg "min"=none)(S:aU X Ex Y [a,b] as)(hc:X.calm=true:=by rfl)(hg:Gl X "min":=by rfl)(ns:noStar a=true:=by rfl)(ns2:noStar b=true:=by rfl):SE X Ex Y (.Call (.Name "min" p) [a,b] [] pos) (aa wm as):=fB (CU hc) HG hg hm PyProof.Rows.boot_min (by decide) (by decide) (by rw [QM,QM,ns,ns2];rfl) S
def Gw (hm:X.mg "max"=none)(S:aU X Ex Y [a,b] as)(hc:X.calm=true:=by rfl)(hg:Gl X "max":=by rfl)(ns:noStar a=true:=by rfl)(ns2:noStar b=true:=by rfl):SE X Ex Y (.Call (.Name "max" p) [a,b] [] pos) (aa tZ as):=fB (CP hc) HG hg hm PyProof.Rows.boot_max (by decide) (by decide) (by rw [QM,QM,ns,ns2];rfl) S
def Nt (hm:X.mg "max"=none)(S:aU X Ex Y [a] as)(hc:X.calm=true:=by rfl)(hg:Gl X "max":=by rfl)(ns:noStar a=true:=by rfl):SE X Ex Y (.Call (.Name "max" p) [a] [] pos) (aa we as):=fB (D7 hc) FN hg hm PyProof.Rows.boot_max (by decide) (by decide) (by rw [QM,ns];rfl) S
def OR (hm:X.mg "abs"=none)(S:aU X Ex Y [a] as)(hg:Gl X "abs":=by rfl)(ns:noStar a=true:=by rfl):SE X Ex Y (.Call (.Name "abs" p) [a] [] pos) (aa wR as):=fB Gs Ks hg hm PyProof.Rows.boot_abs (by decide) (by decide) (by rw [QM,ns];rfl) S
def OW (hm:X.mg "int"=none)(S:aU X Ex Y [a] as)(hg:Gl X "int":=by rfl)(ns:noStar a=true:=by rfl):SE X Ex Y (.Call (.Name "int" p) [a] [] pos) (aa mP as):=oS EX Cw hg hm PyProof.Rows.boot_int (by decide) (by decide) (by rw [QM,ns];rfl) S
def Na (hm:X.mg "any"=none)(S:aU X Ex Y [a] as)(hc:X.calm=true:=by rfl)(hg:Gl X "any":=by rfl)(ns:noStar a=true:=by rfl):SE X Ex Y (.Call (.Name "any" p) [a] [] pos) (aa wQ as):=fB (EI hc) IG hg hm PyProof.Rows.boot_any (by decide) (by decide) (by rw [QM,ns];rfl) S
def O5 (hm:X.mg "all"=none)(S:aU X Ex Y [a] as)(hc:X.calm=true:=by rfl)(hg:Gl X "all":=by rfl)(ns:noStar a=true:=by rfl):SE X Ex Y (.Call (.Name "all" p) [a] [] pos) (aa BA as):=fB (EM hc) IW hg hm PyProof.Rows.boot_all (by decide) (by decide) (by rw [QM,ns];rfl) S
def oJ (hm:X.mg "sorted"=none)(S:aU X Ex Y [a] as)(hg:Gl X "sorted":=by rfl)(ns:noStar a=true:=by rfl):SE X Ex Y (.Call (.Name "sorted" p) [a] [] pos) (aa jT as):=fB yM Co hg hm V1 (by decide) (by decide) (by rw [QM,ns];rfl) S
def ya (h1:X.mg "list"=none)(h2:X.mg "range"=none)(S:aU X Ex Y [a] as)(hc:X.calm=true:=by rfl)(g1:Gl X "list":=by rfl)(g2:Gl X "range":=by rfl)(ns:noStar a=true:=by rfl):SE X Ex Y (.Call (.Name "list" p) [.Call (.Name "range" p2) [a] [] pos2] [] pos) (aa jM as):=GG hc g1 h1 g2 h2 ns S
def b9 (S:aU X Ex Y es as)(ns:es.all noStar=true:=by rfl):SE X Ex Y (.List es pos) (aa bS as):=KD ns S
def ni {k:Nat}(S:aU X Ex Y es as)(ns:es.all noStar=true:=by rfl):SE X Ex Y (.Tuple es k pos) (aa ie as):=Ld ns S
variable {tg:Expr}
def wG (hm:X.mg "range"=none)(S:aU X Ex Y [a] as)(hg:Gl X "range":=by rfl)(ns:noStar a=true:=by rfl):SI X Ex Y tg (.Call (.Name "range" p) [a] [] pos) (mE oj as):=N1 hg hm ns S
def Qo (hm:X.mg "range"=none)(S:aU X Ex Y [a,b] as)(hg:Gl X "range":=by rfl)(ns:noStar a=true:=by rfl)(ns2:noStar b=true:=by rfl):SI X Ex Y tg (.Call (.Name "range" p) [a,b] [] pos) (mE Dp as):=Nn hg hm ns ns2 S
def G8 {x1:Nat}(hm:X.mg "enumerate"=none)(h:SE X Ex Y a d)(hg:Gl X "enumerate":=by rfl)(ns:noStar a=true:=by rfl):SI X Ex Y (.Tuple elts x1 tp) (.Call (.Name "enumerate" p) [a] [] pos) (vt d):=Og hg hm ns h
def gN (j:Nat){i:Nat}(hN:X.N[j]?=some x:=by rfl)(hj:Y[j]?=some i:=by rfl)(hl:Loc X.env.scope x:=by first | exact Or.inl rfl | exact Or.inr rfl)(hf:X.fn x=true\/X.env.scope.names.lookup x=some .local:=by first | exact Or.inl rfl | exact Or.inr rfl):eK X Y (.Name x p) (.nm i):=.nm hN hj hl hf
def g0:kI X Y [] []:=.nil
def gC (j:Nat){i:Nat}(t:kI X Y ts is)(hN:X.N[j]?=some x:=by rfl)(hj:Y[j]?=some i:=by rfl)(hl:Loc X.env.scope x:=by first | exact Or.inl rfl | exact Or.inr rfl)(hf:X.fn x=true\/X.env.scope.names.lookup x=some .local:=by first | exact Or.inl rfl | exact Or.inr rfl):kI X Y (.Name x p::ts) (i::is):=.cons hN hj hl hf t
def gT {k:Nat}(t:kI X Y ts is):eK X Y (.Tuple ts k p) (.tp is):=.tp t
def BP:Passes (fh X.prog X.w) X E0:=by
 rintro pins U H s e s' I ⟨_,_,_,_,_,_,_,_,_,_,_,_,_,_,z⟩;exact z.elim
def aJ {k k':Nat}(F:bV X.prog X.w X.K X.mg X.base k x ps (cB X.mg X.K ms sp))(hp:Passes (fh X.prog X.w) X Ex)(hr:cZ k' X.A)(S:aU X Ex Y (e::es) as)(hk:k<=k':=by decide)(hg:Gl X x:=by rfl)(hd:(x == ("__debug__":Str))=false:=by decide)
  (ns:(e::es).all noStar=true:=by rfl):SE X Ex Y (.Call (.Name x p) (e::es) [] pos) (aD sp ms as):=JH F hp (hr.mono hk) hg hd ns S
def cz (h:SE X Ex (aH X) a d):S1 X Ex (.Return (some a) pos) (bY d):=N4 h
def lK (i:Nat)(hN:X.N[i]?=some x:=by rfl)(hv:mX X.env.scope x:=by first | exact Or.inl rfl | exact Or.inr (Or.inl rfl) | exact Or.inr (Or.inr rfl))(hd:(x == ("__debug__":Str))=false:=by decide)
  (hcd:(x == ("__classdict__":Str))=false:=by decide):S1 X Ex (.Return (some (.Name x p)) pos) (iL i):=La (jR hN hv hd hcd) (aZ hN)
def iU (h:SE X Ex (aH X) a d)(hs:swapsWith a none pos.line X.env=pure false:=by rfl):S1 X Ex (.Expr a pos) (fU d):=MF h hs
def aQ (i:Nat)(hN:X.N.Nodup)(h:SE X Ex (aH X) a d)(hi:X.N[i]?=some x:=by rfl)(hl:Loc X.env.scope x:=by first | exact Or.inl rfl | exact Or.inr rfl)(hs:swapsWith a (some (.Name x p)) pos.line X.env=pure false:=by rfl)(hf:X.fn x=true\/X.env.scope.names.lookup x=some .local:=by first | exact Or.inl rfl | exact Or.inr rfl) :
  S1 X Ex (.Assign [.Name x p] a pos) (aC i d):=Oa hN hi hl hs hf h
def yX {k:Nat}(hN:X.N.Nodup)(ht:kI X (aH X) ts is)(h:SE X Ex (aH X) a d)(hc:X.calm=true:=by rfl)(hs:swapsWithSole [.Tuple ts k p] a pos.line X.env=pure false:=by rfl)(hw:swappedStores [.Tuple ts k p] a X.env=pure none:=by rfl):S1 X Ex (.Assign [.Tuple ts k p] a pos) (pB is d):=Nz hc hN ht hs hw h
def FL (i:Nat)(hu:X.A.units + 64 < cLine)(hd:SE X Ex (aH X) a de)(hd2:SE X Ex (aH X) b dj)(hN:X.N[i]?=some x:=by rfl)(hv:mX X.env.scope x:=by first | exact Or.inl rfl | exact Or.inr (Or.inl rfl) | exact Or.inr (Or.inr rfl))(hs:swapsWithSole [.Subscript (.Name x p) b pos'] a pos.line X.env=pure false:=by rfl)
  (ha:∀ v,assign (.Subscript (.Name x p) b pos') X.env v=(do
   let ov <- holding [v] (eval (.Name x p) X.env)
   let iv <- holding [v,ov] (eval b X.env)
   standAt pos'
   holding [v,ov,iv] (setItem ov iv v)
   release [v,ov,iv] []):=by intro _;rfl)(hb:(x == ("__debug__":Str))=false:=by decide)(hcd:(x == ("__classdict__":Str))=false:=by decide):S1 X Ex (.Assign [.Subscript (.Name x p) b pos'] a pos) (lP i dj de):=Nk hu (jR hN hv hb hcd) (fP (aZ hN)) hs ha hd hd2
def fZ (hc:ST X Ex (aH X) a t)(ha:SS X Ex u d)(hb:SS X Ex v e):S1 X Ex (.If a u v pos) (cK t d e):=O8 hc ha hb
def K0 (hp:PassesOwn (model X.prog X.w) X.A X.env X.xe)(hc:ST X Ex (aH X) a t)(hb:SS X Ex u d):S1 X Ex (.While a u [] pos) (wC t d):=IS hp hc hb
def gP (hp:PassesOwn (model X.prog X.w) X.A X.env X.xe)(hN:X.N.Nodup)(hi:SI X Ex (aH X) tg a di)(ht:eK X (aH X) tg t)(hb:SS X Ex u d)(hc:X.calm=true:=by rfl)(hs:∀ x,foldedSetIterable a X.env x=pure x:=by intro _;rfl):S1 X Ex (.For tg a u [] pos) (eN di t d):=Nr hp hc hN hi ht hb hs
end
section
variable {X:Cx}{Ex:XK}{Y:VV}
def e0:qE X Ex Y [] []:=.nil
def eC (h:SE X Ex Y e d)(t:qE X Ex Y es ds):qE X Ex Y (e::es) (d::ds):=.cons h t
def xM (j:Nat){i:Nat}{x name:Str}{id:String}{p apos cpos:Pos}{es:VT}{ds:List DE}{f:DM}{r:V->List V->Hp->VK->Prop}(hm:sN X id r)(D:xX X.K f r)(slot:Slot "list" name id)(hty:typeOf (.builtin id)=pure (.type "method_descriptor"))(S:qE X Ex Y es ds)
  (hN:X.N[j]?=some x:=by rfl)(hv:mX X.env.scope x:=by first | exact Or.inl rfl | exact Or.inr (Or.inl rfl) | exact Or.inr (Or.inr rfl))(hj:Y[j]?=some i:=by rfl)(ns:es.all noStar=true:=by rfl)(l30:decide (es.length < 30)=true:=by rfl)(hline:(apos.endLine == cpos.line)=true:=by rfl)(hd:(x == ("__debug__":Str))=false:=by decide)
  (hcd:(x == ("__classdict__":Str))=false:=by decide):SE X Ex Y (.Call (.Attribute (.Name x p) name apos) es [] cpos) (pF f i ds):=NI hm D slot hty (jR hN hv hd hcd) hj ns (QS l30) hline S
def j8:VV->Bool
 | []=>true
 | a::r=>!r.contains a && j8 r
theorem gw:∀ {l:VV},j8 l=true->l.Nodup
 | [],_=>SA
 | a::r,h=>by
  rw [j8,QC,UZ,SQ,V2] at h;exact R8.mpr ⟨h.1,gw h.2⟩
def uZ (Y cs ix:VV)(vs:VX)(sl:VV):Bool:=(cs.length == vs.length) && ix.all (fun i=>Nat.blt i Y.length) && cs.all (fun c=>!Y.contains c) && j8 (bw Y cs ix) && sl.all (fun i=>cs.contains i)
def sO (h:uZ Y cs ix vs sl=true):cs.length=vs.length/\(∀ i∈ix,i < Y.length)/\(∀ c∈cs,c∉Y)/\(bw Y cs ix).Nodup/\∀ i∈sl,i∈cs:=by
 unfold uZ at h;rw [QC,QC,QC,QC,QK,QK,QK,beq_iff_eq] at h;obtain ⟨⟨⟨⟨h1,h2⟩,h3⟩,h4⟩,h5⟩:=h;refine ⟨h1,fun i hi=>by simpa using h2 i hi,fun c hc z=>?_,gw h4,fun i hi=>?_⟩
 ·have:=h3 c hc;rw [UZ,SQ,V2] at this;exact this z
 ·have:=h5 i hi;rw [SQ,RS] at this;exact this
def CH (r:VD):Bool:=r.all fun g=>g.is_async == 0
def sE (h:CH r=true):∀ g∈r,g.is_async=0:=fun g hg=>by
 have:=QK.mp h g hg
 simpa using this
variable {cs:VV}{elt tg iter:Expr}{ifs:VT}{scope:Scope}{pos:Pos}
def cX {rest:VD}{vs NB:VX}{ix:VV}{di:DI}{t:Tg}{c:DT}{r:DC}(B:mD X.N X.env.scope scope vs NB ix=true)(hi:SI X Ex Y tg iter di)(ht:∀ (C:Addr)(s:Shared)(H:Hp)(fp:VR),eK (X.block scope C NB s H fp) (bw Y cs ix) tg t)
  (hif:∀ (C:Addr)(s:Shared)(H:Hp)(fp:VR),gM (X.block scope C NB s H fp) E0 (bw Y cs ix) ifs c)(hr:∀ (C:Addr)(s:Shared)(H:Hp)(fp:VR)(D:Addr),SL (X.block scope C NB s H fp) (bw Y cs ix) cs D elt (⟨tg,iter,ifs,0⟩:: rest) scope pos 1 r)
  (hc:X.calm=true:=by rfl)(ck:uZ Y cs ix vs t.slots=true:=by rfl)(ha:CH rest=true:=by rfl)(hs:∀ v,foldedSetIterable iter X.env v=pure v:=by intro _;rfl):SE X Ex Y (.ListComp elt (⟨tg,iter,ifs,0⟩:: rest) scope pos) (aO cs di t c r) :=
 let ⟨h1,h2,h3,h4,h5⟩:=sO ck
 K9 (cC.of B) hc h1 h2 h3 h4 hi ht h5 hif hr (sE ha) hs
def w5 {j:Nat}{y:Str}{py spos:Pos}{rest:VD}{vs NB:VX}{ix:VV}{di:DI}{t:Tg}{c:DT}{r:DC}(hN:X.N.Nodup)(B:mD X.N X.env.scope scope vs NB ix=true)(hi:SI X Ex (aH X) tg iter di)(ht:∀ (C:Addr)(s:Shared)(H:Hp)(fp:VR),eK (X.block scope C NB s H fp) (bw (aH X) cs ix) tg t)
  (hif:∀ (C:Addr)(s:Shared)(H:Hp)(fp:VR),gM (X.block scope C NB s H fp) E0 (bw (aH X) cs ix) ifs c)(hr:∀ (C:Addr)(s:Shared)(H:Hp)(fp:VR)(D:Addr),SL (X.block scope C NB s H fp) (bw (aH X) cs ix) cs D elt (⟨tg,iter,ifs,0⟩:: rest) scope pos 1 r)
  (hj:X.N[j]?=some y:=by rfl)(hy:X.env.scope.names.lookup y=some .local:=by rfl)(hsw:swapsWith (.ListComp elt (⟨tg,iter,ifs,0⟩:: rest) scope pos) (some (.Name y py)) spos.line X.env=pure true:=by rfl)
  (hc:X.calm=true:=by rfl)(ck:uZ (aH X) cs ix vs t.slots=true:=by rfl)(ha:CH rest=true:=by rfl)(hs:∀ v,foldedSetIterable iter X.env v=pure v:=by intro _;rfl):S1 X Ex (.Assign [.Name y py] (.ListComp elt (⟨tg,iter,ifs,0⟩:: rest) scope pos) spos) (aC j (aO cs di t c r)) :=
 let ⟨h1,h2,h3,h4,h5⟩:=sO ck
 Np hN hj hy (cC.of B) hc h1 h2 h3 h4 hi ht h5 hif hr (sE ha) hs hsw
def uQ (N:VX)(fs scope:Scope) (x:Str)(vs NB:VX)(ix:VV):Bool :=
 decide (scope.kind=.function) && scope.names.all (fun y=>decide (y.2≠.cell) || decide (y.1=x)) && scope.names.all (fun y=>decide (y.2≠.local) || decide (scope.names.lookup y.1=some .local)) &&
 scope.names.all (fun y=>decide (y.2≠.free) || (decide (y.1≠x) && (decide (fs.names.lookup y.1=some .cell) || decide (fs.names.lookup y.1=some .free)))) && decide (scope.names.lookup x=some .cell) &&
 decide (NB=vs++ix.map fun i=>N.getD i "") && decide NB.Nodup && ix.all fun i=>match N[i]? with | some y=>decide (scope.names.lookup y=some .free) | none=>false
def dB.of (h:uQ X.N X.env.scope scope x vs NB ix=true)(cf:∀ (n:Nat)(acc:List (Str×Addr)),cellsFrom n scope.names acc=(x,n)::acc)(pc:∀ h:Heap,pushCells h scope.names=h.push qu):dB X scope x vs NB ix:=by
 unfold uQ at h;simp only [QC] at h;obtain ⟨⟨⟨⟨⟨⟨⟨h1,h2⟩,h3⟩,h4⟩,h5⟩,h6⟩,h7⟩,h8⟩:=h;refine ⟨QS h1,fun y hy e=>?_,fun y hy e=>?_,fun y hy=>?_,fun hy=>?_,QS h5,QS h6,QS h7,fun i hi=>?_,cf,pc⟩
 ·have z:=QK.mp h2 y hy;rw [SJ] at z;exact z.elim (fun z=>absurd e (QS z)) fun z=>QS z
 ·have z:=QK.mp h3 y hy;rw [SJ] at z;exact z.elim (fun z=>absurd e (QS z)) fun z=>QS z
 ·have z:=QK.mp h4 _ hy;rw [SJ,QC,SJ] at z;exact z.elim (fun z=>absurd rfl (QS z)) fun z=>z.2.imp QS QS
 ·have z:=QK.mp h4 _ hy;rw [SJ,QC] at z;exact z.elim (fun z=>absurd rfl (QS z)) fun z=>absurd rfl (QS z.1)
 ·have z:=QK.mp h8 i hi;split at z
  ·rename_i y e;exact ⟨y,e,QS z⟩
  ·cases z
def FT {cx:Str}{rest:VD}{vs NB:VX}{ix:VV}{di:DI}{t:Tg}{c:DT}{r:DC}(B:uQ X.N X.env.scope scope cx vs NB ix=true)(hi:SI X Ex Y tg iter di)(ht:∀ (C c':Addr)(s:Shared)(H:Hp)(fp:VR),eK (X.aS scope cx C c' NB s H fp) (bw Y cs ix) tg t)
  (hif:∀ (C c':Addr)(s:Shared)(H:Hp)(fp:VR),gM (X.aS scope cx C c' NB s H fp) E0 (bw Y cs ix) ifs c)(hr:∀ (C c':Addr)(s:Shared)(H:Hp)(fp:VR)(D:Addr),SL (X.aS scope cx C c' NB s H fp) (bw Y cs ix) cs D elt (⟨tg,iter,ifs,0⟩:: rest) scope pos 1 r)
  (cf:∀ (n:Nat)(acc:List (Str×Addr)),cellsFrom n scope.names acc=(cx,n)::acc:=by intro _ _;rfl)(pc:∀ h:Heap,pushCells h scope.names=h.push qu:=by intro _;rfl)
  (hc:X.calm=true:=by rfl)(ck:uZ Y cs ix vs t.slots=true:=by rfl)(ha:CH rest=true:=by rfl)(hs:∀ v,foldedSetIterable iter X.env v=pure v:=by intro _;rfl):SE X Ex Y (.ListComp elt (⟨tg,iter,ifs,0⟩:: rest) scope pos) (aO cs di t c r) :=
 let ⟨h1,h2,h3,h4,h5⟩:=sO ck
 Lh (dB.of B cf pc) hc h1 h2 h3 h4 hi ht h5 hif hr (sE ha) hs
def bA {D:Addr}{k:Nat}(h:SE X E0 Y elt d)(hk:gens[k]?=none:=by rfl):SL X Y cs D elt gens scope pos k (aT sizeLine d):=Jz h hk
def Bd:VX->Bool
 | []=>true
 | a::r=>!r.contains a && Bd r
theorem As:∀ {l:VX},Bd l=true->l.Nodup
 | [],_=>SA
 | a::r,h=>by
  rw [Bd,QC,UZ,SQ,V2] at h;exact R8.mpr ⟨h.1,As h.2⟩
def L0 {D:Addr}{k:Nat}(hi:SI X E0 Y tg iter di)(ht:eK X Y tg t)(hif:gM X E0 Y ifs c)(hr:SL X Y cs D elt gens scope pos (k + 1) r)(hc:X.calm=true:=by rfl)(hN:Bd X.N=true:=by rfl)(nd:j8 Y=true:=by rfl)(hts:(t.slots.all fun i=>cs.contains i)=true:=by rfl)
  (hk:gens[k]?=some ⟨tg,iter,ifs,0⟩:=by rfl)(ha:CH gens=true:=by rfl)(hs:∀ v,foldedSetIterable iter X.env v=pure v:=by intro _;rfl):SL X Y cs D elt gens scope pos k (AL di t c r) :=
 Mf hc (As hN) (gw nd) hi ht (fun i hi=>by
  have:=QK.mp hts i hi;rw [SQ,RS] at this;exact this) hif hr hk (sE ha) hs
def Ir {i:Nat}(ho:Et X op (Mc f))(hN:X.N.Nodup)(hi:X.N[i]?=some x)(hl:Loc X.env.scope x)(hf:X.fn x=true\/X.env.scope.names.lookup x=some .local)(h:SE X Ex (aH X) e d):S1 X Ex (.AugAssign (.Name x pos') op e pos) (uH f i d):=by
 intro g D' E U H Hm F D hx R p nx rt
 replace p:bK (here E i) _:=p
 rw [dH] at p;obtain ⟨hh,p⟩:=p;obtain ⟨v0,hv0⟩:=jW R hh;refine WS.of (Fd hN hi hl bP ho hf) ⟨v0,eX (fP (aZ hi)) hv0,h g D'.xc E U H Hm F _ _ hx R p fun E' k v u H' Hm' F' fp p' R' s' T=>?_⟩
 replace p':Ey f E' i v D'.nx:=p'
 unfold Ey at p';split at p'
 rotate_left
 ·exact p'.elim
 rename_i k' a e1;rw [<- HU] at p';obtain ⟨b,rfl,p'⟩:=p';obtain ⟨v1,h1,h2⟩:=R'.slot i _ _ e1;rw [hv0] at h1;cases h1;cases h2.int;cases T.own.int;refine ⟨a,b,rfl,rfl,?_⟩;have ho:bL E' i=true:=by
  unfold bL;rw [e1];cases k' with
  | sh=>rfl
  | _=>cases h2
 show D.nx ((sel (aH X) U).set i (some _)) H';rw [jr Ri (fP (aZ hi)) (R'.len ▸ gu ho)];exact nx _ _ _ _ _ p' (R'.put (Tm.sh (.int _)) ho) s'
def JW (i:Nat)(hN:X.N.Nodup)(h:SE X Ex (aH X) e d)(hi:X.N[i]?=some x:=by rfl)(hl:Loc X.env.scope x:=by first | exact Or.inl rfl | exact Or.inr rfl)(hf:X.fn x=true\/X.env.scope.names.lookup x=some .local:=by first | exact Or.inl rfl | exact Or.inr rfl):S1 X Ex (.AugAssign (.Name x pos') .Add e pos) (uH (· + ·) i d):=Ir Mq hN hi hl hf h
def J6 (i:Nat)(hN:X.N.Nodup)(h:SE X Ex (aH X) e d)(hi:X.N[i]?=some x:=by rfl)(hl:Loc X.env.scope x:=by first | exact Or.inl rfl | exact Or.inr rfl)(hf:X.fn x=true\/X.env.scope.names.lookup x=some .local:=by first | exact Or.inl rfl | exact Or.inr rfl):S1 X Ex (.AugAssign (.Name x pos') .Sub e pos) (uH (· - ·) i d):=Ir Lx hN hi hl hf h
def zk:PyData->Option String
 | .none=>some "NoneType"
 | .bool _=>some "bool"
 | .int _=>some "int"
 | .str _=>some "str"
 | .list _=>some "list"
 | .tuple _=>some "tuple"
 | .dict _=>none
def lR (c t:String):Bool:=t == c || (c == "int" && t == "bool")
def P0 (c:String):DR:=fun ds P=>match ds with
 | [d]=>aB (zk d) fun t=>P .sh (.bool (lR c t))
 | _=>False
end
end Dv
namespace Dv
open PySem L2 PySem.W
open Classical in
def Gh.iu (g:Gh)(H:Hp)(fp:VR):Gh:=⟨fun a=>if a∈fp then H a else g.H0 a,fun a=>if a∈fp then none else g.ji a,g.pins⟩
section
variable {K:Frag}{g:Gh}{E:En}{U:St}{H H' Hm Hm':Hp}{F:Nat->VR}{fp:VR}
def mU {a:Addr}(h:a∈fp):(g.iu H fp).H0 a=H a:=by unfold Gh.iu;exact if_pos h
def iF {a:Addr}(h:a∉fp):(g.iu H fp).H0 a=g.H0 a:=by unfold Gh.iu;exact if_neg h
def El {a:Addr}(h:a∈fp):(g.iu H fp).ji a=none:=by unfold Gh.iu;exact if_pos h
def zR {a:Addr}(h:a∉fp):(g.iu H fp).ji a=g.ji a:=by unfold Gh.iu;exact if_neg h
structure qD (g:Gh)(F:Nat->VR)(H Hm:Hp)(fp:VR):Prop where
 Am:∀ a∈fp,∃ u,H a=some u/\qR u
 off:∀ a∈fp,Hm a=none
 aV:∀ a∈fp,∀ i,a∉F i
 new:∀ a∈fp,g.H0 a=none
def qD.bH (A:qD g F H Hm fp):∀ a∈fp,H a≠none:=fun a ha z=>by
 obtain ⟨u,hu,_⟩:=A.Am a ha;rw [z] at hu;cases hu
def qD.notM (A:qD g F H Hm fp)(R:Rl K g E U H Hm F):∀ a∈fp,a∉g.M:=fun a ha m=>by
 obtain ⟨q,hq,rfl⟩:=QB.mp m;exact A.aV _ ha q.1 (by rw [R.A0 hq];exact Q2)
theorem Rl.iu (R:Rl K g E U H Hm F)(A:qD g F H Hm fp):Rl K (g.iu H fp) E U H Hm F where
 len:=R.len
 sub:=R.sub
 slot:=R.slot
 off:=R.off
 bH:=R.bH
 aV:=R.aV
 fr:=fun p o hp ho=>by
  by_cases c:p∈fp
  ·rw [mU c] at ho;exact ho
  ·rw [iF c] at ho;exact R.fr p o hp ho
 new:=fun i a ha=>by
  have c:a∉fp:=fun z=>A.aV a z i ha
  rw [iF c];exact R.new i a ha
 pin:=R.pin
 old:=fun a ha=>by
  by_cases c:a∈fp
  ·rw [El c];exact .inl (A.off a c)
  ·rw [iF c] at ha;rw [zR c];exact R.old a ha
def Rl.xO {F':Nat->VR}(A:qD g F H Hm fp)(nM:∀ a∈fp,a∉g.M)(R:Rl K (g.iu H fp) E' σ' H' Hm' F'):Rl K g E' σ' H' Hm' F'/\qD g F' H' Hm' fp/\∀ a∈fp,H' a=H a:=by
 have keep:∀ a∈fp,H' a=H a:=fun a ha=>by
  cases e:H a with
  | none=>exact absurd e (A.bH a ha)
  | some o=>exact R.fr a o (nM a ha) (by rw [mU ha];exact e)
 refine ⟨?_,⟨fun a ha=>by rw [keep a ha];exact A.Am a ha,fun a ha=>?_,fun a ha i z=>?_,A.new⟩,keep⟩
 ·exact {
   len:=R.len
   sub:=R.sub
   slot:=R.slot
   off:=R.off
   bH:=R.bH
   aV:=R.aV
   fr:=fun p o hp ho=>by
    have c:p∉fp:=fun z=>by rw [A.new p z] at ho;cases ho
    exact R.fr p o hp (by rw [iF c];exact ho)
   new:=fun i a ha=>by
    rcases R.new i a ha with m | m
    ·exact .inl m
    ·by_cases c:a∈fp
     ·exact .inr (A.new a c)
     ·rw [iF c] at m;exact .inr m
   pin:=R.pin
   old:=fun a ha=>by
    have c:a∉fp:=fun z=>ha (A.new a z)
    have h':=R.old a (by rw [iF c];exact ha)
    rw [zR c] at h';exact h' }
 ·have h':=R.old a (by rw [mU ha];exact A.bH a ha)
  obtain ⟨u,hu,nt⟩:=A.Am a ha;exact h'.off (El ha) R.sub (by rw [keep a ha];exact hu) nt
 ·rcases R.new i a z with m | m
  ·exact nM a ha m
  ·rw [mU ha] at m;exact A.bH a ha m
theorem eF.snoc {xs:List V}{ds:VO}{b:Addr}{ys:List V}{es:VO}(e:H b=some (.lst ys))(r:aA K Hm ys es):∀ {xs:List V}{ds:VO}{fp:VR},eF K H Hm xs ds fp->b∉fp->eF K H Hm (xs++[.ref b]) (ds++[.list es]) (fp++[b])
 | _,_,_,.nil,n=>.own e r n .nil
 | _,_,_,.kU h1 h2 t,n=>.kU h1 h2 (t.snoc (xs:=xs) (ds:=ds) e r n)
 | _,_,_,.own h1 h2 h3 t,n=>.own h1 h2 (fun z=>by
   rcases QA.mp z with z | z
   ·exact h3 z
   ·exact n (QF.mp z ▸ Q2)) (t.snoc (xs:=xs) (ds:=ds) e r fun z=>n (Q7 _ z))
theorem eF.get:∀ {xs:List V}{ds:VO}{fp:VR}{m:Nat},eF K H Hm xs ds fp->ds[m]?=some (.list es)->∃ b ys,xs[m]?=some (.ref b)/\H b=some (.lst ys)/\aA K Hm ys es/\b∈fp
 | _,_,_,_,.nil,h=>by simp at h
 | _,_,_,0,.kU e _ _,h=>by
  simp at h;rw [h] at e;cases e
 | _,_,_,m + 1,.kU _ _ t,h=>t.get (m:=m) (by simpa using h)
 | _,_,_,0,.own e r _ _,h=>by
  simp at h;subst h;exact ⟨_,_,rfl,e,r,Q2⟩
 | _,_,_,m + 1,.own _ _ _ t,h=>by
  obtain ⟨b,ys,h1,h2,h3,h4⟩:=t.get (m:=m) (by simpa using h)
  exact ⟨b,ys,h1,h2,h3,Q7 _ h4⟩
theorem eF.put {b:Addr}(r:aA K Hm ys new):∀ {xs:List V}{ds:VO}{fp:VR}{m:Nat},eF K H Hm xs ds fp->xs[m]?=some (.ref b)->(∃ es,ds[m]?=some (.list es))->eF K (upd H b (.lst ys)) Hm xs (ds.set m (.list new)) fp
 | _,_,_,_,.nil,h,_=>by simp at h
 | _,_,_,0,.kU e _ _,_,⟨es,h⟩=>by
  simp at h;rw [h] at e;cases e
 | _,_,_,m + 1,.kU e h2 t,h,⟨es,h'⟩=>.kU e h2 (t.put (m:=m) r (by simpa using h) ⟨es,by simpa using h'⟩)
 | _,_,_,0,.own (b:=b') e r' n t,h,_=>by
  simp at h;subst h;exact .own aL r n (t.step (ah.refl _) fun a ha=>au fun z=>n (z ▸ ha))
 | _,_,_,m + 1,.own (b:=b') (fp:=fp) e r' n t,h,⟨es,h'⟩=>by
  have h:_:=h;obtain ⟨b2,ys2,g1,g2,g3,g4⟩:=t.get (m:=m) (es:=es) (by simpa using h')
  simp at h;rw [h] at g1;cases g1;refine .own (by rw [au (show b'≠b from fun z=>n (by rw [z];exact g4))];exact e) r' n (t.put (m:=m) r h ⟨es,by simpa using h'⟩)
def Rl.Py (R:Rl K g E U H Hm F){i:Nat}{b:Addr}(e:E[i]?=some (some (k,d)))(hv:U[i]?=some (some v))(hb:b∈F i)(new:Own K (upd H b o) Hm k v d' (F i))(nt:qR o)(hp:k=.ow true->∃ ds,d'=.list ds) :
  Rl K g (E.set i (some (k,d'))) U (upd H b o) Hm F:=by
 have na:=R.off i b hb;have up:∀ c,c≠b->upd H b o c=H c:=fun c hc=>au hc
 have li:=aZ e;exact {
  len:=by rw [RJ];exact R.len
  sub:=fun c u hc=>by
   have:c≠b:=fun z=>by rw [z,na] at hc;cases hc
   rw [up c this];exact R.sub c u hc
  slot:=fun j k' d'' e'=>by
   by_cases c:j=i
   ·subst c;rw [aF li] at e';cases e';exact ⟨_,hv,new⟩
   ·rw [ao (Ne.symm c)] at e';obtain ⟨u,g1,g2⟩:=R.slot j k' d'' e';refine ⟨u,g1,g2.step (ah.refl _) fun a ha=>up a fun z=>c (R.aV j i b (z ▸ ha) hb)⟩
  off:=R.off
  bH:=fun j a ha=>by
   by_cases c:a=b
   ·rw [c];exact ⟨_,aL,nt⟩
   ·rw [up a c];exact R.bH j a ha
  aV:=R.aV
  fr:=fun q u hq ho=>by
   have:q≠b:=fun z=>by
    rcases R.new i b hb with y | y
    ·exact hq (z ▸ y)
    ·rw [z,y] at ho;cases ho
   rw [up q this];exact R.fr q u hq ho
  new:=R.new
  pin:=fun q hq=>by
   obtain ⟨g1,ds',g2⟩:=R.pin q hq
   by_cases c:i=q.1
   ·rw [<- c] at g1 g2 ⊢;rw [e] at g2;cases g2;obtain ⟨ds,rfl⟩:=hp rfl;exact ⟨g1,ds,aF li⟩
   ·exact ⟨g1,ds',by rw [ao c];exact g2⟩
  old:=R.old }
def IY (h:cG t d E=some E'):E'.length=E.length:=by
 have go:∀ {is:VV}{ds:VO}{E E':En},bQ is ds E=some E'->E'.length=E.length:=by
  intro is
  induction is with
  | nil=>intro ds E E' h;cases ds with | nil=>cases h;rfl | cons _ _=>cases h
  | cons j is ih =>
   intro ds E E' h;cases ds with
   | nil=>cases h
   | cons d ds =>
    rw [bQ] at h
    by_cases o:bL E j=true
    ·rw [if_pos o] at h;rw [ih h,RJ]
    ·rw [if_neg o] at h;cases h
 cases t with
 | nm j=>exact go (is:=[j]) h
 | tp js =>
  cases d with
  | tuple ds=>exact go (is:=js) h
  | _=>cases h
end
section
variable {X:Cx}{Ex:XK}{Y cs:VV}{elt tg iter:Expr}{ifs:VT}{scope:Scope}{pos:Pos}
def G3 {vs:VX}{t:Tg}(B:cC X scope vs NB ix)(hc:X.calm=true)(hcs:cs.length=vs.length)(hix:∀ i∈ix,i < Y.length)(aV:∀ c∈cs,c∉Y)(nd:(bw Y cs ix).Nodup)
  (hi:SI X Ex Y tg iter di)(ht:∀ (C:Addr)(s:Shared)(H:Hp)(fp:VR),eK (X.block scope C NB s H fp) (bw Y cs ix) tg t)(hts:∀ i∈t.slots,i∈cs)(hif:∀ (C:Addr)(s:Shared)(H:Hp)(fp:VR),gM (X.block scope C NB s H fp) E0 (bw Y cs ix) ifs c)
  (hr:∀ (C:Addr)(s:Shared)(H:Hp)(fp:VR),SE (X.block scope C NB s H fp) E0 (bw Y cs ix) elt e)
  (hs:∀ v,foldedSetIterable iter X.env v=pure v){w:(V->Hp->Prop)->St->Hp->Prop}
  (hw:∀ {wi:TI}{G:TG}{tt:TT}{tr:TL}{U:St}{H:Hp}{Q:VK},PI X tg iter wi->(∀ (C:Addr)(s:Shared)(H:Hp)(fp:VR),PG (X.block scope C NB s H fp) tg G)->(∀ (C:Addr)(s:Shared)(H:Hp)(fp:VR),nQ (X.block scope C NB s H fp) ifs tt) ->
   (∀ (C:Addr)(s:Shared)(H:Hp)(fp:VR)(D:Addr),PL (X.block scope C NB s H fp) D elt (⟨tg,iter,ifs,0⟩:: []) scope pos 1 tr)->mJ wi vs.length ix G tt tr U H Q->w Q U H)
  (g:Gh)(x:XC)(E:En)(U:St)(H Hm:Hp)(F:Nat->VR)(P:VY)(Q:VK)(hx:XL X Ex x g)(R:Rl X.K g E U H Hm F)(p:n9 sizeLine cs di t c e x E P)
  (q:∀ E' k v u H' Hm' F' fp,P E' k v->Rl X.K g E' U H' Hm' F'->ah Hm Hm'->Tm X.K g F' H' Hm' k u v fp->Q u H'):w Q (sel Y U) H:=by
 obtain ⟨wi,hpi,hwi⟩:=hi;refine hw (wi:=wi) (G:=fun v U H Q=>∀ (C:Addr)(s:Shared)(H2:Hp)(fp:VR),WG (X.block scope C NB s H2 fp) tg v U H Q) (tt:=fun U H Q=>∀ (C:Addr)(s:Shared)(H2:Hp)(fp:VR),tL (X.block scope C NB s H2 fp) ifs U H Q)
  (tr:=Im fun U H Q=>∀ (C:Addr)(s:Shared)(H2:Hp)(fp:VR),WE (X.block scope C NB s H2 fp) elt U H Q) hpi (fun C s H2 fp pins s' U H v u Q I r h=>h C s H2 fp pins s' u I r) (fun C s H2 fp pins s' U H Q I h=>h C s H2 fp pins s' I)
  (fun C s H2 fp D=>zQ (fun pins s' U H Q I h=>h C s H2 fp pins s' I)) ?_
 refine hwi g x E U H Hm F _ _ hx R p fun E1 xs J H1 Hm1 F1 p1 R1 s1 it1=>?_
 obtain ⟨E0',I,hcl,i0,step,fin⟩:=p1;obtain ⟨σ0,F0,R0,a0,n0⟩:=R1.bf hcl;rw [<- hcs,t8 hix aV a0 fun c hc=>(n0 c hc).1]
 refine ⟨fun i m ys τ H'=>m=xs.length - i/\i<=xs.length/\∃ E' dys' σ' Hm' F' fp,I i dys' E'/\Rl X.K g E' σ' H' Hm' F'/\ah Hm1 Hm'/\eF X.K H' Hm' ys dys' fp/\qD g F' H' Hm' fp/\Agree cs σ0 σ'/\τ=sel (bw Y cs ix) σ',
  ⟨xs.length,by simp,Qw _,E0',[],σ0,Hm1,F0,[],i0,R0,ah.refl _,.nil,⟨(fun _ z=>by cases z),(fun _ z=>by cases z),(fun _ z=>by cases z),fun _ z=>by cases z⟩,Agree.refl _ _,rfl⟩,?_⟩
 rintro i m ys τ H2 ⟨rfl,hi,E2,dys2,σ2,Hm2,F2,fp,i2,R2,s2,r2,A2,a2,rfl⟩;obtain ⟨go,stop⟩:=it1 i H2 Hm2 s2 R2.sub
 by_cases c':i < xs.length
 ·obtain ⟨go,qL⟩:=go xs[i] (QV c');refine .inr ⟨go,fun ys τ H'=>i + 1<=xs.length/\∃ E' dys' σ' Hm' F' fp,I (i + 1) dys' E'/\Rl X.K g E' σ' H' Hm' F'/\ah Hm1 Hm'/\eF X.K H' Hm' ys dys' fp/\qD g F' H' Hm' fp/\Agree cs σ0 σ'/\τ=sel (bw Y cs ix) σ',fun ys τ H' z=>⟨xs.length - (i + 1),by lia,rfl,z⟩,fun x H3 y C s H9 fp9=>?_⟩
  obtain ⟨Hm3,t1,t2,t3,old,rx⟩:=qL x H3 y;have R3:=R2.turn t1 t2 t3 old;have k3:∀ a∈fp,H3 a=H2 a:=fun a ha=>by
   cases e:H2 a with
   | none=>exact absurd e (A2.bH a ha)
   | some o=>exact t3 _ _ e
  have A3:qD g F2 H3 Hm3 fp:=⟨fun a ha=>by rw [k3 a ha];exact A2.Am a ha,fun a ha=>by
   obtain ⟨u,hu,nt⟩:=A2.Am a ha;exact (old a (A2.bH a ha)).off (A2.off a ha) t2 (t3 _ _ hu) nt,A2.aV,A2.new⟩
  have r3:=r2.step (H':=H3) t1 k3;have nM:=A3.notM R3;obtain ⟨E4,e4,p4⟩:=step i xs[i] dys2 E2 (QV c') i2;obtain ⟨G,g1,g2⟩:=pZ (X:=X.block scope C NB s H9 fp9) hc B.nd nd (ht C s H9 fp9);refine WG.of g1 (g2 (g:=g.iu H3 fp) e4 rx (R3.iu A3) fun σ4 F4 R4 ag=>?_)
  have a4:Agree cs σ0 σ4:=a2.trans ⟨by rw [<- R3.len,<- R4.len,IY e4],fun j hj=>ag j fun z=>hj (hts j z)⟩
  intro C2 s2' H92 fp92;refine (hif C2 s2' H92 fp92).ok XL.no R4 p4 fun E5 b H5 Hm5 F5 p5 R5 s5=>?_
  cases b with
  | true =>
   refine oY fun C3 s3' H93 fp93=>?_
   refine hr C3 s3' H93 fp93 (g.iu H3 fp) xF E5 σ4 H5 Hm5 F5 _ _ XL.no R5 (by rw [if_pos rfl] at p5;exact p5) fun E6 k6 v6 u6 H6 Hm6 F6 fp6 p6 R6 s6 T6=>?_
   obtain ⟨⟨pb,rfl⟩,hl,p6⟩:=p6;obtain ⟨R6',A6,k6⟩:=Rl.xO A3 nM R6;have T1:=T6.own;have hlen:ys.length=dys2.length:=by
    have:∀ {xs:List V}{ds:VO}{fp:VR}{H Hm:Hp},eF X.K H Hm xs ds fp->xs.length=ds.length:=by
     intro xs ds fp H Hm h
     induction h with
     | nil=>rfl
     | kU _ _ _ ih=>rw [QH,QH,ih]
     | own _ _ _ _ ih=>rw [QH,QH,ih]
    exact this r2
   cases T1 with
   | @ow _ b zs es hb rz =>
    have nb:b∉fp:=fun z=>by
     have:=T6.new b Q2;rw [mU z] at this;exact A3.bH b z this
    have r6:=(r3.step (H':=H6) (s5.trans s6) k6).snoc (xs:=[]) (ds:=[]) hb rz nb;refine ⟨by rw [hlen];exact hl,c',E6,_,σ4,Hm6,F6,fp++[b],p6,R6',s2.trans (t1.trans (s5.trans s6)),r6,⟨fun a ha=>?_,fun a ha=>?_,fun a ha=>?_,fun a ha=>?_⟩,a4,rfl⟩
    ·rcases QA.mp ha with ha | ha
     ·exact A6.Am a ha
     ·rw [QF.mp ha];exact ⟨_,hb,mO⟩
    ·rcases QA.mp ha with ha | ha
     ·exact A6.off a ha
     ·rw [QF.mp ha];exact T6.off b Q2
    ·rcases QA.mp ha with ha | ha
     ·exact A6.aV a ha
     ·rw [QF.mp ha];exact T6.aV b Q2
    ·rcases QA.mp ha with ha | ha
     ·exact A6.new a ha
     ·rw [QF.mp ha];have:=T6.new b Q2;rw [iF nb] at this;exact this
  | false =>
   obtain ⟨R5',A5,k5⟩:=Rl.xO A3 nM R5;exact pQ ⟨c',E5,dys2,σ4,Hm5,F5,fp,by simpa using p5,R5',s2.trans (t1.trans s5),r3.step (H':=H5) s5 k5,A5,a4,rfl⟩
 ·have e:i=xs.length:=by lia
  subst e;refine .inl ⟨stop (Q6 _),fun p hp=>?_⟩
  obtain ⟨E3,hcl2,p2⟩:=fin _ _ i2;obtain ⟨σ3,F3,R3p,a3,n3⟩:=(R2.iu A2).bf hcl2;obtain ⟨R3,A3,_⟩:=Rl.xO A2 (A2.notM R2) R3p;have R3':=R3.agree (cs:=cs) ((a0.trans a2).trans a3).symm fun c hc=>(n3 c hc).2
  have s3:=cg (o:=.lst ys) hp;have R4:=R3'.grow (H':=upd H2 p (.lst ys)) s3 (ah.refl _) (R3'.sub.trans s3) (fun i a ha=>R3'.off i a ha) fun _ _=>.inl rfl
  have np:p∉fp:=fun z=>A2.bH p z hp
  refine q _ _ _ _ _ Hm2 F3 (p::fp) p2 R4 (s1.trans s2) ⟨.dp aL np (r2.step (H':=upd H2 p (.lst ys)) (ah.refl _) fun a ha=>au fun z=>np (z ▸ ha)),fun a ha=>?_,fun a ha i=>?_,fun a ha=>?_⟩
  ·rcases Q9.mp ha with rfl | ha
   ·exact R3'.tR hp
   ·exact A2.off a ha
  ·rcases Q9.mp ha with rfl | ha
   ·exact R3'.fresh hp
   ·exact A3.aV a ha i
  ·rcases Q9.mp ha with rfl | ha
   ·exact R3'.fX hp
   ·exact A2.new a ha
end
section
variable {X:Cx}{Ex:XK}{Y cs:VV}{elt tg iter:Expr}{ifs:VT}{scope:Scope}{pos:Pos}
def O1 {j:Nat}(hN:X.N.Nodup)(B:mD X.N X.env.scope scope vs NB ix=true)(hi:SI X Ex (aH X) tg iter di)(ht:∀ (C:Addr)(s:Shared)(H:Hp)(fp:VR),eK (X.block scope C NB s H fp) (bw (aH X) cs ix) tg t)
  (hif:∀ (C:Addr)(s:Shared)(H:Hp)(fp:VR),gM (X.block scope C NB s H fp) E0 (bw (aH X) cs ix) ifs c)(hr:∀ (C:Addr)(s:Shared)(H:Hp)(fp:VR),SE (X.block scope C NB s H fp) E0 (bw (aH X) cs ix) elt e)
  (hj:X.N[j]?=some y:=by rfl)(hy:X.env.scope.names.lookup y=some .local:=by rfl)(hsw:swapsWith (.ListComp elt [⟨tg,iter,ifs,0⟩] scope pos) (some (.Name y py)) spos.line X.env=pure true:=by rfl)
  (hc:X.calm=true:=by rfl)(ck:uZ (aH X) cs ix vs t.slots=true:=by rfl)(hs:∀ v,foldedSetIterable iter X.env v=pure v:=by intro _;rfl):S1 X Ex (.Assign [.Name y py] (.ListComp elt [⟨tg,iter,ifs,0⟩] scope pos) spos) (aC j (n9 sizeLine cs di t c e)):=by
 obtain ⟨h1,h2,h3,h4,h5⟩:=sO ck;have B':cC X scope vs NB ix:=cC.of B;have ha:∀ g∈([]:VD),g.is_async=0:=fun _ z=>by cases z
 rw [ug];intro g D' E U H Hm F D hx R p nx rt;refine G3 B' hc h1 h2 h3 h4 hi ht h5 hif hr hs (w:=fun Q τ H=>(Q=fun u H1=>D.nx (τ.set j (some u)) H1)->WS X (.Assign [.Name y py] (.ListComp elt [⟨tg,iter,ifs,0⟩] scope pos) spos) D τ H)
  (fun g1 g2 g3 g4 g5 e=>by
   subst e;exact WS.of (xZ hN hj hy B' hc g1 g2 g3 g4 hsw ha hs) g5) g D'.xc E U H Hm F _ _ hx R p (fun E' k v u H' Hm' F' fp p' R' s' T=>?_) rfl
 rw [jr Ri (fP (aZ hj)) (R'.len ▸ gu p'.1)];exact nx _ _ _ _ _ p'.2 (R'.put T p'.1) s'
def Gv {i n:Nat}(h:dD E n=some E')(ne:i≠n):E'[i]?=E[i]?:=by
 unfold dD at h;split at h
 ·split at h
  ·cases h;exact ao (Ne.symm ne)
  ·cases h
 ·cases h
def LV {x y name:Str}{id:String}{p yp sp apos cpos:Pos}{jx:Expr}{f:DM}{r:V->List V->Hp->VK->Prop}{dj:DE}{i j n jn:Nat}(hm:sN X id r)(D:xX X.K f r)(slot:Slot "list" name id)(hty:typeOf (.builtin id)=pure (.type "method_descriptor"))
  (hv:PE X (.Name x p) (nL j))(hj:Y[j]?=some i)(hy:PE X (.Name y yp) (nL jn))(hjn:Y[jn]?=some n)(hs:mK jx)(hd:SE X Ex Y jx dj)(hline:(apos.endLine == cpos.line)=true) :
  SE X Ex Y (.Call (.Attribute (.Subscript (.Name x p) jx sp) name apos) [.Name y yp] [] cpos) (ym f i dj n):=by
 intro g xc E U H Hm F P Q hx R h q;obtain ⟨hh,h⟩:=h;obtain ⟨o,ho⟩:=jW R hh;refine WE.of (Iu V0 slot hty hm (bP (e:=.Subscript (.Name x p) jx sp)) (dW (es:=[.Name y yp]) rfl) rfl (Dq rfl (show 1 < 30 by decide)) hline rfl rfl) ?_
 refine WE.of (Hz Fe hv bP hs) ⟨o,eX hj ho,?_⟩;refine hd g xc E U H Hm F _ _ hx R h fun E1 k1 w u1 H1 Hm1 F1 fp1 p1 R1 s1 T1=>?_
 obtain ⟨a,pp,ds,m,es,k,d,E2,rfl,e1,hix,hes,en,ne,hf,p1⟩:=p1;cases T1.own.int;obtain ⟨v',h1,h2⟩:=R1.slot i _ _ e1;rw [ho] at h1;cases h1;obtain ⟨vn,Hm2,F2,hvn,s2,R2,rn⟩:=R1.dD en hf;have e2:E2[i]?=some (some (.dp pp,.list ds)):=(Gv hf ne).trans e1;obtain ⟨v2,h3,h4⟩:=R2.slot i _ _ e2;rw [ho] at h3;cases h3;generalize hfi:F2 i=fi at h4;cases h4 with
 | @dp _ a0 xs _ fq ha0 n0 it0 =>
  obtain ⟨b,ys,hxm,hb,ry,mb⟩:=it0.get hes;have hlen:xs.length=ds.length:=by
   have:∀ {xs:List V}{ds:VO}{fp:VR}{H Hm:Hp},eF X.K H Hm xs ds fp->xs.length=ds.length:=by
    intro xs ds fp H Hm h
    induction h with
    | nil=>rfl
    | kU _ _ _ ih=>rw [QH,QH,ih]
    | own _ _ _ _ ih=>rw [QH,QH,ih]
   exact this it0
  refine .inl ⟨_,xs,a,.ref b,rfl,rfl,bX.of ha0,?_,.inl ⟨rfl,_,bX.of hb⟩,?_⟩
  ·show (nU xs.length a).bind (fun j=>xs[j]?)=some (.ref b)
   rw [hlen,show nU ds.length a=some m from hix]
   exact hxm
  ·refine WE.of hy ⟨vn,eX hjn hvn,?_⟩;show r (.ref b) [vn] H1 Q;have mbF:b∈F2 i:=by rw [hfi];exact Q7 _ mb
   refine D H1 Hm2 b ys es [vn] [d] _ Q hb (R2.off i b mbF) R2.sub ry (.cons rn .nil) p1 fun ys' new u v p2 ry' ru=>?_
   have nab:a0≠b:=fun z=>n0 (z ▸ mb)
   have R3:=R2.Py (o:=.lst ys') (d':=.list (ds.set m (.list new))) e2 ho mbF (by
    rw [hfi];exact .dp (by rw [au nab];exact ha0) n0 (it0.put ry' hxm ⟨es,hes⟩)) mO fun z=>by cases z
   exact q _ _ _ _ _ _ _ [] p2 R3 (s1.trans s2) (Tm.sh ru)
def OA (j jn:Nat){i n:Nat}{x y name:Str}{id:String}{p yp sp apos cpos:Pos}{jx:Expr}{f:DM}{r:V->List V->Hp->VK->Prop}{dj:DE}(hm:sN X id r)(D:xX X.K f r)(slot:Slot "list" name id)(hty:typeOf (.builtin id)=pure (.type "method_descriptor"))(hd:SE X Ex Y jx dj)
  (hN:X.N[j]?=some x:=by rfl)(hv:mX X.env.scope x:=by first | exact Or.inl rfl | exact Or.inr (Or.inl rfl) | exact Or.inr (Or.inr rfl))(hj:Y[j]?=some i:=by rfl)(hNn:X.N[jn]?=some y:=by rfl)(hvn:mX X.env.scope y:=by first | exact Or.inl rfl | exact Or.inr (Or.inl rfl) | exact Or.inr (Or.inr rfl))(hjn:Y[jn]?=some n:=by rfl)(hs:mK jx:=by intro _ _;rfl)(hline:(apos.endLine == cpos.line)=true:=by rfl)
  (hb:(x == ("__debug__":Str))=false:=by decide)(hcd:(x == ("__classdict__":Str))=false:=by decide)(hbn:(y == ("__debug__":Str))=false:=by decide)(hcn:(y == ("__classdict__":Str))=false:=by decide) :
  SE X Ex Y (.Call (.Attribute (.Subscript (.Name x p) jx sp) name apos) [.Name y yp] [] cpos) (ym f i dj n):=LV hm D slot hty (jR hN hv hb hcd) hj (jR hNn hvn hbn hcn) hjn hs hd hline
end
section
variable {P:Program}{w:World}{K:Frag}{mg:VE}{base:Heap}{N:VX}{qual:Str}{scope:Scope}{f:Addr}{cd:Value}{A:Around}{outer:List Env}{s0:Shared}{H0:Hp}{Ex:XK}
def qt {j}(h:∃ C,mg x=some (.ref C)/\gX K C vz "ValueError.__new__" none=true)(hg:Gl (gO (fh P w) P w K mg base N qual scope f cd A outer s0 H0 Ex) x:=by rfl)(hdb:(x == ("__debug__":Str))=false:=by decide) :
  S1 (gO (fh P w) P w K mg base N qual scope f cd A outer s0 H0 Ex) Ex (.Raise (some (.Call (.Name x np) [.Constant (.str y) j p] [] cpos)) none pos) (mZ x):=by
 obtain ⟨C,h⟩:=h;intro g D' E U H Hm F D hx R hp nx rt;refine WS.of (GZ h.2 hg h.1 (qd ES tw) hdb) ⟨by show 1<=sizeLine;decide,fun a ha=>?_⟩
 exact hx x .none C a _ h.1 hp (fun p o hp ho=>cg ha _ _ (R.fr p o hp ho)) aL (R.fX ha)
end
end Dv
namespace Dv
open PySem L2
def HM (most:Nat)(E:En) (i:Nat)(v:PyData)(Q:Vd):Prop:=match E[i]?,v with
 | some (some (.ow p,.list ds)),.list es=>ds.length + es.length<=most/\Q (E.set i (some (.ow p,.list (ds++es))))
 | _,_=>False
universe u
def aI {a b:Prop}(x:a)(y:b):a/\b:=⟨x,y⟩
theorem rr0:dC v x E Q=Q E .sh v:=rfl
theorem rr1:aG i x (o::E) Q=DK (o::E) i Q:=rfl
theorem rr2:aa r as x (o::E) Q=jj as x (o::E) fun E1 os=>yo r as E1 os Q:=rfl
theorem rr3:aD sp ms as x (o::E) Q=jj as x (o::E) fun E1 os=>Cp sp ms as x E1 os Q:=rfl
theorem rr4:aX d x (o::E) Q=d x (o::E) fun E' _ v=>tN v (Q E'):=rfl
theorem rr5:Av i x (o::E) Q=D5 (o::E) i Q:=rfl
theorem rr6:qS t x (o::E) Q=t x (o::E) fun E' b=>Q E' (!b):=rfl
theorem rr7:rS a b x (o::E) Q=a x (o::E) fun E1 _ v=>Ab v fun c=>dg c (b x E1 Q) (Q E1 .sh (.bool false)):=rfl
theorem rr8:zd a b x (o::E) Q=a x (o::E) fun E1 _ v=>Ab v fun c=>dg c (Q E1 .sh (.bool true)) (b x E1 Q):=rfl
theorem rr9:uG a x (o::E) Q=a x (o::E) fun E1 _ v=>tN v fun c=>Q E1 .sh (.bool !c):=rfl
theorem rr10:mY f f' a b c x (o::E) Q=a x (o::E) fun E1 _ u=>qJ u fun i=>b x E1 fun E2 _ v=>qJ v fun j=>dg (f i j) (c x E2 fun E3 _ w=>qJ w fun k=>Q E3 .sh (.bool (f' j k))) (Q E2 .sh (.bool false)):=rfl
theorem rr11:vB c a b x (o::E) Q=c x (o::E) fun E1 t=>dg t (a x E1 Q) (b x E1 Q):=rfl
theorem rr12:dR D E=D.nx E:=rfl
theorem rr13:aq a b D (o::E)=a { D with nx:=b D } (o::E):=rfl
theorem rr14:cK c a b D (o::E)=c D.xc (o::E) fun E1 t=>dg t (a D E1) (b D E1):=rfl
theorem rr15:aC i e D (o::E)=e D.xc (o::E) fun E' k v=>bK (gh E' i) (D.nx (E'.set i (some (k,v)))):=rfl
theorem rr16:pB is e D (o::E)=e D.xc (o::E) fun E' k v=>bK k.fz (Ie is v E' D.nx):=rfl
theorem rr17:bY e D (o::E)=e D.xc (o::E) D.rt:=rfl
theorem rr18:iL i D (o::E)=DX (o::E) i D.rt:=rfl
theorem rr19:pF f i es x (o::E) Q=bK (jw (o::E) i) (jj (es.map .ev) x (o::E) fun E1 os=>Ej f i (es.map .ev) E1 os Q):=rfl
theorem rr20:lP i j e D (o::E)=e D.xc (o::E) fun E1 k v=>bK k.fz (bK (here E1 i) (j D.xc E1 fun E2 k2 w=>bK k2.fz (lP.setI E2 i w v D.nx))):=rfl
theorem rr21:uH f i e D (o::E)=bK (here (o::E) i) (e D.xc (o::E) fun E1 _ v=>Ey f E1 i v D.nx):=rfl
theorem rr22:mZ c D E=D.xc c .none:=rfl
theorem rr23:fU e D (o::E)=e D.xc (o::E) fun E' _ _=>D.nx E':=rfl
theorem rr24:dQ x E Q=Q E true:=rfl
theorem rr25:iE e x (o::E) Q=e x (o::E) fun E' k v=>bK k.fz (HE v fun xs=>Q E' xs):=rfl
theorem rr26:mE g as x (o::E) Q=jj as x (o::E) fun E1 os=>aB (cL as E1 os) fun ds=>aB (g ds) fun xs=>Q E1 xs:=rfl
theorem rr27:vt e x (o::E) Q=e x (o::E) fun E' k v=>bK k.fz (vF v fun ds=>Q E' (jF ds)):=rfl
theorem rr28:P9 a b x (o::E) Q=a x (o::E) fun E1 k v=>bK k.fz (b x E1 fun E2 k2 v2=>bK k2.fz (vF v fun ds=>vF v2 fun es=>Q E2 ((ds.zip es).map fun p=>.tuple [p.1,p.2]))):=rfl
theorem rr29:aT most e x ys (o::E) Q=e x (o::E) fun E1 k v=>k.fz=true/\ys.length < most/\Q (ys++[v]) E1:=rfl
theorem rr30:jj [] x E Q=Q E []:=rfl
theorem rr31:jj (.pk i::r) x (o::E) Q=bK (here (o::E) i) (jj r x (o::E) fun E' os=>Q E' (none::os)):=rfl
theorem rr32:jj (.ev d::r) x (o::E) Q=d x (o::E) fun E1 k v=>bK k.fz (jj r x E1 fun E' os=>Q E' (some v::os)):=rfl
theorem rr33:cL [] E []=some []:=rfl
theorem rr34:∀ {i:Nat}{r:List Arg}{o:Va}{E:En}{os:VZ},cL (.pk i::r) (o::E) (none::os)=match (o::E)[i]? with
  | some (some (k,d))=>dg k.rd ((cL r (o::E) os).map (d::·)) none
  | _=>none:=rfl
theorem rr35:∀ {d:DE}{v:PyData}{r:List Arg}{E:En}{os:VZ},cL (.ev d::r) E (some v::os)=(cL r E os).map (v::·):=rfl
theorem rr36:aB (some a) Q=Q a:=rfl
theorem rr37:aB none Q=False:=rfl
theorem rr38:here (o::E) i=match (o::E)[i]? with
  | some (some _)=>true
  | _=>false:=rfl
theorem rr39:bu (some (k,d))=!k.pin:=rfl
theorem rr40:bu none=true:=rfl
theorem rr41:jw (o::E) i=match (o::E)[i]? with
  | some (some (.ow _,.list _))=>true
  | _=>false:=rfl
theorem rr42:ig (o::E) i=match (o::E)[i]? with
  | some (some (.sh,_))=>true
  | _=>false:=rfl
theorem rr43:rF (o::E) i=match (o::E)[i]? with
  | some (some (k,d))=>dg k.fz (some ((o::E).set i (some (.sh,d)))) none
  | _=>none:=rfl
theorem rr44:jK [] E=some E:=rfl
theorem rr45:jK (i::r) E=(rF E i).bind (jK r):=rfl
theorem rr46:DK (o::E) i Q=match (o::E)[i]? with
  | some (some (_,d))=>aB (rF (o::E) i) fun E'=>Q E' .sh d
  | _=>False:=rfl
theorem rr47:DX (o::E) i Q=match (o::E)[i]? with
  | some (some (k,d))=>bK (!k.pin) (Q ((o::E).set i none) k d)
  | _=>False:=rfl
theorem rr48:D5 (o::E) i Q=match (o::E)[i]? with
  | some (some (k,d))=>bK k.rd (tN d (Q (o::E)))
  | _=>False:=rfl
theorem rr49:∀ {r:DR}{as:List Arg}{o:Va}{E:En}{os:VZ}{Q:VY},yo r as (o::E) os Q=aB (cL as (o::E) os) fun ds=>r ds fun k v=>aB (q8 as (o::E) k v) fun E2=>Q E2 k v:=rfl
theorem rr50:∀ {sp:bD}{ms:VS}{as:List Arg}{x:XC}{o:Va}{E:En}{os:VZ}{Q:VY},Cp sp ms as x (o::E) os Q=aB (cL as (o::E) os) fun ds=>bK (sF ms as (o::E)) (sp ds (fun us k v=>D8 ms as (o::E) us k v Q) x):=rfl
theorem rr51:∀ {f:DM}{i:Nat}{as:List Arg}{o:Va}{E:En}{os:VZ}{Q:VY},Ej f i as (o::E) os Q=aB (cL as (o::E) os) fun args=>match (o::E)[i]? with
  | some (some (.ow p,.list ds))=>f ds args fun new v=>Q ((o::E).set i (some (.ow p,.list new))) .sh v
  | _=>False:=rfl
theorem rr52:Ey f (o::E) i v Q=match (o::E)[i]? with
  | some (some (_,.int a))=>qJ v fun b=>Q ((o::E).set i (some (.sh,.int (f a b))))
  | _=>False:=rfl
theorem rr53:tN (.bool b) Q=Q b:=rfl
theorem rr54:Ab (.bool b) Q=Q b:=rfl
theorem rr55:qJ (.int i) Q=Q i:=rfl
theorem rr56:tN (.list ds) Q=Q (!ds.isEmpty):=rfl
theorem rr57:HE (.list ds) Q=Q ds:=rfl
theorem rr58:HE (.tuple ds) Q=Q ds:=rfl
theorem rr59:vF (.list ds) Q=Q ds:=rfl
theorem rr60:q8 as (o::E) k v=dg ((f6 as).all (ig (o::E)) || flat k v) (some (o::E)) (jK (f6 as) (o::E)):=rfl
theorem rr61:f6 []=[]:=rfl
theorem rr62:f6 (.pk i::r)=i::f6 r:=rfl
theorem rr63:f6 (.ev d::r)=f6 r:=rfl
theorem rr64:Kd.fz .sh=true:=rfl
theorem rr65:Kd.fz (.ow false)=true:=rfl
theorem rr66:Kd.fz (.dp false)=true:=rfl
theorem rr67:Kd.fz (.dk false)=true:=rfl
theorem rr68:Kd.fz (.dt false)=true:=rfl
theorem rr69:Kd.rd .sh=true:=rfl
theorem rr70:Kd.rd (.ow p)=true:=rfl
theorem rr71:Kd.rd (.dp p)=true:=rfl
theorem rr72:Kd.rd (.dk p)=true:=rfl
theorem rr73:Kd.rd (.dt p)=true:=rfl
theorem rr74:Kd.pin .sh=false:=rfl
theorem rr75:Kd.pin (.ow p)=p:=rfl
theorem rr76:Kd.pin (.dp p)=p:=rfl
theorem rr77:Kd.pin (.dk p)=p:=rfl
theorem rr78:Kd.pin (.dt p)=p:=rfl
theorem rr79:flat .sh v=lf v:=rfl
theorem rr80:lf (.int i)=true:=rfl
theorem rr81:lf (.bool b)=true:=rfl
theorem rr82:lf (.str s)=true:=rfl
theorem rr83:lf .none=true:=rfl
theorem rr84:(bq ms Q x).xc=x:=rfl
theorem rr85:(bq ms Q x).nx (o::E)=aB (fm ms (o::E)) fun us=>Q us .sh .none:=rfl
theorem rr86:(bq ms Q x).rt (o::E) k v=aB (fm ms (o::E)) fun us=>Q us k v:=rfl
theorem rr87:fm [] E=some []:=rfl
theorem rr88:fm (true::ms) (some (.ow true,.list es)::E)=(fm ms E).map (.list es::·):=rfl
theorem rr89:fm (false::ms) (o::E)=fm ms E:=rfl
theorem rr90:ini (true::ms) (d::ds)=some (.ow true,d)::ini ms ds:=rfl
theorem rr91:ini (false::ms) (d::ds)=some (.sh,d)::ini ms ds:=rfl
theorem rr92:ini [] []=[]:=rfl
theorem rr93:List.replicate (n + 1) (none:Va)=none::List.replicate n none:=rfl
theorem rr94:List.replicate 0 (none:Va)=[]:=rfl
theorem rr95:∀ {α β:Type}{f:α->β}{a:α},(some a).map f=some (f a):=rfl
theorem rr96:∀ {α β:Type}{f:α->Option β}{a:α},(some a).bind f=f a:=rfl
theorem rr97:∀ {α:Type}{p:α->Bool},[].all p=true:=rfl
theorem rr98:∀ {α:Type}{p:α->Bool}{a:α}{l:List α},(a::l).all p=(p a && l.all p):=rfl
theorem rr99:(true && b)=b:=rfl
theorem rr100:(false && b)=false:=rfl
theorem rr101:(true || b)=true:=rfl
theorem rr102:(false || b)=b:=rfl
theorem rr103:((!true)=false):=rfl
theorem rr104:((!false)=true):=rfl
theorem rr105:∀ {α:Type}{l:List α},([]:List α)++l=l:=rfl
theorem rr106:∀ {α:Type}{a:α}{l m:List α},(a::l)++m=a::(l++m):=rfl
theorem rr107:gh (o::E) i=match (o::E)[i]? with
  | some o=>bu o
  | none=>false:=rfl
theorem rr108:bK true P=P:=rfl
theorem rr109:bK false P=False:=rfl
theorem rr110:∀ {α:Sort u}{a b:α},dg true a b=a:=rfl
theorem rr111:∀ {α:Sort u}{a b:α},dg false a b=b:=rfl
theorem rr112:Ie is (.tuple ds) E Q=aB (stK is ds E) Q:=rfl
theorem rr113:stK [] [] E=some E:=rfl
theorem rr114:stK (i::is) (d::ds) (o::E)=dg (gh (o::E) i) (stK is ds ((o::E).set i (some (.sh,d)))) none:=rfl
theorem rr115:lY i []=false:=rfl
theorem rr116:lY i (j::l)=(i == j || lY i l):=rfl
theorem rr117:pU [] ks E=true:=rfl
theorem rr118:pU (i::r) ks E=((!lY i ks && !lY i r && jw E i) && pU r ks E):=rfl
theorem rr119:∀ {α:Type}{o:α}{E:List α},(o::E)[0]?=some o:=rfl
theorem rr120:∀ {α:Type}{o:α}{E:List α}{n:Nat},(o::E)[n + 1]?=E[n]?:=rfl
theorem rr121:∀ {α:Type}{o a:α}{E:List α},(o::E).set 0 a=a::E:=rfl
theorem rr122:∀ {α:Type}{o a:α}{E:List α}{n:Nat},(o::E).set (n + 1) a=o::E.set n a:=rfl
def dv:=aI @rr0 <| aI @rr1 <| aI @rr2 <| aI @rr3 <| aI @rr4 <| aI @rr5 <| aI @rr6 <| aI @rr7 <| aI @rr8 <| aI @rr9 <| aI @rr10 <| aI @rr11 <| aI @rr12 <| aI @rr13 <| aI @rr14 <| aI @rr15 <| aI @rr16 <| aI @rr17 <| aI @rr18 <| aI @rr19 <| aI @rr20 <| aI @rr21 <| aI @rr22 <| aI @rr23 <| aI @rr24 <| aI @rr25 <| aI @rr26 <| aI @rr27 <| aI @rr28 <| aI @rr29 <| aI @rr30 <| aI @rr31 <| aI @rr32 <| aI @rr33 <| aI @rr34 <| aI @rr35 <| aI @rr36 <| aI @rr37 <| aI @rr38 <| aI @rr39 <| aI @rr40 <| aI @rr41 <| aI @rr42 <| aI @rr43 <| aI @rr44 <| aI @rr45 <| aI @rr46 <| aI @rr47 <| aI @rr48 <| aI @rr49 <| aI @rr50 <| aI @rr51 <| aI @rr52 <| aI @rr53 <| aI @rr54 <| aI @rr55 <| aI @rr56 <| aI @rr57 <| aI @rr58 <| aI @rr59 <| aI @rr60 <| aI @rr61 <| aI @rr62 <| aI @rr63 <| aI @rr64 <| aI @rr65 <| aI @rr66 <| aI @rr67 <| aI @rr68 <| aI @rr69 <| aI @rr70 <| aI @rr71 <| aI @rr72 <| aI @rr73 <| aI @rr74 <| aI @rr75 <| aI @rr76 <| aI @rr77 <| aI @rr78 <| aI @rr79 <| aI @rr80 <| aI @rr81 <| aI @rr82 <| aI @rr83 <| aI @rr84 <| aI @rr85 <| aI @rr86 <| aI @rr87 <| aI @rr88 <| aI @rr89 <| aI @rr90 <| aI @rr91 <| aI @rr92 <| aI @rr93 <| aI @rr94 <| aI @rr95 <| aI @rr96 <| aI @rr97 <| aI @rr98 <| aI @rr99 <| aI @rr100 <| aI @rr101 <| aI @rr102 <| aI @rr103 <| aI @rr104 <| aI @rr105 <| aI @rr106 <| aI @rr107 <| aI @rr108 <| aI @rr109 <| aI @rr112 <| aI @rr113 <| aI @rr114 <| aI @rr115 <| aI @rr116 <| aI @rr117 <| aI @rr118 <| aI @rr119 <| aI @rr120 <| aI @rr121 <| @rr122
def dw :
 (∀ {o:Va}{E:En}{i:Nat},bL (o::E) i=match (o::E)[i]? with
  | some o=>bu o
  | none=>false) /\
 (∀ {P:Prop},(True/\P)=P) /\
 (∀ {P:Prop},(P/\True)=P) /\
 (∀ {α:Type}{a:α},(a=a)=True) /\
 (∀ {b:Bool},(b || true)=true) /\
 (∀ {α:Type}{a b:α},(if True then a else b)=a) /\
 (∀ {α:Type}{a b:α},(if False then a else b)=b) /\
 (∀ {p:Prop} [Decidable p],(decide p=true)=p) /\
 ((true=false)=False) /\
 ((false=true)=False) /\
 (∀ {b:Bool},((!b)=true)=(b=false)) /\
 (∀ {p:Prop} [Decidable p],(decide p=false)=¬ p) /\
 (type_of% @dH) /\
 (∀ {α:Type}{p:Prop} [Decidable p]{a b:α},dg (decide p) a b=if p then a else b) /\
 (∀ {p:Prop} [Decidable p]{a b:Prop},dg (decide p) a b=if p then a else b) /\
 (∀ {b:Bool}{p q:Prop},dg b p q=if b=true then p else q) /\
 (∀ {α:Type}{b:Bool}{p q:α},dg b p q=if b=true then p else q) :=
 ⟨(by intro o E i;unfold bL bu;generalize (o::E)[i]?=z;rcases z with _ | _ | ⟨k,d⟩ <;> rfl),(by intros;simp),(by intros;simp),(by intros;simp),(by intros;simp),(by intros;simp),(by intros;simp),(by intros;simp),(by intros;simp),(by intros;simp),(by intros;simp),(by intros;simp),@dH,(by intros;rw [bZ];simp only [RS]),(by intros;rw [bZ];simp only [RS]),(by intros;exact bZ),(by intros;exact bZ)⟩
def P7 {x:PyData}{l:VO}:eE (x::l) 0=some x:=by
 unfold eE nU;simp
def PK {x y:PyData}{l:VO}:eE (x::y::l) 1=some y:=by
 unfold eE nU;simp;rw [if_pos (by lia)]
 rfl
def Qm {n:Nat}:kG (n + 1) 0=some 0:=by
 unfold kG;simp
def OM {n:Nat}:kG (n + 2) 1=some 1:=by
 unfold kG;simp;lia
theorem rr123:dP [.int a,.int b] P=P .sh (.int (a + b)):=rfl
theorem rr124:dP [.list a,.list b] P=(a.length + b.length<=sizeLine/\P (.ow false) (.list (a++b))):=rfl
theorem rr125:dP [.tuple a,.tuple b] P=((a≠[]/\a.length + b.length<=sizeLine)/\P .sh (.tuple (a++b))):=rfl
theorem rr126:lT [.int a,.int b] P=P .sh (.int (a - b)):=rfl
theorem rr127:gQ [.int a,.int b] P=(j9 a b/\P .sh (.int (a * b))):=rfl
theorem rr128:gQ [.list a,.int k] P=((-(2 ^ 63)<=k/\k < 2 ^ 63/\a.length * k.toNat<=sizeLine)/\P (.ow false) (.list (List.replicate k.toNat a).flatten)):=rfl
theorem rr129:j7 [.int a,.int b] P=(0 < b/\P .sh (.int (a % b))):=rfl
theorem rr130:uE [.int a,.int b] P=(Cm a b/\P .sh (.int (a / b))):=rfl
theorem rr131:Fw [.int a,.int b] P=(Ge a b/\P .sh (.int (a ^ b.toNat))):=rfl
theorem rr132:Ak [.int a,.int b] P=P .sh (.bool (decide (a < b))):=rfl
theorem rr133:PR [.int a,.int b] P=P .sh (.bool (decide (a<=b))):=rfl
theorem rr134:yb [.int a,.int b] P=P .sh (.bool (decide (b < a))):=rfl
theorem rr135:Ip [.int a,.int b] P=P .sh (.bool (decide (b<=a))):=rfl
theorem rr136:O7 [.int a] P=P .sh (.int (-a)):=rfl
theorem rr137:jg [.int a,.int b] P=P .sh (.bool (decide (a=b))):=rfl
theorem rr138:jg [.str a,.str b] P=P .sh (.bool (decide (a=b))):=rfl
theorem rr139:jN [.int a,.int b] P=P .sh (.bool !(decide (a=b))):=rfl
theorem rr140:jN [.str a,.str b] P=P .sh (.bool !(decide (a=b))):=rfl
theorem rr141:jg [.list a,.list b] P=((dl 8 (.list a)=true/\dl 8 (.list b)=true)/\P .sh (.bool (decide (PyData.list a=.list b)))):=rfl
theorem rr142:jN [.list a,.list b] P=((dl 8 (.list a)=true/\dl 8 (.list b)=true)/\P .sh (.bool !(decide (PyData.list a=.list b)))):=rfl
theorem rr143:bg [.list xs,.int i] P=aB (atK xs i) (P .sh):=rfl
theorem rr144:bg [.tuple xs,.int i] P=aB (atK xs i) (P .sh):=rfl
theorem rr145:cU [.list xs] P=P .sh (.int xs.length):=rfl
theorem rr146:cU [.tuple xs] P=P .sh (.int xs.length):=rfl
theorem rr147:kj [.list xs] P=P (.ow false) (.list xs):=rfl
theorem rr148:kj [.tuple xs] P=P (.ow false) (.list xs):=rfl
theorem rr149:mR [.list xs] P=P .sh (.tuple xs):=rfl
theorem rr150:mR [.tuple xs] P=P .sh (.tuple xs):=rfl
theorem rr151:wm [.int a,.int b] P=P .sh (.int (if b < a then b else a)):=rfl
theorem rr152:tZ [.int a,.int b] P=P .sh (.int (if b > a then b else a)):=rfl
theorem rr153:wR [.int a] P=P .sh (.int (if a < 0 then -a else a)):=rfl
theorem rr154:mP [.int a] P=P .sh (.int a):=rfl
theorem rr155:mP [.bool b] P=P .sh (.int (if b=true then 1 else 0)):=rfl
theorem rr156:jM [.int j] P=((0<=j/\j<=1000)/\P (.ow false) (.list (kg 0 j.toNat))):=rfl
theorem rr157:bS ds P=(ds.length<=sizeLine/\P (.ow false) (.list ds)):=rfl
theorem rr158:ie ds P=(ds.length<=sizeLine/\P .sh (.tuple ds)):=rfl
theorem rr159:oA false false [.list xs] P=P (.ow false) (.list (cutD xs none none)):=rfl
theorem rr160:oA true false [.list xs,.int a] P=P (.ow false) (.list (cutD xs (some a) none)):=rfl
theorem rr161:oA false true [.list xs,.int b] P=P (.ow false) (.list (cutD xs none (some b))):=rfl
theorem rr162:oA true true [.list xs,.int a,.int b] P=P (.ow false) (.list (cutD xs (some a) (some b))):=rfl
theorem rr163:oA false true [.tuple xs,.int b] P=P .sh (.tuple (cutD xs none (some b))):=rfl
theorem rr164:oj [.int j]=@ite _ (-(2 ^ 62)<=j/\j < 2 ^ 62) (Classical.propDecidable _) (some (kg 0 j.toNat)) none:=rfl
theorem rr165:Dp [.int i,.int j]=@ite _ (-(2 ^ 62)<=i/\i < 2 ^ 62/\-(2 ^ 62)<=j/\j < 2 ^ 62) (Classical.propDecidable _) (some (kg i (j - i).toNat)) none:=rfl
theorem rr166:P0 c [d] P=aB (zk d) fun t=>P .sh (.bool (lR c t)):=rfl
theorem rr167:zk (.int i)=some "int":=rfl
theorem rr168:zk (.tuple i)=some "tuple":=rfl
theorem rr169:zk (.list i)=some "list":=rfl
theorem rr170:zk (.bool b)=some "bool":=rfl
theorem rr171:zk .none=some "NoneType":=rfl
theorem rr172:lR "int" "int"=true:=rfl
theorem rr173:lR "int" "tuple"=false:=rfl
theorem rr174:lR "tuple" "int"=false:=rfl
theorem rr175:lR "tuple" "tuple"=true:=rfl
theorem rr176:lR "bool" "int"=false:=rfl
theorem rr177:lR "list" "list"=true:=rfl
theorem rr178:lR "int" "NoneType"=false:=rfl
theorem rr179:lR "tuple" "NoneType"=false:=rfl
theorem rr180:eY ds [d] P=(ds.length < sizeLine/\P (ds++[d]) .none):=rfl
theorem rr181:qp ds [.list es] P=(ds.length + es.length<=sizeLine/\P (ds++es) .none):=rfl
theorem rr182:uB ds [] P=∃ d,ds[ds.length - 1]?=some d/\P ds.dropLast d:=rfl
theorem rr183:uB ds [.int i] P=((-(2 ^ 63)<=i/\i < 2 ^ 63)/\∃ n d,seqIndex? i ds.length=some n/\ds[n]?=some d/\P (ds.eraseIdx n) d):=rfl
theorem rr184:cG (.nm i) d E=bQ [i] [d] E:=rfl
theorem rr185:cG (.tp is) (.tuple ds) E=bQ is ds E:=rfl
theorem rr186:bQ [] [] E=some E:=rfl
theorem rr187:bf [] E=some E:=rfl
theorem rr188:lP.setI (o::E) i w v Q=match (o::E)[i]?,w with
  | some (some (.ow p,.list ds)),.int a=>aB (wH ds.length a) fun n=>Q ((o::E).set i (some (.ow p,.list (ds.set n v))))
  | some (some (.dk p,.dict kvs)),w=>(qU w=true/\kvs.length < 16777216)/\Q ((o::E).set i (some (.dk p,.dict (putD kvs w v))))
  | some (some (.dt p,.dict (_::kvs))),.tuple ks=>(ks.all qU=true/\kvs.length < 16777216)/\Q ((o::E).set i (some (.dt p,.dict ((.none,.none)::putD kvs (.tuple ks) v))))
  | _,_=>False:=rfl
theorem rr189:D8 ms as (o::E) us k v Q=aB (kc ms as us (o::E)) fun E2=>aB (tE ms as us E2 k v) fun E3=>Q E3 k v:=rfl
theorem rr190:kc [] [] [] E=some E:=rfl
theorem rr191:kc (false::ms) (a::r) us E=kc ms r us E:=rfl
theorem rr192:kc (true::ms) (.pk i::r) (u::us) (o::E)=match (o::E)[i]? with
  | some (some (.ow p,.list _))=>dg (Ah u) (kc ms r us ((o::E).set i (some (.ow p,u)))) none
  | _=>none:=rfl
theorem rr193:Ah (.list l)=true:=rfl
theorem rr194:tE ms as us (o::E) k v=dg ((kept ms as).all (ig (o::E)) || (flat k v && us.all (flat (.ow false)))) (some (o::E)) (jK (kept ms as) (o::E)):=rfl
theorem rr195:kept [] []=[]:=rfl
theorem rr196:kept (false::ms) (.pk i::r)=i::kept ms r:=rfl
theorem rr197:kept (false::ms) (.ev d::r)=kept ms r:=rfl
theorem rr198:kept (true::ms) (a::r)=kept ms r:=rfl
theorem rr199:sF ms as (o::E)=(shape ms as && pU (lent ms as) (kept ms as) (o::E)):=rfl
theorem rr200:lent [] []=[]:=rfl
theorem rr201:lent (true::ms) (.pk i::r)=i::lent ms r:=rfl
theorem rr202:lent (false::ms) (a::r)=lent ms r:=rfl
theorem rr203:shape [] []=true:=rfl
theorem rr204:shape (true::ms) (.pk i::r)=shape ms r:=rfl
theorem rr205:shape (false::ms) (a::r)=shape ms r:=rfl
theorem rr206:∀ {α:Type},([]:List α).length=0:=rfl
theorem rr207:∀ {α:Type}{a:α}{l:List α},(a::l).length=l.length + 1:=rfl
theorem rr208:sizeLine=16777216:=rfl
theorem rr209:∀ {f:DE->Arg},List.map f []=[]:=rfl
theorem rr210:∀ {f:DE->Arg}{a:DE}{l:List DE},List.map f (a::l)=f a::List.map f l:=rfl
theorem rr211:atK (x::l) 0=some x:=rfl
theorem rr212:atK (x::y::l) 1=some y:=rfl
theorem rr213:wH (n + 1) 0=some 0:=rfl
theorem rr214:wH (n + 2) 1=some 1:=rfl
theorem rr215:wH (n + 1 + 1) 1=some 1:=rfl
def Qi:(∀ {x:PyData}{l:VO},eE (x::l) 0=some x)/\(∀ {x y:PyData}{l:VO},eE (x::y::l) 1=some y)/\(∀ {n:Nat},kG (n + 1) 0=some 0)/\(∀ {n:Nat},kG (n + 2) 1=some 1)/\(∀ {n:Nat},kG (n + 1 + 1) 1=some 1)/\(∀ {P:Vb},fS false [.none,.none] P=P .sh (.bool true))/\(∀ {P:Vb},fS true [.none,.none] P=P .sh (.bool false))/\(∀ {i:Int}{P:Vb},fS false [.int i,.none] P=P .sh (.bool false))/\(∀ {i:Int}{P:Vb},fS true [.int i,.none] P=P .sh (.bool true))/\(∀ {i:VO}{P:Vb},fS false [.tuple i,.none] P=P .sh (.bool false))/\(∀ {i:VO}{P:Vb},fS true [.tuple i,.none] P=P .sh (.bool true))/\(∀ {d:PyData}{xs:VO}{P:Vb},eZ false [d,.list xs] P=((xs.all (dl 8)=true/\dl 8 d=true)/\P .sh (.bool (decide (d∈xs)))))/\(∀ {d:PyData}{xs:VO}{P:Vb},eZ true [d,.list xs] P=((xs.all (dl 8)=true/\dl 8 d=true)/\P .sh (.bool !(decide (d∈xs)))))/\(∀ {d:PyData}{xs:VO}{P:Vb},eZ false [d,.tuple xs] P=((xs.all (dl 8)=true/\dl 8 d=true)/\P .sh (.bool (decide (d∈xs)))))/\(∀ {d:PyData}{xs:VO}{P:Vb},eZ true [d,.tuple xs] P=((xs.all (dl 8)=true/\dl 8 d=true)/\P .sh (.bool !(decide (d∈xs)))))/\(∀ {i:Nat}{is:VV}{d:PyData}{ds:VO}{o:Va}{E:En},bQ (i::is) (d::ds) (o::E)=if bL (o::E) i then bQ is ds ((o::E).set i (some (.sh,d))) else none)/\(∀ {i:Nat}{r:VV}{o:Va}{E:En},bf (i::r) (o::E)=if bL (o::E) i then bf r ((o::E).set i none) else none)/\(∀ {i:Nat},List.contains [] i=false)/\(∀ {i j:Nat}{l:VV},List.contains (j::l) i=(i == j || List.contains l i))/\(∀ {α:Type},(([]:List α).Nodup)=True)/\(∀ {i:Nat},([i]:VV).Nodup=True)/\type_of% @sV/\type_of% @xq :=
 ⟨P7,PK,Qm,OM,OM,(by simp [fS]),(by simp [fS]),(by simp [fS]),(by simp [fS]),(by simp [fS]),(by simp [fS]),(by intro d xs P;cases d <;> rfl),(by intro d xs P;cases d <;> rfl),(by intro d xs P;cases d <;> rfl),(by intro d xs P;cases d <;> rfl),rfl,rfl,(by intros;simp),(by intros;rw [List.contains_cons]),(by intros;simp),(by intros;simp),@sV,@xq⟩
def dx:=aI @rr123 <| aI @rr124 <| aI @rr125 <| aI @rr126 <| aI @rr127 <| aI @rr128 <| aI @rr129 <| aI @rr130 <| aI @rr131 <| aI @rr132 <| aI @rr133 <| aI @rr134 <| aI @rr135 <| aI @rr136 <| aI @rr137 <| aI @rr138 <| aI @rr139 <| aI @rr140 <| aI @rr141 <| aI @rr142 <| aI @rr143 <| aI @rr144 <| aI @rr145 <| aI @rr146 <| aI @rr147 <| aI @rr148 <| aI @rr149 <| aI @rr150 <| aI @rr151 <| aI @rr152 <| aI @rr153 <| aI @rr154 <| aI @rr155 <| aI @rr156 <| aI @rr157 <| aI @rr158 <| aI @rr159 <| aI @rr160 <| aI @rr161 <| aI @rr162 <| aI @rr163 <| aI @rr164 <| aI @rr165 <| aI @rr166 <| aI @rr167 <| aI @rr168 <| aI @rr169 <| aI @rr170 <| aI @rr171 <| aI @rr172 <| aI @rr173 <| aI @rr174 <| aI @rr175 <| aI @rr176 <| aI @rr177 <| aI @rr178 <| aI @rr179 <| aI @rr180 <| aI @rr181 <| aI @rr182 <| aI @rr183 <| aI @rr184 <| aI @rr185 <| aI @rr186 <| aI @rr187 <| aI @rr188 <| aI @rr189 <| aI @rr190 <| aI @rr191 <| aI @rr192 <| aI @rr193 <| aI @rr194 <| aI @rr195 <| aI @rr196 <| aI @rr197 <| aI @rr198 <| aI @rr199 <| aI @rr200 <| aI @rr201 <| aI @rr202 <| aI @rr203 <| aI @rr204 <| aI @rr205 <| aI @rr206 <| aI @rr207 <| aI @rr208 <| aI @rr209 <| aI @rr210 <| aI @rr211 <| aI @rr212 <| aI @rr213 <| aI @rr214 <| aI @rr215 <| @Qi
end Dv
namespace L2
open PySem PySem.Spec PyProof.Rows
def EF {K:VL}{mb:VE}{CX:lC}{k:Nat}{fa a:Addr}{sp:Sp}{s₁:Shared}{vs:VQ}{ns:VW}
  (KX:K.In s₁.heap)(hns:s₁.heap.Ns mainGlobals mg)(hb:s₁.heap.Ns builtinsNs mb)(hbb:∀ x:Str,x≠"__name__"->mb x=bootBuiltins x)(hlim:s₁.heap.NoLimit)(hg:s₁.gens=#[])
  (ha:s₁.heap.get? a=some { cls:=.type "list",data:=.seq vs.toArray })(hi:IntsAre vs ns)(hl:ns.length<=sizeLine)(hr:cZ k callerA)
  (F:∀ base:Heap,K.In base->base.Ns mainGlobals mg->gj P w K mg base CX k fa fd [x] sp)(hbind:∀ (s:Shared)(u:Value),BindsTo s fd ⟨[u],[]⟩ [(x,u)])
  (hsp:∀ H:Hp,GH H->Dv.cy K H a (ns.map V.int)->sp [.ref a] H (fun v _=>v=.bl true) fun _ _ _=>False)
  (hCX:∀ H e s',CX [] H s₁ (fun _ _ _=>False) e s'->False) :
  codeAny (model P w) callerA (.call (.ref fa) ⟨[.ref a],[]⟩) (fun r s'=>r=.ok (.ret (.bool true))/\OldK s₁.heap s'.heap/\s'.os=s₁.os/\AllBare s'.gens) s₁:=by
 have rv:=u7 hi;have yE:=hi.length
 -- from an abstract heap in which nothing but the script may be tracked
 have core:∀ H:Hp,GH H->Dv.cy K H a (ns.map V.int)->dI P w H s₁.heap->(∀ b,H b≠none->b=a)->(H a≠none->K.lookup a=none) ->
   codeAny (model P w) callerA (.call (.ref fa) ⟨[.ref a],[]⟩) (fun r s'=>r=.ok (.ret (.bool true))/\OldK s₁.heap s'.heap/\s'.os=s₁.os/\AllBare s'.gens) s₁:=by
  intro H hO hS hok hA hK;have base_of:∀ {b:Addr}{o:Obj},s₁.heap.get? b=some o->H b=none->(nq s₁.heap H).get? b=some o:=fun e n=>Fi e n
  have noA:∀ {b:Addr}{o:Obj}{es:Array DictEntry}{ep:Nat},s₁.heap.get? b=some o->o.data=.dict es ep->H b=none:=fun {b o es ep} e d=>by
   cases q:H b with
   | none=>rfl
   | some u =>
    have e':b=a:=hA b (by rw [q];simp)
    subst e';rw [ha] at e;cases e;have d':Data.seq vs.toArray _=Data.dict es ep:=d;cases d'
  have nsK:∀ {b:Addr}{m:VE},s₁.heap.Ns b m->(nq s₁.heap H).Ns b m:=fun {b m} ⟨o,es,ep,e,d,r⟩=>⟨o,es,ep,base_of e (noA e d),d,r⟩
  have hKb:K.In (nq s₁.heap H):=fun b o e=>base_of (KX b o e) (by
   cases q:H b with
   | none=>rfl
   | some u =>
    have e':b=a:=hA b (by rw [q];simp)
    subst e';rw [hK (by rw [q];simp)] at e;cases e)
  have hM:Mod K mg (nq s₁.heap H):=⟨hKb,nsK hns,⟨mb,nsK hb,hbb⟩,let ⟨mc,h1,h2⟩:=hlim;⟨mc,nsK h1,h2⟩⟩
  have e0:Bf P w K mg (nq s₁.heap H) callerA [] s₁ H:=⟨rfl,hM,fun b o e=>IT e,Sg (DA _ _),trivial,fun b hb=>absurd (show b∈([]:VR) from hb) (by simp),hok,.of_eq hg⟩
  refine Su ((F _ hKb (nsK hns)).run callerA [] s₁ H ⟨[.ref a],[]⟩ [.ref a] [.ref a] _ _ hr e0 (hbind s₁ (.ref a)) (.cons rfl .nil) (hsp H hO hS)) fun r s' h=>?_
  cases r with
  | error e=>exact (hCX H e s' h).elim
  | ok fl =>
   cases fl with
   | next=>exact False.elim h
   | brk=>exact False.elim h
   | cont=>exact False.elim h
   | ret u =>
    obtain ⟨v,H',os,bare,un,hok',r',q⟩:=h;have q':v=.bl true:=q;subst q';obtain rfl:u=Value.bool true:=r';refine ⟨rfl,OldK.of_keep fun b o e=>?_,os,bare⟩
    cases q:H b with
    | none=>exact un.keep b o e q (by intro z;exact absurd (show b∈([]:VR) from z) (by simp)) (by simp)
    | some u =>
     rcases hO b with z | ⟨ob,xs,z⟩
     ·rw [q] at z;cases z
     ·have z2:=un.jB b ob _ z;obtain ⟨e1,_⟩:=hok b _ z;obtain ⟨e2,_⟩:=hok' b _ z2;rw [e] at e1;cases e1;exact e2
 cases hk:K.lookup a with
 | some o =>
  -- the script is one of the module's own objects
  have e:=KX a o hk;rw [ha] at e;cases e;refine core (fun _=>none) (fun _=>.inl rfl) (.inr ⟨vs,_,hk,by rw [yE];exact hl,rv⟩) (fun b u z=>by have z':(none:Option HO)=some u:=z;cases z') (fun b z=>absurd rfl z) fun z=>absurd rfl z
 | none =>
  refine core (fun b=>if b=a then some (.iI { cls:=.type "list",data:=.seq vs.toArray } (.lst (ns.map V.int))) else none) (fun b=>?_) (.inl (.inr ⟨{ cls:=.type "list",data:=.seq vs.toArray },if_pos rfl⟩)) (fun b u z=>?_) (fun b z=>?_) fun _=>hk
  ·by_cases hb:b=a
   ·exact .inr ⟨_,_,if_pos hb⟩
   ·exact .inl (if_neg hb)
  ·by_cases hb:b=a
   ·have z':=(if_pos hb).symm.trans z;cases z';subst hb;exact ⟨ha,by rw [Q8];exact hl,vs,_,rv,ha⟩
   ·have z':=(if_neg hb).symm.trans z;cases z'
  ·by_cases hb:b=a
   ·exact hb
   ·exact absurd (if_neg hb) z
def MA {l:PySem.W.OpenLaw}{n k:Nat}{YP:World->Heap->Prop}{d:DefRec}{K:Params->VL}{CX:World->lC}{sp:World->Sp}
  (hn:l.most=some n)(hn2:n<=sizeLine)(hdf:d.params.defaults=[])(hr:cZ k callerA)
  (hY:∀ (w:World)(h:Heap),YP w h->(K w.params).In h)
  (F:∀ (w:World)(mg:VE)(fa:Addr)(h:Heap),(K w.params).In h->h.Ns mainGlobals mg->mg d.name=some (.ref fa) ->
   ∃ fd:FuncData,(∀ (s:Shared)(u:Value),BindsTo s fd ⟨[u],[]⟩ [(x,u)]) /\
    ∀ base:Heap,(K w.params).In base->base.Ns mainGlobals mg->gj l.prog w (K w.params) mg base (CX w) k fa fd [x] (sp w))
  (hsp:∀ (w:World)(H:Hp)(a:Addr)(ns:VW),ns.length<=n->GH H->Dv.cy (K w.params) H a (ns.map V.int)->sp w [.ref a] H (fun v _=>v=.bl true) fun _ _ _=>False)
  (hCX:∀ (w:World)(H:Hp)(s:Shared)(e:Value)(s':Shared),CX w [] H s (fun _ _ _=>False) e s'->False) :
  PySem.W.WalkO q loose XP YP l.row.toRowW d [] (fun f vs=>PySem.call f vs):=by
 refine OH.zN hn hdf fun w s₀ s₁ mg mb fa o pm cd doc a vs ns G Vf ho hd hcd hmg hobj hints hlen hg=>?_
 have KX:=hY w _ Vf;obtain ⟨fd,hb,hF⟩:=F w mg fa _ KX G.T.g hmg;exact EF KX G.T.g G.T.b G.T.builtins G.T.nolimit hg hobj hints (QW hlen hn2) hr hF hb (fun H hO hS=>hsp w H a ns hlen hO hS) fun H e s'=>hCX w H s₁ e s'
end L2
namespace Dv
open PySem L2 PySem.W
inductive zX (K:Frag)(vs:List V)(H:Hp)(Q:VK):Prop
 | mk:∀ (a:Addr)(ns:VW),(vs=[.ref a])->(cy K H a (ns.map V.int))->(ns.length<=63)->(∀ H',Q (.bl true) H')->zX K vs H Q
def Cq (K:Frag):Sp:=fun vs H Q _E3=>zX K vs H Q
def uy:bD:=fun ds Q x=>∃ ns:VW,ds=[.list (ns.map .int)]/\ns.length<=63/\Q [] .sh (.bool true)
def Kh (h:Cq K vs H Q E):cB mg K [false] uy vs H Q E:=by
 obtain ⟨a,ns,rfl,r,hl,q⟩:=h;refine ⟨[.list (ns.map .int)],[],H,fun _ _ r=>r=.bool true,xF,ah.refl _,.sh (.lst r (kR ns)) .nil,⟨ns,rfl,hl,rfl⟩,fun us k r u H' Hm' fp e _ _ _ _ _ o _=>?_,fun _ _ _ _ _ _ z=>z.elim⟩
 cases e;cases o with
 | sh h=>cases h;exact q H'
def Cu {l:OpenLaw}{YP:World->Heap->Prop}{d:DefRec}{K:Params->Frag}{k:Nat}(hn:l.most=some 63)(hdf:d.params.defaults=[])(hr:cZ k callerA)
  (hY:∀ (w:World)(h:Heap),YP w h->(K w.params).In h)
  (F:∀ (w:World)(mg:VE)(fa:Addr)(h:Heap),(K w.params).In h->h.Ns mainGlobals mg->mg d.name=some (.ref fa) ->
   ∃ fd:FuncData,(∀ (s:Shared)(u:Value),BindsTo s fd ⟨[u],[]⟩ [("script",u)])/\∀ base:Heap,(K w.params).In base->base.Ns mainGlobals mg->gj l.prog w (K w.params) mg base (fh l.prog w) k fa fd ["script"] (cB mg (K w.params) [false] uy)) :
  WalkO q loose XP YP l.row.toRowW d [] (fun f vs=>PySem.call f vs) :=
 L2.MA (n:=63) (k:=k) (x:="script") (CX:=fun w=>fh l.prog w) (sp:=fun w=>Cq (K w.params)) hn (by decide) hdf hr hY (fun w mg fa h h1 h2 h3=>by
  obtain ⟨fd,hb,hF⟩:=F w mg fa h h1 h2 h3;exact ⟨fd,hb,fun base g1 g2=>(hF base g1 g2).imp fun vs H Q E z=>Kh z⟩) (fun _ _ a ns hl _ hS=>⟨a,ns,rfl,hS,hl,fun _=>rfl⟩) fun w H s e s' z=>by
  obtain ⟨_,_,_,_,_,_,_,_,_,_,_,_,_,_,z⟩:=z;exact z.elim
def tT:DR:=fun ds P=>∃ ps:VJ,ds=[.list (ps.map pD)]/\ps.length<=1000/\∀ qs:VJ,qs.Perm ps->P (.ow false) (.list (qs.map pD))
def Gx:∀ {zs ys:List V},zs.Perm ys->∀ {ps:VJ},aA K H ys (ps.map pD)->∃ qs:VJ,qs.Perm ps/\aA K H zs (qs.map pD):=by
 intro zs ys h
 induction h with
 | nil=>intro ps r;exact ⟨ps,.refl _,r⟩
 | cons x _ ih =>
  intro ps r;cases ps with
  | nil=>cases r
  | cons p ps =>
   cases r with
   | cons h t =>
    obtain ⟨qs,pq,r'⟩:=ih t;exact ⟨p::qs,pq.cons _,.cons h r'⟩
 | swap x y l =>
  intro ps r
  match ps,r with
  | p::p2::ps,.cons h (.cons h2 t)=>exact ⟨p2::p::ps,Tt _ _ _,.cons h2 (.cons h t)⟩
 | trans _ _ ih1 ih2 =>
  intro ps r;obtain ⟨q1,p1,r1⟩:=ih2 r;obtain ⟨q2,p2,r2⟩:=ih1 r1;exact ⟨q2,p2.trans p1,r2⟩
def EB:cP K tT (EJ K):=by
 rintro H Hm vs ds P Q s r ⟨ps,rfl,hn,h⟩ q;obtain ⟨x,rfl,h1⟩:=dO r;obtain ⟨a,xs,rfl,ha,r1⟩:=gz h1;have l1:xs.length=ps.length:=by rw [r1.len,Q8]
 refine ⟨a,xs,rfl,(cy.mono s ha).sq,fun y hy=>?_,by rw [l1];exact hn,fun zs p pm hp=>?_⟩
 ·obtain ⟨i,hi⟩:=Rt hy;obtain ⟨d,e,r'⟩:=r1.KI hi;rw [QN] at e;obtain ⟨p,_,rfl⟩:=S7.mp e;cases r' with
  | tup b r2 =>
   obtain ⟨x,y,rfl,h2,h3⟩:=cO r2;cases h2;cases h3;exact ⟨_,_,_,rfl,cj.of (s _ _ b)⟩
 ·obtain ⟨qs,pq,r'⟩:=Gx pm r1;exact bG.nl q s (h qs pq) hp r'
section
variable {X:Cx}{Ex:XK}{Y:VV}{a:Expr}{p pos:Pos}{as:List Arg}
def Nd (hm:X.mg "sorted"=none)(S:aU X Ex Y [a] as)(hg:Gl X "sorted":=by rfl)(ns:noStar a=true:=by rfl):SE X Ex Y (.Call (.Name "sorted" p) [a] [] pos) (aa tT as):=fB yW EB hg hm V1 (by decide) (by decide) (by rw [QM,ns];rfl) S
end
end Dv
namespace Dv
open PySem L2 PySem.W PyProof.Rows
def vV {M:Model}{A:Around}{E:VC}{s:Shared}{a b:Value}{T id:String}{Q:VC}(ha:s.TypeIs a T)(hb:s.TypeIs b T)(hl:typeLookup (.type T) (dunderI "add")=pure (some (.builtin id)))(hi:isSeqSlotId id=true)(hfill:fillsNumberSlot (.type T) "add"=pure false)
  (hc:wpAny M A (call (.builtin id) [a,b]) Q E s):wpAny M A (inplaceOp .Add a b) Q E s:=by
 unfold inplaceOp;refine RX ?_;have hfi:fillsInplaceSlot (.type T) "add" (Operator.Add == .Add)=pure false:=by
  unfold fillsInplaceSlot;show (typeLookup (.type T) (dunderI "add") >>= fun fi=>pure (fi.isSome && !isSeqSlot fi))=pure false
  rw [hl];show (pure ((some (Value.builtin id)).isSome && !isSeqSlotId id):Sem Bool)=pure false;rw [hi];rfl
 have hsi:seqSlot? (.type T) (dunderI "add")=pure (some (.builtin id)):=PySem.seqSlot_of hl hi;refine Q0 (Sw ha (Q0 (Tq hfi ?_)));show wpAny M A (if false=true then _ else _) Q E s
 rw [if_neg Qu];refine Q0 (binaryOp1_none (nm:="add") ha hb hfill ?_);refine Q0 (Tq hsi ?_);exact Q0 (Ra hc)
def PY (K:Frag):C6:=fun x y H Q=>∃ l b xs zs,x=.ref l/\y=.ref b/\H l=some (.lst xs)/\cy K H b zs/\xs.length + zs.length<=sizeLine/\Q (.ref l) (upd H l (.lst (xs++zs)))
section
variable {X:Cx}{Ex:XK}
def JG:Et X .Add (PY X.K):=by
 intro pins s U H x y v u Q I rx ry h;obtain ⟨l,b,xs,zs,rfl,rfl,hH,hB,hz,q⟩:=h;cases rx;cases ry;obtain ⟨z,its,n,r,hl,e⟩:=I.wU hH;obtain ⟨z2,its2,n2,r2,e2⟩:=hB.get I;have hl2:=r2.length;have hsz:its.toArray.size + its2.toArray.size<=sizeLine:=by rw [QJ,QJ];lia
 have hlong:¬ (!its.toArray.isEmpty && Builtin.List.listTooLong (its.toArray.size + its2.toArray.size))=true:=by
  rw [q9 hsz,Bool.and_false];exact Qu
 refine vV (T:="list") ⟨_,e,rfl⟩ ⟨_,e2,rfl⟩ F.slot_list_iadd.lookup (by decide +kernel) noFill_list_add ?_
 refine Sa F.slot_list_iadd ⟨_,e,rfl⟩ F.entry_list_iadd (F.args_list_iadd_2 _ _)
  (AutoSeq1.list___iadd___list_list_0 l its.toArray n b its2.toArray n2 hlong (by rw [QJ];lia) (by lia)) ⟨e,e2,?_⟩
 refine ⟨.ref l,_,I.xP (its':=its++its2) hH e (by simp) (r.append r2) ?_,rfl,q⟩
 rw [QE];lia
def Oh {i:Nat}(hN:X.N.Nodup)(hi:X.N[i]?=some x)(hl:Loc X.env.scope x)(hf:X.fn x=true\/X.env.scope.names.lookup x=some .local)(h:SE X Ex (aH X) e d):S1 X Ex (.AugAssign (.Name x pos') .Add e pos) (zc sizeLine i d):=by
 intro g D' E U H Hm F D hx R p nx rt;obtain ⟨hh,p⟩:=p;have hh':here E i=true:=by
  unfold jw at hh;unfold here;split at hh
  ·rename_i q;rw [q]
  ·cases hh
 obtain ⟨v0,hv0⟩:=jW R hh';refine WS.of (Fd hN hi hl bP JG hf) ⟨v0,eX (fP (aZ hi)) hv0,h g D'.xc E U H Hm F _ _ hx R p fun E' k v u H' Hm' F' fp p' R' s' T=>?_⟩
 obtain ⟨fz,pp,ds,es,e1,rfl,hlen,p'⟩:=p';obtain ⟨Hm2,up,R2,rp⟩:=T.iI R' fz;obtain ⟨b,zs,rfl,hb,rz⟩:=gz rp;obtain ⟨v1,h1,h2⟩:=R2.slot i _ _ e1;rw [hv0] at h1;cases h1;generalize hfi:F' i=fi at h2;cases h2 with
 | @ow _ a xs _ ha rx =>
  obtain ⟨a',xs',g1,g2,g3,g4,R3⟩:=R2.chg (es:=ds++es) e1 (rx.app rz);rw [hv0] at g1;cases g1;rw [ha] at g2;cases g2;refine ⟨a,b,xs,zs,rfl,rfl,ha,cy.mono R2.sub hb,by rw [rx.len,rz.len];exact hlen,?_⟩
  show D.nx ((sel (aH X) U).set i (some (.ref a))) _;have hsel:(sel (aH X) U).set i (some (.ref a))=sel (aH X) U:=by
   refine Rx fun j=>?_
   rw [TR]
   by_cases c:i=j
   ·subst c;have:=eX (fP (aZ hi)) hv0;rw [if_pos rfl,this,if_pos];rcases RL i (sel (aH X) U).length with z | z
    ·exact z
    ·rw [RG z] at this;cases this
   ·rw [if_neg c]
  rw [hsel];exact nx _ _ _ _ _ p' R3 (s'.trans up)
def OV (i:Nat)(hN:X.N.Nodup)(h:SE X Ex (aH X) e d)(hi:X.N[i]?=some x:=by rfl)(hl:Loc X.env.scope x:=by first | exact Or.inl rfl | exact Or.inr rfl)(hf:X.fn x=true\/X.env.scope.names.lookup x=some .local:=by first | exact Or.inl rfl | exact Or.inr rfl):S1 X Ex (.AugAssign (.Name x pos') .Add e pos) (zc sizeLine i d):=Oh hN hi hl hf h
end
end Dv
namespace Dv
open PySem L2 PySem.W
def Rec (K:Frag) (x:Str)(st:Stmt):Prop:=∃ (f:Addr)(fd:FuncData),nsIn K mainGlobals x=some (some (.ref f))/\sI K x x st f fd
def Mn {K:Frag}{x:Str}{st:Stmt}{f:Addr}{oc:Value}{od an:VP}{osl:VB}{kV doc pm cdv ct:Value}(n:nsIn K mainGlobals x=some (some (.ref f)))(l:K.lookup f=some ⟨oc,od,.func (fnOf x x (kB st) (iJ st) (av st) .none kV doc pm an cdv ct),osl⟩)
  (c:codeIn K cdv x=true)(k:keepIn K (.ref f)=true):Rec K x st:=⟨f,_,n,Lj l c k⟩
def wK (K:Frag) (x:Str):Prop:=∃ C,nsIn K mainGlobals x=some (some (.ref C))/\gX K C vz "ValueError.__new__" none=true
def Jy {K:Frag}{x:Str}{C:Addr}(h1:nsIn K mainGlobals x=some (some (.ref C)))(h2:gX K C vz "ValueError.__new__" none=true):wK K x:=⟨C,h1,h2⟩
def br {P:Program}{w:World}{K:Frag}{base:Heap}{mg:VE}{k:Nat}{x:Str}{ps:VX}{sp:Sp}{st:Stmt}(N:∃ h:Heap,K.In h/\h.Ns mainGlobals mg)(r:Rec K x st)
  (b:∀ (kV doc pm:Value)(an:VP)(cdv ct:Value)(us:VQ),us.length=ps.length->bindArgs (fnOf x x (kB st) (iJ st) (av st) .none kV doc pm an cdv ct) ⟨us,[]⟩=pure (ps.zip us))
  (ok:∀ {f:Addr}{fd:FuncData},sI K x x st f fd->gj P w K mg base (fh P w) k f fd ps sp):bV P w K mg base k x ps sp:=by
 obtain ⟨f,fd,n,F⟩:=r;obtain ⟨h,X,G⟩:=N;exact ⟨f,fd,mg_of X G n,F.kp,F.binds b,ok F⟩
end Dv
namespace SM
open PySem PySem.SetTable PySem.W PyProof.Rows
section
variable {prog:Program}{w:World}{A:Around}{E:VC}{s:Shared}{es:Array Ent}{ep:Nat}{a it:Addr}
def zH (hh:A.handled=none)(ho:s.heap.get? a=some o)(T:mz (intKind prog w) o ks)(few:ks.length<=63)
  (q:∀ (h':Heap) (tk:Nat)(p:Addr)(out:VN)(ms:VW) (n:Nat),(∀ b o',s.heap.get? b=some o'->h'.get? b=some o')->s.heap.get? p=none->h'.get? p=some (seqObj "list" out n)->L2.Vals (ms.map L2.V.int) out.toList->(∀ x,x∈ms↔x∈ks)->ms.length=ks.length->ms.Pairwise (·<=·)->Q (.ref p) { s with heap:=h',toks:=tk }) :
  wpAny (model prog w) A (call (.builtin "sorted") [.ref a]) Q E s:=by
 obtain ⟨ex,es,ep,t,hd,TBt,_,_,pl,ld,sp⟩:=T;have S:gF w s.heap a es ep:=⟨o,t,ho,ex,hd,TBt.fits,TBt.ri,TBt.sz,pl,ld⟩;have el:=sp.len;refine Calls.call_function_entry kind_sorted plain_sorted entry_sorted (args_sorted1 _) (?_:_)
 unfold Builtin.«sorted»;refine Q0 (m:=checkCount "sorted" 1 1 _) (Q5 (?_:_))
 refine Q0 (zz (by simpa using hh) S (by lia) fun h' tk kp sz=>?_)
 have pe:=yN w a ep es;have eint:∀ l:List Ent,(∀ e∈l,∃ k,k∈ks/\Bl (intKind prog w) e k)->∃ ns:VW,IntsAre (l.map (·.2)) ns/\∀ x,x∈ns↔∃ e∈l,Bl (intKind prog w) e x:=fun l=>by
  induction l with
  | nil=>exact fun _=>⟨[],.nil,fun x=>⟨fun h=>(nomatch h),fun ⟨e,h,_⟩=>(nomatch h)⟩⟩
  | cons e l ih =>
   intro h;obtain ⟨ns,h1,h2⟩:=ih fun e' he'=>h e' (Q7 _ he')
   obtain ⟨k,_,h3,h4,h5⟩:=h e Q2;obtain ⟨tk,h6⟩:=Value.isInt_shape h3;obtain ⟨eh,ev⟩:=e;dsimp only at h4 h6;subst h6;refine ⟨k::ns,.cons k tk h1,fun x=>?_⟩
   rw [Q9,h2 x];constructor
   ·rintro (rfl | ⟨e',h7,h8⟩)
    ·exact ⟨_,Q2,h3,h4,h5⟩
    ·exact ⟨e',Q7 _ h7,h8⟩
   ·rintro ⟨e',h7,h8⟩;rcases Q9.mp h7 with rfl | h7
    ·exact .inl ((intKind prog w).inj _ _ _ h8.1 h3)
    ·exact .inr ⟨e',h7,h8⟩
 obtain ⟨ns,hI,hns⟩:=eint (dF w a ep es).toList fun e he=>sp.ok e (pe.mem_iff.mp he)
 have vl:((dF w a ep es).toList.map (·.2)).length=ks.length:=by
  rw [Q8,pe.length_eq]
  simpa using el
 have mem:∀ x,x∈ns↔x∈ks:=fun x=>by
  rw [hns x];constructor
  ·rintro ⟨e,h1,h2⟩;obtain ⟨k,h3,h4⟩:=sp.ok e (pe.mem_iff.mp h1);exact (intKind prog w).inj _ _ _ h2.1 h4.1 ▸ h3
  ·intro h;obtain ⟨e,h1,h2⟩:=sp.on x h;exact ⟨e,pe.mem_iff.mpr h1,h2⟩
 generalize (dF w a ep es).toList.map (·.2)=vs at *;refine Q0 (UU (hsz:=QW (show vs.length<=63 by lia) (by decide)) (?_:_))
 have g0:(h'.push (seqObj "list" vs.toArray 0)).get? h'.objs.size=some (seqObj "list" vs.toArray 0):=R7 _ rfl;refine Q0 (RX (S6 slot_list_sort ⟨_,g0,rfl⟩ entry_list_sort (list_sort_tree g0 hI (by lia) fun out ms a1 a2 a3=>⟨_,rfl,(?_:_)⟩) (args_list_sort _)))
 obtain ⟨n,hn⟩:=sortedHeap_at (vs:=vs) (out:=out) g0;have hlen:ns.length=ks.length:=by
  rw [<- vl];exact (L2.iY hI).length.symm ▸ (by simp)
 refine Q5 ⟨_,rfl,q _ _ h'.objs.size out ms n (fun b o' hb=>?_) (TU (Ry sz)) hn (L2.iY a1) (fun x=>by rw [a2.mem_iff,mem x]) (a2.length_eq.trans hlen) a3⟩
 have hb':=kp b o' hb;have lt:=QD hb';rw [sortedHeap_old (QG lt) (by rw [size_push'];exact S9 lt)]
 exact QL _ hb'
end
end SM
namespace L2
open PySem PySem.Spec PyProof.Rows
section
variable {X:Cx}
def vY (hc:X.calm=true):b8 X (.builtin "sorted") (fun xs H Q=>∃ (a:Addr)(ks:VW),xs=[.ref a]/\H a=some (ua X.prog X.w a ks)/\ks.length<=63/\∀ (ms:VW)(p:Addr),(∀ x,x∈ms↔x∈ks)->ms.length=ks.length->ms.Pairwise (·<=·)->H p=none->Q (.ref p) (upd H p (.lst (ms.map V.int)))):=by
 intro pins s U H xs us Q I r h;obtain ⟨a,ks,rfl,ha,few,q⟩:=h;obtain ⟨u,rfl,ru⟩:=vals1 r;cases ru;obtain ⟨⟨o,z1,z2⟩,_⟩:=I.hok a _ ha;refine SM.zH (I.ok.hd hc) z1 z2 few fun h' tk p out ms n kp new hp rm mem ml srt=>?_
 have I2:=I.v9 (a:=p) (o:=.lst (ms.map V.int)) (t':=tk) (h':=h') kp new
  ⟨by rw [Q8,ml];exact QW few (by decide),out.toList,n,rm,by simpa using hp⟩
 exact ⟨.ref p,_,I2,rfl,q ms _ mem ml srt (I.iG new)⟩
end
end L2
namespace Dv
open PySem L2 PySem.W
def yS:DR:=fun ds P=>∃ ns:VW,ds=[.list (ns.map .int)]/\ns.length<=63/\∀ ms:VW,(∀ x,x∈ms↔x∈ns)->ms.Pairwise (· < ·)->P (.ow false) (.list (ms.map .int))
def Az (s:ah H H2){a:Addr}(h:H2 a=none):H a=none:=by
 cases e:H a with
 | none=>rfl
 | some o=>rw [s _ _ e] at h;cases h
def bG.up (q:bG K H Hm P Q)(s:ah H H2):bG K H2 Hm P Q:=fun k v u H' Hm' fp pp s1 s2 s3 od o fr =>
 q k v u H' Hm' fp pp (s.trans s1) s2 s3 (fun a ha=>od a fun z=>ha (Az s z)) o fun a ha=>⟨Az s (fr a ha).1,(fr a ha).2⟩
theorem zo {α:Type} [DecidableEq α]:∀ {l:List α},¬ l.Nodup->∃ k:List α,k.length + 1=l.length/\∀ x∈l,x∈k
 | [],h=>absurd SA h
 | a::l,h=>by
  by_cases c:a∈l
  ·exact ⟨l,rfl,fun x hx=>(Q9.mp hx).elim (fun e=>e ▸ c) id⟩
  ·obtain ⟨k,h1,h2⟩:=zo (l:=l) fun z=>h (R8.mpr ⟨c,z⟩)
   refine ⟨a::k,by rw [QH,QH,h1],fun x hx=>?_⟩
   rcases Q9.mp hx with rfl | hx
   ·exact Q2
   ·exact Q7 _ (h2 x hx)
theorem x6 {α:Type} [DecidableEq α]:∀ {l k:List α},l.Nodup->(∀ x∈l,x∈k)->l.length<=k.length
 | [],_,_,_=>Qw _
 | a::l,k,h,s=>by
  obtain ⟨h1,h2⟩:=R8.mp h;have m:=s a Q2;have:=x6 (l:=l) (k:=k.erase a) h2 fun x hx=>(V3 (fun z:x=a=>h1 (z ▸ hx))).mpr (s x (Q7 _ hx))
  rw [V4 m] at this;have:=Tz m;rw [QH];lia
def Ol {α:Type} [DecidableEq α]{l k:List α}(h:k.Nodup)(s:∀ x∈k,x∈l)(e:l.length=k.length):l.Nodup:=by
 by_cases c:l.Nodup
 ·exact c
 ·obtain ⟨l',h1,h2⟩:=zo c;have:=x6 h fun x hx=>h2 x (s x hx)
  lia
section
variable {X:Cx}{Ex:XK}{Y:VV}{a:Expr}{as:List Arg}{p p2 pos pos2:Pos}
abbrev HC (X:Cx):List V->Hp->VK->Prop:=fun xs H Q=>∃ (a:Addr)(ns:VW),xs=[.ref a]/\bX X.K H a (ns.map V.int)/\ns.length<=126/\∀ (p:Addr)(ks:VW),H p=none->(∀ x,x∈ks↔x∈ns)->ks.Nodup->Q (.ref p) (upd H p (ua X.prog X.w p ks))
abbrev Iz (X:Cx):List V->Hp->VK->Prop:=fun xs H Q=>∃ (a:Addr)(ks:VW),xs=[.ref a]/\H a=some (ua X.prog X.w a ks)/\ks.length<=63/\∀ (ms:VW)(p:Addr),(∀ x,x∈ms↔x∈ks)->ms.length=ks.length->ms.Pairwise (·<=·)->H p=none->Q (.ref p) (upd H p (.lst (ms.map V.int)))
def Cs:cP X.K yS fun vs H Q=>HC X vs H fun v H1=>Iz X [v] H1 Q:=by
 rintro H Hm vs ds P Q s r ⟨ns,rfl,hn,h⟩ q;obtain ⟨x,rfl,h1⟩:=dO r;obtain ⟨a,xs,rfl,ha,r1⟩:=gz h1;cases m7 r1;refine ⟨a,ns,rfl,(cy.mono s ha).sq,by lia,fun p ks hp hm nd=>?_⟩
 refine ⟨p,ks,rfl,aL,QW (x6 nd fun x hx=>(hm x).mp hx) hn,fun ms p' m1 m2 m3 hp'=>?_⟩
 have sH:=cg (o:=ua X.prog X.w p ks) hp;refine bG.nl (bG.up q sH) (s.trans sH) (h ms (fun x=>(m1 x).trans (hm x)) ?_) hp' (kR ms)
 have nm:=Ol nd (fun x hx=>(m1 x).mpr hx) m2
 exact (m3.and nm).imp fun ⟨u,v⟩=>by lia
def Lk (hm:X.mg "sorted"=none)(hm2:X.mg "set"=none)(S:aU X Ex Y [a] as)(hc:X.calm=true:=by rfl)(hg:Gl X "sorted":=by rfl)(hg2:Gl X "set":=by rfl)(ns:noStar a=true:=by rfl):SE X Ex Y (.Call (.Name "sorted" p) [.Call (.Name "set" p2) [a] [] pos2] [] pos) (aa yS as) :=
 i9 (r:=fun vs H Q=>HC X vs H fun v H1=>Iz X [v] H1 Q) S (fun U H Q h=>WE.of (zj (vY hc) hg hm V1 (qd (lM (CY hc) hg2 hm2 PyProof.Rows.boot_set (dW (es:=[a]) (by rw [QM,ns];rfl)) (by decide) (by decide) (b5 ns) (gc rfl)) tw) (by decide) (by decide) rfl rfl) h) Cs
end
end Dv
namespace L2
open PySem PySem.Spec PyProof.Rows PySem.W
def Od (K:Frag)(B:Addr)(tb:VF->HD->TS)(th:Addr->TS):TS:=fun D U H=>∀ pins,tb pins (fun σ1 C a H1=>exmOne K (.ref C) (.ref B)=some true/\th a D σ1 H1) D U H
section
variable {X:Cx}{x:Str}{np hpos pos:Pos}{B:Addr}{body suite:VU}{b₀:Stmt}{tb:VF->HD->TS}{th:Addr->TS}
def Jg (hx:X.ex=[])(hst:X.stack=X.env::X.outer)(hfr:X.env.frame=some X.env.locals)(hg:Gl X x)(hm:X.mg x=some (.ref B))
  (hb:∀ pins Hd,lI (gS X pins Hd) body (tb pins Hd))(hh:∀ a,lI (EE X a) (b₀::suite) (th a))(hdb:(x == ("__debug__":Str))=false:=by decide) :
  PS X (.Try body [.ExceptHandler (some (.Name x np)) none (b₀::suite) hpos] [] [] pos) (Od X.K B tb th):=by
 intro pins s U H D I h;refine wpAny_Try_except (Qq (hb pins _ [] s U H D I.Nl (h pins)) (fun f s1 h1=>?_) fun e s1 h1=>?_)
 ·cases f with
  | next =>
   obtain ⟨σ',H',J,q⟩:=h1;exact TZ ⟨σ',H',J.sU,q⟩
  | brk =>
   obtain ⟨σ',H',J,q⟩:=h1;exact ⟨σ',H',J.sU,q⟩
  | cont =>
   obtain ⟨σ',H',J,q⟩:=h1;exact ⟨σ',H',J.sU,q⟩
  | ret u =>
   obtain ⟨v,σ',H',J,r,q⟩:=h1;exact ⟨v,σ',H',J.sU,r,q⟩
 ·obtain ⟨a,C,T,σ1,H1,rfl,J,O,mT,na,ha,hxm,q⟩:=h1;refine Kn (base:=X.base) (L:=X.env.locals) (by rw [<- hst];exact J.ok.frames) (by rw [<- hst];exact J.stack) hfr O fun h' T2 n2 k sl O2=>?_
  have m2:=J.GK hx n2;have J2:Inv X pins σ1 H1 { s1 with heap:=h' }:=J.way (Nw:=fun b=>b=T\/b=T2) ha na (fun b z=>by rcases z with rfl | rfl;exact mT;exact m2)
   (fun b o b1 b2 b3 e=>k b o b1 (fun z=>b2 (.inl z)) (fun z=>b2 (.inr z)) (by rw [<- hst];exact b3) e) (fun b o b1 b2 e=>sl b o b1 (fun z=>b2 (.inl z)) (fun z=>b2 (.inr z)) e) O2.OJ
  refine wpAny_handleBy_cons (codeAny_handlers_test ?_) (by intro z;cases z)
  refine qg (X:=EE X a) J2.LW hg hm ?_ hdb;obtain ⟨t0,v2,v3,v4,v5,sl0,oT,ts,he,hTe,hT,hdT,h3⟩:=id O2;have L:Looks (model X.prog X.w) h' (excMatches (.ref a) (.ref B)) true:=exm_one J2.qG ((Looks.ld he).andThen .now) hxm;refine L.here ?_;show codeAny _ _ _ _ _;refine codeAny_handlers_suite ?_;refine wpAny_setFlight_none he rfl (tb:=T2) rfl hT hdT (Tf.mp h3).1 ?_;have hup:∀ b,b≠T2->(h'.update T2 (Obj.mapFields (·.setIfInBounds 3 Value.none))).get? b=h'.get? b:=fun b z=>RY _ _ (Ne.symm z)
  have J3:Inv X pins σ1 H1 { s1 with heap:=h'.update T2 (Obj.mapFields (·.setIfInBounds 3 Value.none)) }:=J2.way (s:={ s1 with heap:=h' }) (Nw:=fun b=>b=T2) ha na (fun b z=>by rw [z];exact m2)
   (fun b o b1 b2 b3 e=>(hup b b2).trans e) (fun b o b1 b2 e=>⟨o.slots,(hup b b2).trans e⟩) ⟨t0,_,v2,v3,v4,v5,sl0,(hup a (Ne.symm hTe)).trans he⟩
  refine Qq (hh a pins _ _ H1 D J3.LW q) (fun f s5 h5=>?_) fun _ _ z=>z.elim
  cases f with
  | next =>
   obtain ⟨σ',H',J5,q5⟩:=h5;exact ⟨_,H',J5.BF I.ok,q5⟩
  | brk =>
   obtain ⟨σ',H',J5,q5⟩:=h5;exact ⟨_,H',J5.BF I.ok,q5⟩
  | cont =>
   obtain ⟨σ',H',J5,q5⟩:=h5;exact ⟨_,H',J5.BF I.ok,q5⟩
  | ret u =>
   obtain ⟨v,σ',H',J5,r5,q5⟩:=h5;exact ⟨v,_,H',J5.BF I.ok,r5,q5⟩
end
end L2
namespace Dv
open PySem L2 PySem.W
def Mg (c:Str):PyData:=.dict [(.none,.str c)]
def t7 (c b:Str):Bool:=decide (b=c) || (decide (b="HailError") || decide (b="ValueError"))
abbrev XH:=En->Str->Prop
abbrev DB:=XH->gE->En->Prop
def Ec (o:Option Nat)(E:En)(k:Kd)(v:PyData)(Q:Vd):Prop:=match o with
 | none=>Q E
 | some i=>bK (gh E i) (Q (E.set i (some (k,v))))
def HS (sp:bD)(as:List Arg)(o:Option Nat):DB:=fun h D E=>jj as xF E fun E1 os=>aB (cL as E1 os) fun ds=>bK ((f6 as).all (ig E1)) (sp ds (fun _ k v=>Ec o E1 k v D.nx) (fun c _=>h E1 c))
def P5 (t:DT)(a b:DB):DB:=fun h D E=>t xF E fun E1 c=>dg c (a h D E1) (b h D E1)
def OY (cs:VX) (B:Str)(b:DB) (i:Nat)(t:DS):DS:=fun D E=>b (fun E1 c=>bK (cs.contains c && t7 c B) (bK (gh E1 i) (t { nx:=fun E2=>bK (gh E2 i) (D.nx (E2.set i none)),rt:=D.rt,xc:=xF } (E1.set i (some (.sh,Mg c)))))) D E
def Cn (cs:VX) (B:Str)(b:DB)(t:DS):DS:=fun D E=>b (fun E1 c=>bK (cs.contains c && t7 c B) (t { D with xc:=xF } E1)) D E
def SB (X:Cx)(st:VU)(d:DB):Prop:=∀ (pins:VF)(Hd:HD)(g:Gh)(h:XH)(D':gE)(E:En)(U:St)(H Hm:Hp)(F:Nat->VR)(D:Ends),Rl X.K g E U H Hm F->d h D' E ->
  (∀ E' σ' H' Hm' F',D'.nx E'->Rl X.K g E' σ' H' Hm' F'->ah Hm Hm'->D.nx (sel (aH X) σ') H') ->
  (∀ E' c C a H' Hm' F',h E' c->X.mg c=some (.ref C)->Rl X.K g E' U H' Hm' F'->ah Hm Hm'->Hm' a=some (.ext (iZ a C none))->Hd (sel (aH X) U) C a H')->nX (gS X pins Hd) st D (sel (aH X) U) H
section
variable {X:Cx}{Ex:XK}
def NO:∀ {ms:VS}{vs:List V}{ds:VO},aA K Hm vs ds->ms.length=ds.length->ms.all (!·)=true->Ag K H Hm ms vs ds []:=by
 intro ms
 induction ms with
 | nil=>intro vs ds h e _;cases h with | nil=>exact .nil | cons _ _=>cases e
 | cons b ms ih =>
  intro vs ds h e n;rw [QM,QC] at n;cases h with
  | nil=>cases e
  | cons r t =>
   cases b with
   | true=>cases n.1
   | false=>exact .sh r (ih t (Nat.succ.inj e) n.2)
theorem rN:∀ {as:List Arg}{E:En}{os:VZ}{ds:VO},fill as E os=some ds->ds.length=as.length
 | [],_,[],_,h=>by cases h;rfl
 | [],_,_::_,_,h=>by cases h
 | .pk i::r,E,none::os,ds,h=>by
  rw [fill] at h;split at h
  ·split at h
   ·cases e:fill r E os with
    | none=>rw [e] at h;cases h
    | some es=>rw [e] at h;cases h;exact congrArg (· + 1) (rN e)
   ·cases h
  ·cases h
 | .ev _::r,E,some v::os,ds,h=>by
  rw [fill] at h;cases e:fill r E os with
  | none=>rw [e] at h;cases h
  | some es=>rw [e] at h;cases h;exact congrArg (· + 1) (rN e)
 | .pk _::_,_,[],_,h=>by cases h
 | .pk _::_,_,some _::_,_,h=>by cases h
 | .ev _::_,_,[],_,h=>by cases h
 | .ev _::_,_,none::_,_,h=>by cases h
def Kc {k:Nat}(hex:X.ex=[])(Fn:bV X.prog X.w X.K X.mg X.base k x ps (cB X.mg X.K ms sp))(hr:cZ k X.A)(hg:Gl X x)(hd:(x == ("__debug__":Str))=false)(ns:(e::es).all noStar=true)
  (hms:ms.all (!·)=true)(hl:ms.length=as.length)(S:aU (gS X pins Hd) E0 (aH X) (e::es) as){F:Nat->VR}(R:Rl X.K g E U H Hm F)(q:HS sp as o h D' E)
  (nx:∀ E1 F1 k v u H' Hm' fp,Ec o E1 k v D'.nx->Rl X.K g E1 U H' Hm' F1->ah Hm Hm'->Tm X.K g F1 H' Hm' k u v fp->Q u H')
  (xh:∀ E' c C a H' Hm' F',h E' c->X.mg c=some (.ref C)->Rl X.K g E' U H' Hm' F'->ah Hm Hm'->Hm' a=some (.ext (iZ a C none))->Hd (sel (aH X) U) C a H') :
  WE (gS X pins Hd) (.Call (.Name x p) (e::es) [] pos) (sel (aH X) U) H Q:=by
 refine WE.of (Jl hex Fn hr hg (dW ns) hd (b5 (by rw [QM,QC] at ns;exact ns.1)) (gc (by rw [QM,QC] at ns;exact ns.2))) ?_
 refine kH (X:=gS X pins Hd) (Ex:=E0) XL.no S R q fun E1 os vs H1 Hm1 F1 p R1 s1 G=>?_
 rw [<- bB,fE] at p;obtain ⟨ds,hf,p⟩:=p;rw [dH] at p;obtain ⟨hsh,p⟩:=p;have hF:∀ i∈f6 as,∀ a∈F1 i,Hm1 a=H1 a:=fun i hi a ha=>by
  have:=QK.mp hsh i hi;unfold ig at this;split at this
  ·rename_i d e;obtain ⟨v,_,o⟩:=R1.slot i _ _ e;generalize F1 i=fi at o ha;cases o;cases ha
  ·cases this
 have rs:=qh R1 (ah.refl Hm1) G hf hF;show cB X.mg X.K ms sp (vs++[]) H1 Q _;rw [RN];refine ⟨ds,[],Hm1,_,_,R1.sub,NO rs (by rw [hl,rN hf]) hms,p,fun us k r u H' Hm' fp p sM sS fr old bk o new=>?_,fun c d C a H' hC hxc fr ha hn=>?_⟩
 ·have sH:ah H1 H':=fun b u e=>fr b u QZ e
  have off:∀ i a,a∈F1 i->Hm' a=none:=fun i a ha=>by
   obtain ⟨u,hu,nt⟩:=R1.bH i a ha;rcases old a QZ (by rw [hu];simp) with z | ⟨_,xs,z⟩
   ·rw [z];exact R1.off i a ha
   ·have:=sS _ _ z;rw [sH _ _ hu] at this;cases this;exact absurd rfl (nt xs)
  refine nx E1 F1 k r u H' Hm' fp p (R1.grow sH sM sS off fun a ha=>?_) (s1.trans sM) ⟨o,fun a ha=>(new a ha).2,fun a ha i z=>R1.fresh (new a ha).1 z,fun a ha=>R1.fX (new a ha).1⟩
  exact old a QZ (R1.qk ha)
 ·have sH:ah H1 H':=fun b u e=>fr b u QZ e
  have hm1:=R1.tR hn;refine ⟨C,a,rfl,rfl,xh E1 c C a H' (upd Hm1 a (.ext (iZ a C none))) F1 hxc hC (R1.grow sH (cg hm1) (fun b u e=>?_) (fun i b hb=>?_) fun b hb=>.inl ?_) (s1.trans (cg hm1)) aL⟩
  ·by_cases z:b=a
   ·subst z;rw [aL] at e;cases e;exact ha
   ·rw [au z] at e;exact sH _ _ (R1.sub _ _ e)
  ·rw [au (show b≠a from fun z=>R1.fresh hn (z ▸ hb))]
   exact R1.off i b hb
  ·rw [au (show b≠a from fun z=>hb (by rw [z];exact R1.fX hn))]
def L3 (i:Nat){k k':Nat}(hN:X.N.Nodup)(Fn:bV X.prog X.w X.K X.mg X.base k x ps (cB X.mg X.K ms sp))(hr:cZ k' X.A)(S:∀ pins Hd,aU (gS X pins Hd) E0 (aH X) (e::es) as)(hk:k<=k':=by decide)(hex:X.ex=[]:=by rfl)(hg:Gl X x:=by rfl)(hd:(x == ("__debug__":Str))=false:=by decide)(ns:(e::es).all noStar=true:=by rfl)
  (hms:ms.all (!·)=true:=by rfl)(hl:ms.length=as.length:=by rfl)(hi:X.N[i]?=some n:=by rfl)(hlo:Loc X.env.scope n:=by first | exact Or.inl rfl | exact Or.inr rfl)(hs:swapsWith (.Call (.Name x p) (e::es) [] pos) (some (.Name n p0)) pos2.line X.env=pure false:=by rfl)(hf:X.fn n=true\/X.env.scope.names.lookup n=some .local:=by first | exact Or.inl rfl | exact Or.inr rfl):SB X [.Assign [.Name n p0] (.Call (.Name x p) (e::es) [] pos) pos2] (HS sp as (some i)):=by
 intro pins Hd g h D' E U H Hm F D R q nx xh;refine nX.of (z7 (CD (X:=gS X pins Hd) hN hi hlo bP hs hf)) ?_;refine Kc hex Fn (hr.mono hk) hg hd ns hms hl (S pins Hd) R q (fun E1 F1 k v u H' Hm' fp p R' s' T=>?_) xh
 replace p:bK (gh E1 i) _:=p
 rw [dH,ku] at p;show D.nx ((sel (aH X) U).set i (some u)) H';rw [jr Ri (fP (aZ hi)) (R'.len ▸ gu p.1)];exact nx _ _ _ _ _ p.2 (R'.put T p.1) s'
def CV (K:Frag)(cs:VX) (B:Str):Bool:=match nsIn K mainGlobals B with
 | some (some (.ref B'))=>cs.all fun c=>match nsIn K mainGlobals c with
  | some (some (.ref C))=>exmOne K (.ref C) (.ref B') == some (t7 c B)
  | _=>false
 | _=>false
def N2 (h:CV K cs B=true):∃ B',nsIn K mainGlobals B=some (some (.ref B'))/\∀ c∈cs,∃ C,nsIn K mainGlobals c=some (some (.ref C))/\exmOne K (.ref C) (.ref B')=some (t7 c B):=by
 unfold CV at h;split at h
 ·rename_i B' e;refine ⟨B',e,fun c hc=>?_⟩
  have z:=QK.mp h c hc;split at z
  ·rename_i C e2;exact ⟨C,e2,by simpa using z⟩
  ·cases z
 ·cases h
def Mh (N:∃ h:Heap,X.K.In h/\h.Ns mainGlobals X.mg)(kx:CV X.K cs x=true)(hb:SB X body b)(hh:∀ a,SS (EE X a) E0 (b₀::suite) t)
  (hex:X.ex=[]:=by rfl)(hst:X.stack=X.env::X.outer:=by rfl)(hfr:X.env.frame=some X.env.locals:=by rfl)(hg:Gl X x:=by rfl)(hdb:(x == ("__debug__":Str))=false:=by decide) :
  S1 X Ex (.Try body [.ExceptHandler (some (.Name x np)) none (b₀::suite) hpos] [] [] pos) (Cn cs x b t):=by
 obtain ⟨B',nB,hc⟩:=N2 kx;obtain ⟨h0,KX,G⟩:=N;intro g D' E U H Hm F D hx R p nx rt;refine WS.of (Jg hex hst hfr hg (mg_of KX G nB) (fun pins Hd=>gG) (fun a=>gG) hdb) fun pins=>?_
 refine hb pins _ g _ D' E U H Hm F D R p nx fun E1 c C a H1 Hm1 F1 q hC R1 s1 ha=>?_
 rw [dH,QC,List.contains_iff_mem] at q;obtain ⟨⟨q1,q2⟩,q⟩:=q;obtain ⟨C',e1,e2⟩:=hc c q1;have e3:=(mg_of KX G e1).symm.trans hC;cases e3;refine ⟨by rw [e2,q2],?_⟩
 exact hh a g _ _ U H1 Hm1 _ D XL.no R1 q (fun E2 σ2 H2 Hm2 F2 p2 R2 s2=>nx _ _ _ _ _ p2 R2 (s1.trans s2)) rt
end
def KY (cs Bs:VX):DR:=fun ds P=>match ds with
 | [.dict [(.none,.str c)]]=>bK (cs.contains c) (P .sh (.bool (Bs.any (t7 c))))
 | _=>False
section
variable {X:Cx}{Ex:XK}{Y:VV}
def GS:VS->Nat
 | []=>0
 | b::r=>(if b=true then 1 else 0) + GS r
def zO:VO->Option (VS)
 | []=>some []
 | .bool b::r=>(zO r).map (b::·)
 | _=>none
def ND:DR:=fun ds P=>match ds with
 | [.list xs]=>aB (zO xs) fun bs=>P .sh (.int (GS bs))
 | _=>False
end
end Dv
namespace Dv
open PySem L2
theorem rr216:OY cs B b i t D (o::E)=b (fun E1 c=>bK (cs.contains c && t7 c B) (bK (gh E1 i) (t { nx:=fun E2=>bK (gh E2 i) (D.nx (E2.set i none)),rt:=D.rt,xc:=xF } (E1.set i (some (.sh,Mg c)))))) D (o::E):=rfl
theorem rr217:Cn cs B b t D (o::E)=b (fun E1 c=>bK (cs.contains c && t7 c B) (t { D with xc:=xF } E1)) D (o::E):=rfl
theorem rr218:HS sp as w h D (o::E)=jj as xF (o::E) fun E1 os=>aB (cL as E1 os) fun ds=>bK ((f6 as).all (ig E1)) (sp ds (fun _ k v=>Ec w E1 k v D.nx) fun c _=>h E1 c):=rfl
theorem rr219:P5 t a b h D (o::E)=t xF (o::E) fun E1 c=>dg c (a h D E1) (b h D E1):=rfl
theorem rr220:Ec none (o::E) k v Q=Q (o::E):=rfl
theorem rr221:Ec (some i) (o::E) k v Q=bK (gh (o::E) i) (Q ((o::E).set i (some (k,v)))):=rfl
theorem rr222:KY cs Bs [.dict [(.none,.str c)]] P=bK (cs.contains c) (P .sh (.bool (Bs.any (t7 c)))):=rfl
theorem rr223:KY cs Bs [Mg c] P=bK (cs.contains c) (P .sh (.bool (Bs.any (t7 c)))):=rfl
theorem rr224:ND [.list xs] P=aB (zO xs) fun bs=>P .sh (.int (GS bs)):=rfl
theorem rr225:zO []=some []:=rfl
theorem rr226:zO (.bool b::r)=(zO r).map (b::·):=rfl
end Dv
namespace PB
open PySem L2 Dv
def gW:DS:=aq (pB [1,2] (aG 0)) (aq (aC 3 (n9 sizeLine [6] (mE oj [.pk 1]) (.nm 6) (dQ) (aa bS []))) (aq (eN (iE (aG 2)) (.tp [4,5]) (aq (fU (ym eY 3 (aG 4) 5)) (fU (ym eY 3 (aG 5) 4)))) (iL 3)))
def gJ:DS:=cK (qS (aX (mY (fun i j=>decide (i<=j)) (fun i j=>decide (i < j)) (dC (.int 0)) (aG 1) (aa bg [.pk 0,.ev (dC (.int 0))])))) (mZ "NoPlace") (dR)
def l8:DS:=aq (pB [2,3] (aG 0)) (aq (aC 4 (vB (aX (aa jg [.pk 1,.ev (dC (.str "ties"))])) (aa bS []) (aa jM [.pk 2]))) (aq (aC 5 (vB (aX (aa jg [.pk 1,.ev (dC (.str "places"))])) (aa bS []) (aa kj [.pk 3]))) (bY (aa dP [.pk 4,.pk 5]))))
def pJ:DS:=aq (pB [1,2] (aG 0)) (bY (aa jg [.ev (aa cU [.pk 2]),.ev (aa lT [.pk 1,.ev (dC (.int 1))])]))
def iA (Vk:bD):DS:=cK (qS (aX (aD Vk [false] [.pk 0]))) (mZ "NoTree") (dR)
def jt:DS:=aq (aC 3 (aa bS [])) (aq (aC 4 (aa bS [.ev (aa ie [.pk 1,.pk 2])])) (aq (wC (Av 4) (aq (pB [5,6] (pF uB 4 [])) (aq (fU (pF eY 3 [aG 6])) (zc sizeLine 4 (aO [7] (iE (aa bg [.pk 0,.pk 6])) (.nm 7) (aX (aa jN [.pk 7,.pk 5])) (aT sizeLine (aa ie [.pk 6,.pk 7]))))))) (bY (aa jT [.pk 3]))))
def lS (WB WA Vx Vy:bD):DS:=aq (fU (aD WB [false] [.pk 0])) (aq (fU (aD WA [false,false] [.pk 0,.pk 1])) (aq (aC 2 (aD Vx [false] [.pk 0])) (bY (aO [3] (iE (aa bg [.pk 2,.pk 1])) (.nm 3) (dQ) (aT sizeLine (aD Vy [false,false,false] [.pk 2,.pk 1,.pk 3]))))))
def oq (Vz:bD):DS:=bY (aO [3] (iE (aD Vz [false,false] [.pk 0,.pk 1])) (.nm 3) (qS (aX (aa wQ [.ev (aO [4] (iE (aG 3)) (.nm 4) (dQ) (aT sizeLine (aa (eZ false) [.pk 4,.pk 2])))]))) (aT sizeLine (aG 3)))
def j6 (WB WI Vx Vw:bD):DS:=aq (fU (aD WB [false] [.pk 0])) (aq (cK (aX (aa Ak [.ev (aa cU [.ev (aD WI [false,false] [.pk 0,.pk 1])]),.ev (dC (.int 2))])) (bY (aa bS [])) (dR)) (aq (aC 2 (aO [6] (iE (aD Vx [false] [.pk 0])) (.nm 6) (dQ) (aT sizeLine (aa cU [.pk 6])))) (aq (aC 3 (aO [6,7] (vt (aG 2)) (.tp [6,7]) (aX (aa jg [.pk 7,.ev (dC (.int 1))])) (aT sizeLine (aG 6)))) (aq (cK (aX (aa jg [.pk 1,.ev (dC (.str "all"))])) (bY (aO [6] (iE (aG 3)) (.nm 6) (dQ) (aT sizeLine (aa bS [.ev (aa bS [.pk 6]),.ev (aa bS [])])))) (dR)) (aq (aC 4 (aO [6,7] (vt (aG 2)) (.tp [6,7]) (aX (aa yb [.pk 7,.ev (dC (.int 2))])) (aT sizeLine (aG 6)))) (aq (cK (qS (Av 4)) (bY (aa bS [.ev (aO [6] (iE (aG 3)) (.nm 6) (dQ) (aT sizeLine (aa bS [.pk 6])))])) (dR)) (aq (aC 5 (aO [6] (iE (aG 4)) (.nm 6) (dQ) (aT sizeLine (aD Vw [false,false,false] [.pk 0,.pk 6,.pk 4])))) (bY (aO [6] (iE (aG 5)) (.nm 6) (Av 6) (aT sizeLine (aG 6)))))))))))
def mw:DS:=aq (aC 3 (aa cU [.ev (aO [4] (iE (aG 0)) (.nm 4) (aX (aa (eZ false) [.pk 4,.pk 1])) (aT sizeLine (aG 4)))])) (aq (cK (aX (aa yb [.pk 3,.ev (dC (.int 0))])) (bY (aa ie [.ev (vB (aX (aa jg [.pk 3,.ev (dC (.int 1))])) (dC (.int 1)) (dC (.int 0))),.ev (dC (.int 0))])) (dR)) (bY (aa ie [.ev (aa cU [.ev (aO [4] (iE (aG 0)) (.nm 4) (aX (aa Ip [.pk 4,.pk 2])) (aT sizeLine (aG 4)))]),.ev (dC (.int 1))])))
def k8 (WD:bD):DS:=aq (aC 3 (dC (.int 1))) (aq (aC 4 (dC (.int 0))) (aq (eN (iE (aG 0)) (.nm 5) (aq (pB [6,7] (aD WD [false,false,false] [.pk 5,.pk 1,.pk 2])) (aq (aC 4 (aa dP [.ev (aa gQ [.pk 4,.pk 6]),.ev (aa gQ [.pk 3,.pk 7])])) (aC 3 (aa gQ [.pk 3,.pk 6]))))) (iL 4)))
def lU (Vi:bD):DS:=aq (aC 3 (dC (.int 1))) (aq (eN (iE (aG 0)) (.nm 4) (aC 3 (aa gQ [.pk 3,.ev (aD Vi [false,false,false] [.pk 4,.pk 1,.pk 2])]))) (iL 3))
def ju (WK WC:bD):DS:=bY (aD WK [false,false,false] [.ev (aD WC [false,false] [.pk 0,.pk 1]),.ev (aa bS []),.ev (dC (.int 0))])
def nO:DS:=bY (aa jT [.ev (aO [1,2,3] (iE (aG 0)) (.nm 1) (dQ) (AL (iE (aG 1)) (.nm 2) (dQ) (AL (iE (aG 2)) (.nm 3) (dQ) (aT sizeLine (aG 3)))))])
def mj (WC WK WH:bD):DS:=aq (aC 3 (aD WC [false,false] [.pk 0,.pk 1])) (aq (cK (qS (aX (mY (fun i j=>decide (i<=j)) (fun i j=>decide (i < j)) (dC (.int 0)) (aG 2) (aD WK [false,false,false] [.pk 3,.ev (aa bS []),.ev (dC (.int 0))])))) (mZ "NoSuch") (dR)) (aq (aC 4 (aa bS [])) (aq (aC 5 (aG 2)) (aq (eN (iE (aD WH [false] [.pk 3])) (.nm 6) (aq (aC 7 (aD WK [false,false,false] [.pk 3,.ev (aa dP [.pk 4,.ev (aa bS [.pk 6])]),.ev (aa dP [.pk 6,.ev (dC (.int 1))])])) (cK (aX (aa Ak [.pk 5,.pk 7])) (fU (pF eY 4 [aG 6])) (uH (· - ·) 5 (aG 7))))) (iL 4)))))
def lZ (WH WK:bD):DS:=aq (aC 3 (aD WH [false] [.pk 0])) (aq (cK (aX (zd (aa jN [.pk 1,.ev (aa yS [.pk 1])]) (uG (aa BA [.ev (aO [4] (iE (aG 1)) (.nm 4) (dQ) (aT sizeLine (aa (eZ false) [.pk 4,.pk 3])))])))) (bY (dC (.bool false))) (dR)) (bY (aa jg [.ev (aD WK [false,false,false] [.pk 0,.pk 1,.pk 2]),.ev (dC (.int 1))])))
def iO (WC Vj WH WK:bD):DS:=aq (aC 3 (aD WC [false,false] [.pk 0,.pk 1])) (aq (cK (qS (aX (aD Vj [false,false,false] [.pk 3,.pk 2,.ev (aa bg [.pk 0,.ev (dC (.int 0))])]))) (mZ "NotOne") (dR)) (aq (aC 4 (dC (.int 0))) (aq (aC 5 (aa bS [])) (aq (eN (iE (aD WH [false] [.pk 3])) (.nm 6) (cK (aX (aa (eZ false) [.pk 6,.pk 2])) (fU (pF eY 5 [aG 6])) (uH (· + ·) 4 (aD WK [false,false,false] [.pk 3,.ev (aa dP [.pk 5,.ev (aa bS [.pk 6])]),.ev (aa dP [.pk 6,.ev (dC (.int 1))])])))) (iL 4)))))
end PB
namespace Dv
open PySem L2
def AG (xs:VO)(tg:Tg)(b:DS)(D:gE)(E1:En):Prop:=∃ I:Nat->En->Prop,I 0 E1/\(∀ i d E,xs[i]?=some d->I i E->∃ E2,cG tg d E=some E2/\b { D with nx:=I (i + 1) } E2)/\∀ E,I xs.length E->D.nx E
def vJ (cs:VV)(xs:VO)(tg:Tg)(c:DT)(r:DC)(E1:En)(Q:VY):Prop:=∃ (E0:En)(I:Nat->VO->En->Prop),bf cs E1=some E0/\I 0 [] E0/\(∀ i d ys E,xs[i]?=some d->I i ys E->∃ E2,cG tg d E=some E2/\c xF E2 fun E3 b=>if b=true then r xF ys E3 (I (i + 1)) else I (i + 1) ys E3)/\∀ ys E,I xs.length ys E->∃ E2,bf cs E=some E2/\Q E2 (.ow false) (.list ys)
def KH (most:Nat)(cs:VV)(xs:VO)(tg:Tg)(c:DT)(e:DE)(E1:En)(Q:VY):Prop:=∃ (E0:En)(I:Nat->VO->En->Prop),bf cs E1=some E0/\I 0 [] E0/\(∀ i d ys E,xs[i]?=some d->I i ys E->∃ E2,cG tg d E=some E2/\c xF E2 fun E3 b=>if b=true then e xF E3 (fun E4 k v=>(∃ p,k=.ow p)/\ys.length < most/\I (i + 1) (ys++[v]) E4) else I (i + 1) ys E3)/\∀ ys E,I xs.length ys E->∃ E2,bf cs E=some E2/\Q E2 (.dp false) (.list ys)
def L6 (xs:VO)(tg:Tg)(c:DT)(r:DC)(x:XC)(ys:VO)(E1:En)(Q:VO->En->Prop):Prop:=∃ I:Nat->VO->En->Prop,I 0 ys E1/\(∀ i d ys E,xs[i]?=some d->I i ys E->∃ E2,cG tg d E=some E2/\c x E2 fun E3 b=>if b=true then r x ys E3 (I (i + 1)) else I (i + 1) ys E3)/\∀ ys E,I xs.length ys E->Q ys E
theorem dyr0:∀ {it:DI}{tg:Tg}{b:DS}{D:gE}{o:Va}{E:En},eN it tg b D (o::E)=it D.xc (o::E) fun E1 xs=>AG xs tg b D E1:=rfl
theorem dyr1:∀ {cs:VV}{it:DI}{tg:Tg}{c:DT}{r:DC}{x:XC}{o:Va}{E:En}{Q:VY},aO cs it tg c r x (o::E) Q=it x (o::E) fun E1 xs=>vJ cs xs tg c r E1 Q:=rfl
theorem dyr2:∀ {most:Nat}{cs:VV}{it:DI}{tg:Tg}{c:DT}{e:DE}{x:XC}{o:Va}{E:En}{Q:VY},n9 most cs it tg c e x (o::E) Q=it x (o::E) fun E1 xs=>KH most cs xs tg c e E1 Q:=rfl
theorem dyr3:∀ {it:DI}{tg:Tg}{c:DT}{r:DC}{x:XC}{ys:VO}{o:Va}{E:En}{Q:VO->En->Prop},AL it tg c r x ys (o::E) Q=it x (o::E) fun E1 xs=>L6 xs tg c r x ys E1 Q:=rfl
def dy :
 (∀ {it:DI}{tg:Tg}{b:DS}{D:gE}{o:Va}{E:En},eN it tg b D (o::E)=it D.xc (o::E) fun E1 xs=>AG xs tg b D E1) /\
 (∀ {cs:VV}{it:DI}{tg:Tg}{c:DT}{r:DC}{x:XC}{o:Va}{E:En}{Q:VY},aO cs it tg c r x (o::E) Q=it x (o::E) fun E1 xs=>vJ cs xs tg c r E1 Q) /\
 (∀ {most:Nat}{cs:VV}{it:DI}{tg:Tg}{c:DT}{e:DE}{x:XC}{o:Va}{E:En}{Q:VY},n9 most cs it tg c e x (o::E) Q=it x (o::E) fun E1 xs=>KH most cs xs tg c e E1 Q) /\
 (∀ {it:DI}{tg:Tg}{c:DT}{r:DC}{x:XC}{ys:VO}{o:Va}{E:En}{Q:VO->En->Prop},AL it tg c r x ys (o::E) Q=it x (o::E) fun E1 xs=>L6 xs tg c r x ys E1 Q):=⟨rfl,rfl,rfl,rfl⟩
def JK {a b:DS}{D:gE}{E:En}(h:aq a b D E):Ba a b D E:=⟨b D,h,fun _ z=>z⟩
theorem uM {i:Nat}{z:Va}:∀ {cs:VV}{E E0:En},i∉cs->bf cs (E.set i none)=some E0->bf cs (E.set i z)=some (E0.set i z)
 | [],E,E0,_,h=>by
  have h:E.set i none=E0:=Option.some.inj h;show some _=some _;rw [<- h,List.set_set]
 | c::cs,E,E0,n,h=>by
  have nc:i≠c:=fun e=>n (e ▸ Q2)
  have ns:i∉cs:=fun m=>n (Q7 _ m)
  have ho:∀ y:Va,bL (E.set i y) c=bL E c:=fun y=>by
   unfold bL;rw [TY nc]
  unfold bf at h ⊢;rw [ho] at h ⊢;split at h
  ·rename_i hc;rw [if_pos hc];rw [List.set_comm _ _ nc] at h ⊢;exact uM ns h
  ·cases h
theorem wI:∀ {cs:VV}{ds:VO}{E E' E0:En},cs.Nodup->bf cs E=some E0->bf cs E'=some E0->bQ cs ds E=bQ cs ds E'
 | [],ds,E,E',E0,_,h,h'=>by
  have h:E=E0:=Option.some.inj h;have h':E'=E0:=Option.some.inj h';rw [h,h']
 | c::cs,[],E,E',E0,_,h,h'=>rfl
 | c::cs,d::ds,E,E',E0,nd,h,h'=>by
  have n1:=(R8.mp nd).1;unfold bf at h h';unfold bQ;split at h
  ·rename_i hc;split at h'
   ·rename_i hc';rw [if_pos hc,if_pos hc'];exact wI (R8.mp nd).2 (uM n1 h) (uM n1 h')
   ·cases h'
  ·cases h
def AR {cs:VV}{ds:VO}{E E' E0:En}(nd:j8 cs=true)(h:bf cs E=some E0)(h':bf cs E'=some E0):bQ cs ds E=bQ cs ds E':=wI (gw nd) h h'
def rX {tg:Tg}{cs:VV}{d:PyData}{E E' E0:En}(hs:tg.slots=cs)(nd:j8 cs=true)(h:bf cs E=some E0)(h':bf cs E'=some E0):cG tg d E=cG tg d E':=by
 subst hs;cases tg with
 | nm i=>exact AR nd h h'
 | tp is =>
  cases d with
  | tuple ds=>exact AR nd h h'
  | _=>rfl
theorem kr:∀ {cs:VV}{E E0:En},cs.Nodup->bf cs E=some E0->bf cs E0=some E0/\∀ c∈cs,E0[c]?=some none
 | [],E,E0,_,h=>⟨rfl,fun _ z=>by cases z⟩
 | c::cs,E,E0,nd,h=>by
  have n1:=(R8.mp nd).1;have n2:=(R8.mp nd).2;unfold bf at h;split at h
  ·rename_i hc;obtain ⟨h1,h2⟩:=kr n2 h;have hlen:c < E.length:=by
    unfold bL at hc;rcases RL c E.length with z | z
    ·exact z
    ·rw [RG z] at hc;cases hc
   have hcl:∀ {cs:VV}{E E0:En},c∉cs->bf cs E=some E0->E0[c]?=E[c]?:=by
    intro cs
    induction cs with
    | nil=>intro E E0 _ h;cases h;rfl
    | cons a cs ih =>
     intro E E0 n h;unfold bf at h;split at h
     ·rw [ih (fun m=>n (Q7 _ m)) h,TY (fun e=>n (by rw [e];exact Q2))]
     ·cases h
   have e0:E0[c]?=some none:=by rw [hcl n1 h,TX hlen]
   refine ⟨?_,fun x hx=>?_⟩
   ·unfold bf;rw [if_pos (by unfold bL;rw [e0])]
    have:E0.set c none=E0:=by
     refine Rx fun j=>?_
     by_cases e:c=j
     ·subst e;have:c < E0.length:=by
       rcases RL c E0.length with z | z
       ·exact z
       ·rw [RG z] at e0;cases e0
      rw [TX this,e0]
     ·rw [TY e]
    rw [this];exact h1
   ·cases hx with
    | head=>exact e0
    | tail _ m=>exact h2 x m
  ·cases h
def ff {α:Type}{l:List α}{i:Nat}{a:α}(ha:l[i]?=some a):i < l.length:=by
 rcases RL i l.length with z | z
 ·exact z
 ·rw [RG z] at ha;cases ha
def take_snoc {α:Type}{l:List α}{i:Nat}{a:α}(ha:l[i]?=some a):l.take (i + 1)=l.take i++[a]:=by rw [List.take_add_one,ha];rfl
def M4 {α:Type}{l:List α}{enc:α->PyData}{cs:VV}{tg:Tg}{e:DE}{most:Nat}{E1 E0:En}{Q:VY}(g:α->PyData)(h0:bf cs E1=some E0)(h2:∀ a,a∈l->∀ I:En->PyData->Prop,(∀ E4,bf cs E4=some E0->I E4 (g a))->∃ E2,cG tg (enc a) E0=some E2/\e xF E2 (fun E4 k v=>(∃ p,k=.ow p)/\I E4 v))
  (h3:Q E0 (.dp false) (.list (l.map g)))(hl:l.length<=most)(hs:tg.slots=cs:=by rfl)(nd:j8 cs=true:=by rfl):KH most cs (l.map enc) tg dQ e E1 Q:=by
 obtain ⟨hc0,_⟩:=kr (gw nd) h0;refine ⟨E0,fun i ys E=>ys=(l.take i).map g/\bf cs E=some E0,h0,⟨rfl,hc0⟩,?_,?_⟩
 ·rintro i d ys E hd ⟨rfl,hE⟩;rw [QN] at hd;obtain ⟨a,ha,rfl⟩:=S7.mp hd;have hi:=ff ha;obtain ⟨E2,hE2,hb⟩:=h2 a (QX ha) (fun E4 v=>((l.take i).map g).length < most/\((l.take i).map g++[v]=(l.take (i + 1)).map g/\bf cs E4=some E0)) (fun E4 hE4=>by
   refine ⟨?_,?_,hE4⟩
   ·rw [Q8,Rq];lia
   ·rw [take_snoc ha,QY];rfl)
  exact ⟨E2,(rX hs nd hE hc0).trans hE2,hb⟩
 ·rintro ys E ⟨rfl,hE⟩;rw [Q8,RW];exact ⟨E0,hE,h3⟩
def tQ {α:Type}{l:List α}{enc:α->PyData}{tg:Tg}{b:DS}{D:gE}{E1:En}(I:Nat->En->Prop)(h0:I 0 E1)(hs:∀ i a E,l[i]?=some a->I i E->∃ E2,cG tg (enc a) E=some E2/\b { D with nx:=I (i + 1) } E2)(he:∀ E,I l.length E->D.nx E):AG (l.map enc) tg b D E1:=by
 refine ⟨I,h0,fun i d E hd hi=>?_,by rw [Q8];exact he⟩
 rw [QN] at hd;obtain ⟨a,ha,rfl⟩:=S7.mp hd;exact hs i a E ha hi
def IB {α:Type}{l:List α}{enc:α->PyData}{cs:VV}{tg:Tg}{c:DT}{r:DC}{E1:En}{Q:VY}(E0:En)(I:Nat->VO->En->Prop)(h0:bf cs E1=some E0)(h1:I 0 [] E0)(hs:∀ i a ys E,l[i]?=some a->I i ys E->∃ E2,cG tg (enc a) E=some E2/\c xF E2 fun E3 b=>if b=true then r xF ys E3 (I (i + 1)) else I (i + 1) ys E3)
  (he:∀ ys E,I l.length ys E->∃ E2,bf cs E=some E2/\Q E2 (.ow false) (.list ys)):vJ cs (l.map enc) tg c r E1 Q:=by
 refine ⟨E0,I,h0,h1,fun i d ys E hd hi=>?_,by rw [Q8];exact he⟩
 rw [QN] at hd;obtain ⟨a,ha,rfl⟩:=S7.mp hd;exact hs i a ys E ha hi
def Er {n i k:Nat}(h:(List.range n)[i]?=some k):i < n/\k=i:=by
 have hi:=ff h;rw [QI] at hi;rw [RU hi] at h;cases h;exact ⟨hi,rfl⟩
def Ls {n:Nat}{enc:Nat->PyData}{tg:Tg}{b:DS}{D:gE}{E1:En}(I:Nat->En->Prop)(h0:I 0 E1)(hs:∀ i E,i < n->I i E->∃ E2,cG tg (enc i) E=some E2/\b { D with nx:=I (i + 1) } E2)(he:∀ E,I n E->D.nx E):AG ((List.range n).map enc) tg b D E1 :=
 tQ I h0 (fun i a E ha hi=>by obtain ⟨l,rfl⟩:=Er ha;exact hs a E l hi) (by rw [QI];exact he)
def Jd {α:Type}{l:List α}{enc:α->PyData}{cs:VV}{tg:Tg}{e:DE}{most:Nat}{E1 E0:En}{Q:VY}(S:Vd)(g:α->PyData)(h0:bf cs E1=some E0)(hS:S E0)(h2:∀ a,a∈l->∀ E0',S E0'->∀ I:En->PyData->Prop,(∀ E4 E5,bf cs E4=some E5->S E5->I E4 (g a))->∃ E2,cG tg (enc a) E0'=some E2/\e xF E2 (fun E4 k v=>k.fz=true/\I E4 v))
  (h3:∀ E0',S E0'->Q E0' (.ow false) (.list (l.map g)))(hl:l.length<=most)(hs:tg.slots=cs:=by rfl)(nd:j8 cs=true:=by rfl):vJ cs (l.map enc) tg dQ (aT most e) E1 Q:=by
 obtain ⟨hc0,_⟩:=kr (gw nd) h0;refine ⟨E0,fun i ys E=>ys=(l.take i).map g/\∃ E5,bf cs E=some E5/\S E5,h0,⟨rfl,E0,hc0,hS⟩,?_,?_⟩
 ·rintro i d ys E hd ⟨rfl,E5,hE,hS5⟩;rw [QN] at hd;obtain ⟨a,ha,rfl⟩:=S7.mp hd;have hi:=ff ha;obtain ⟨hc5,_⟩:=kr (gw nd) hE;obtain ⟨E2,hE2,hb⟩:=h2 a (QX ha) E5 hS5 (fun E4 v=>((l.take i).map g).length < most/\((l.take i).map g++[v]=(l.take (i + 1)).map g/\∃ E5,bf cs E4=some E5/\S E5)) (fun E4 E6 hE4 hS6=>by
   refine ⟨?_,?_,E6,hE4,hS6⟩
   ·rw [Q8,Rq];lia
   ·rw [take_snoc ha,QY];rfl)
  exact ⟨E2,(rX hs nd hE hc5).trans hE2,hb⟩
 ·rintro ys E ⟨rfl,E5,hE,hS5⟩;rw [Q8,RW];exact ⟨E5,hE,h3 E5 hS5⟩
def Kq {α:Type}{l:List α}{enc:α->PyData}{cs:VV}{tg:Tg}{c:DT}{e:DE}{most:Nat}{E1 E0:En}{Q:VY}(S:Vd)(g:α->Option PyData)(h0:bf cs E1=some E0)(hS:S E0)(h2:∀ a,a∈l->∀ E0',S E0'->∀ I:En->Option PyData->Prop,(∀ E4 E5,bf cs E4=some E5->S E5->I E4 (g a))->∃ E2,cG tg (enc a) E0'=some E2/\c xF E2 fun E3 b=>if b=true then e xF E3 (fun E4 k v=>k.fz=true/\I E4 (some v)) else I E3 none)
  (h3:∀ E0',S E0'->Q E0' (.ow false) (.list (l.filterMap g)))(hl:l.length<=most)(hs:tg.slots=cs:=by rfl)(nd:j8 cs=true:=by rfl):vJ cs (l.map enc) tg c (aT most e) E1 Q:=by
 obtain ⟨hc0,_⟩:=kr (gw nd) h0;refine ⟨E0,fun i ys E=>ys=(l.take i).filterMap g/\∃ E5,bf cs E=some E5/\S E5,h0,⟨rfl,E0,hc0,hS⟩,?_,?_⟩
 ·rintro i d ys E hd ⟨rfl,E5,hE,hS5⟩;rw [QN] at hd;obtain ⟨a,ha,rfl⟩:=S7.mp hd;have hi:=ff ha;obtain ⟨hc5,_⟩:=kr (gw nd) hE;have hlen:((l.take i).filterMap g).length < most:=by
   have:=List.length_filterMap_le g (l.take i);rw [Rq] at this;lia
  obtain ⟨E2,hE2,hb⟩:=h2 a (QX ha) E5 hS5 (fun E4 o=>match o with
   | some v=>((l.take i).filterMap g).length < most/\((l.take i).filterMap g++[v]=(l.take (i + 1)).filterMap g/\∃ E5,bf cs E4=some E5/\S E5)
   | none=>(l.take i).filterMap g=(l.take (i + 1)).filterMap g/\∃ E5,bf cs E4=some E5/\S E5) (fun E4 E6 hE4 hS6=>by
   cases hg:g a with
   | none =>
    refine ⟨?_,E6,hE4,hS6⟩;rw [take_snoc ha,Tn,RM,hg];exact (RN _).symm
   | some v =>
    refine ⟨hlen,?_,E6,hE4,hS6⟩;rw [take_snoc ha,Tn,RM,hg];rfl)
  exact ⟨E2,(rX hs nd hE hc5).trans hE2,hb⟩
 ·rintro ys E ⟨rfl,E5,hE,hS5⟩;rw [Q8,RW];exact ⟨E5,hE,h3 E5 hS5⟩
def eW {α:Type}{l:List α}{enc:α->PyData}{cs:VV}{tg:Tg}{e:DE}{most:Nat}{E1 E0:En}{Q:VY}(g:α->PyData)(h0:bf cs E1=some E0)(h2:∀ a,a∈l->∀ I:En->PyData->Prop,(∀ E4,bf cs E4=some E0->I E4 (g a))->∃ E2,cG tg (enc a) E0=some E2/\e xF E2 (fun E4 k v=>k.fz=true/\I E4 v))
  (h3:Q E0 (.ow false) (.list (l.map g)))(hl:l.length<=most)(hs:tg.slots=cs:=by rfl)(nd:j8 cs=true:=by rfl):vJ cs (l.map enc) tg dQ (aT most e) E1 Q :=
 Jd (·=E0) g h0 rfl (fun a ha E0' e I hI=>by subst e;exact h2 a ha I fun E4 h=>hI E4 _ h rfl) (fun E0' e=>by subst e;exact h3) hl hs nd
def cM {α:Type}{l:List α}{enc:α->PyData}{cs:VV}{tg:Tg}{c:DT}{e:DE}{most:Nat}{E1 E0:En}{Q:VY}(g:α->Option PyData)(h0:bf cs E1=some E0)(h2:∀ a,a∈l->∀ I:En->Option PyData->Prop,(∀ E4,bf cs E4=some E0->I E4 (g a))->∃ E2,cG tg (enc a) E0=some E2/\c xF E2 fun E3 b=>if b=true then e xF E3 (fun E4 k v=>k.fz=true/\I E4 (some v)) else I E3 none)
  (h3:Q E0 (.ow false) (.list (l.filterMap g)))(hl:l.length<=most)(hs:tg.slots=cs:=by rfl)(nd:j8 cs=true:=by rfl):vJ cs (l.map enc) tg c (aT most e) E1 Q :=
 Kq (·=E0) g h0 rfl (fun a ha E0' e I hI=>by subst e;exact h2 a ha I fun E4 h=>hI E4 _ h rfl) (fun E0' e=>by subst e;exact h3) hl hs nd
abbrev iD (n:Nat):PyData:=.int (n:Int)
abbrev nD (l:VV):PyData:=.list (l.map iD)
abbrev gH (e:Nat×Nat):PyData:=.tuple [iD e.1,iD e.2]
abbrev wD (m:Nat)(es:VI):PyData:=.tuple [iD m,.tuple (es.map gH)]
def KC {n:Nat}:kg 0 n=(List.range n).map iD:=by
 unfold kg;refine Rj fun i _=>?_
 rw [Int.zero_add]
def Lv {n:Nat}:kg 1 n=(List.range n).map fun i=>iD (i + 1):=by
 unfold kg;refine Rj fun i _=>?_
 show PyData.int _=PyData.int _;congr 1;lia
def EU {xs:VO}{i:Nat}:eE xs (i:Int)=xs[i]?:=by
 unfold eE nU;rw [if_pos (by lia)]
 split
 ·exact rfl
 ·rw [RG (by lia)];rfl
def Dk {n i:Nat}(h:i < n):kG n (i:Int)=some i:=by
 unfold kG;rw [if_pos (by lia),if_pos (by lia)]
 rfl
def Ke {n i:Nat}{Q:Nat->Prop}(h:i < n)(q:Q i):aB (kG n (i:Int)) Q:=by rw [Dk h];exact q
def yh {α β:Type}{o:Option α}{f:α->β}{Q:β->Prop}:aB (o.map f) Q=aB o fun a=>Q (f a):=by cases o <;> rfl
def oQ {α:Type}{l:List α}{f:α->PyData}{i:Nat}{Q:PyData->Prop}:aB (eE (l.map f) (i:Int)) Q=aB l[i]? fun a=>Q (f a):=by rw [EU,QN,yh]
def DQ {α:Type}{l:List α}{f:α->PyData}{a:Nat}:cutD (l.map f) (some (a:Int)) none=(l.drop a).map f:=by
 unfold cutD;have e1:HT.aN (l.map f).length 0 (some (a:Int))=min a (l.map f).length:=HT.p8 _ _ a;have e2:HT.aN (l.map f).length (l.map f).length none=(l.map f).length:=rfl;rw [e1,e2,Q8,<- List.map_drop,<- List.map_take];congr 1;rw [TF (by rw [Sv];lia)]
 rcases U0 a l.length with h | h
 ·rw [TM h]
 ·rw [TN h,Uc,UX h]
def zm {α:Type}{l:List α}{f:α->PyData}{b:Nat}:cutD (l.map f) none (some (b:Int))=(l.take b).map f:=by
 unfold cutD;have e1:HT.aN (l.map f).length (l.map f).length (some (b:Int))=min b (l.map f).length:=HT.p8 _ _ b;have e2:HT.aN (l.map f).length 0 none=0:=rfl;rw [e1,e2,Q8,UW,Nat.sub_zero,<- List.map_take];congr 1;rcases U0 b l.length with h | h
 ·rw [TM h]
 ·rw [TN h,RW,TF h]
def xj {α:Type}{l:List α}{f:α->PyData}{a b:Nat}:cutD (l.map f) (some (a:Int)) (some (b:Int))=((l.take b).drop a).map f:=by
 unfold cutD;have e1:HT.aN (l.map f).length 0 (some (a:Int))=min a (l.map f).length:=HT.p8 _ _ a;have e2:HT.aN (l.map f).length (l.map f).length (some (b:Int))=min b (l.map f).length:=HT.p8 _ _ b;rw [e1,e2,Q8,<- List.map_drop,<- List.map_take];congr 1;rw [List.drop_take];rcases U0 a l.length with h | h
 ·rw [TM h];rcases U0 b l.length with g | g
  ·rw [TM g]
  ·rw [TN g,TF (by rw [Sv];lia),TF (by rw [Sv];lia)]
 ·rw [TN h,Uc,UX h,List.take_nil,List.take_nil]
def rE {α:Type}{l:List α}{f:α->PyData}:jF (l.map f)=l.zipIdx.map fun p=>.tuple [iD p.2,f p.1]:=by
 unfold jF;rw [List.zipIdx_map,Qt];rfl
theorem zip_map {α β:Type}{l:List α}{m:List β}{f:α->PyData}{g:β->PyData}:((l.map f).zip (m.map g)).map (fun p=>PyData.tuple [p.1,p.2])=(l.zip m).map fun p=>.tuple [f p.1,g p.2]:=by
 rw [List.zip_map,Qt];rfl
def AN {α:Type}{l:List α}{f:α->PyData}{Q:PyData->Prop}:aB (eE (l.map f) 0) Q=aB l[0]? fun a=>Q (f a):=oQ (i:=0)
def AV {α:Type}{l:List α}{f:α->PyData}{Q:PyData->Prop}:aB (eE (l.map f) 1) Q=aB l[1]? fun a=>Q (f a):=oQ (i:=1)
def fT {α:Type}{o:Option α}{a:α}{Q:α->Prop}(h:o=some a)(q:Q a):aB o Q:=by rw [h];exact q
def w9 {a b:Nat}:(a:Int) % (b:Int)=((a % b:Nat):Int):=(Int.natCast_emod a b).symm
def xY {a b:Nat}:(a:Int) / (b:Int)=((a / b:Nat):Int):=(Int.natCast_ediv a b).symm
def AH {a b:Nat}:((a:Int) < (b:Int))=(a < b):=propext Sq
def AU {a b:Nat}:((a:Int)<=(b:Int))=(a<=b):=propext Int.ofNat_le
def cast_eq {a b:Nat}:((a:Int)=(b:Int))=(a=b):=propext Int.ofNat_inj
def cast_pos {a:Nat}:((0:Int) < (a:Int))=(0 < a):=propext Int.natCast_pos
def HQ {a b:Nat}:(if b < a then (b:Int) else (a:Int))=((min a b:Nat):Int):=by split <;> lia
def HA {a b:Nat}:(if a < b then (b:Int) else (a:Int))=((max a b:Nat):Int):=by split <;> lia
def HL {a b:Nat}:(if b > a then (b:Int) else (a:Int))=((max a b:Nat):Int):=by split <;> lia
def tP {ds:VO}:lf (.tuple ds)=ds.all lf:=uS ds
def Ar {p:Bool}{ds:VO}:flat (.ow p) (.list ds)=ds.all lf:=rfl
def se {α β:Type}{l:List α}{f:α->β}{p:β->Bool}:(l.map f).all p=l.all fun a=>p (f a):=by rw [SH];rfl
def EZ {α:Type}{l:List α}:(l.all fun _=>true)=true:=by rw [QK];exact fun _ _=>rfl
def A4 {n:Nat}:lf (iD n)=true:=rfl
def yP {e:Nat×Nat}:lf (gH e)=true:=rfl
def HV {m:Nat}{es:VI}:lf (wD m es)=true:=by
 rw [tP];show (lf (iD m) && (lf (.tuple (es.map gH)) && true))=true;rw [tP,se];simp [A4,yP]
def Oz:type_of% @tP/\type_of% @Ar/\type_of% @se/\type_of% @EZ/\type_of% @A4/\type_of% @yP/\type_of% @HV/\(decide True=true)/\(∀ {ds:VO},lf (.list ds)=false)/\(∀ {α:Type}{l m:List α}{p:α->Bool},(l++m).all p=(l.all p && m.all p)):=⟨@tP,@Ar,@se,@EZ,@A4,@yP,@HV,rfl,rfl,(by intros;exact List.all_append)⟩
def dz:(type_of% Oz)/\type_of% @KC/\type_of% @Lv/\type_of% @oQ/\type_of% @AN/\type_of% @AV/\type_of% @yh/\type_of% @DQ/\type_of% @zm/\type_of% @xj/\type_of% @rE/\type_of% @zip_map/\type_of% @w9/\type_of% @xY/\type_of% @AH/\type_of% @AU/\type_of% @cast_eq/\type_of% @cast_pos/\type_of% @bB/\type_of% @HQ/\type_of% @HA/\type_of% @HL /\
 (∀ {α β:Type}{f:α->β}{l:List α},(l.map f).length=l.length)/\(∀ {n:Nat},(List.range n).length=n)/\(∀ {n:Nat},(n:Int).toNat=n) :=
 ⟨Oz,@KC,@Lv,@oQ,@AN,@AV,@yh,@DQ,@zm,@xj,@rE,@zip_map,@w9,@xY,@AH,@AU,@cast_eq,@cast_pos,@bB,@HQ,@HA,@HL,(by intros;exact Q8 ..),(by intros;exact QI),(by intros;exact UD _)⟩
def qM {α β:Type}(f:α->β){l:List α}:∀ {m:List β},m.Perm (l.map f)->∃ l':List α,l'.Perm l/\m=l'.map f:=by
 have:∀ {a b:List β},a.Perm b->∀ l:List α,b=l.map f->∃ l':List α,l'.Perm l/\a=l'.map f:=by
  intro a b h
  induction h with
  | nil=>intro l e;exact ⟨l,.refl _,e⟩
  | cons x _ ih =>
   intro l e;cases l with
   | nil=>cases e
   | cons y l =>
    rw [QO,U1] at e;obtain ⟨l',p,e'⟩:=ih l e.2;exact ⟨y::l',p.cons _,by rw [e.1,e',QO]⟩
  | swap x y z =>
   intro l e
   match l,e with
   | [],e=>cases e
   | [_],e=>rw [QO,U1] at e;cases e.2
   | u::v::l,e =>
    rw [QO,QO,U1,U1] at e;exact ⟨v::u::l,Tt _ _ _,by rw [QO,QO,e.1,e.2.1,e.2.2]⟩
  | trans _ _ ih1 ih2 =>
   intro l e;obtain ⟨l1,p1,e1⟩:=ih2 l e;obtain ⟨l2,p2,e2⟩:=ih1 l1 e1;exact ⟨l2,p2.trans p1,e2⟩
 intro m h;exact this h l rfl
def mV {ns:VV}{P:Vb}(h:ns.length < 64)(q:∀ ms:VV,ms.Perm ns->ms.Pairwise (·<=·)->P (.ow false) (nD ms)):jT [nD ns] P:=by
 refine ⟨ns.map (fun n:Nat=>(n:Int)),by rw [Qt];rfl,by rw [Q8];exact h,fun ms p s=>?_⟩
 obtain ⟨l,hl,rfl⟩:=qM _ p;rw [Ud] at s;have:=q l hl (List.Pairwise.imp (S:=(·<=·)) (fun {a b} h=>by lia) s)
 rw [Qt];exact this
def Je {ps:VI}{P:Vb}(h:ps.length<=1000)(q:∀ qs:VI,qs.Perm ps->P (.ow false) (.list (qs.map gH))):tT [.list (ps.map gH)] P:=by
 refine ⟨ps.map (fun e:Nat×Nat=>((e.1:Int),(e.2:Int))),by rw [Qt];rfl,by rw [Q8];exact h,fun ms p=>?_⟩
 obtain ⟨l,hl,rfl⟩:=qM _ p;have:=q l hl;rw [Qt];exact this
def Ku {ns:VV}{P:Vb}(h:ns≠[])(q:∀ m:Nat,m∈ns->(∀ n∈ns,n<=m)->P .sh (iD m)):we [nD ns] P:=by
 refine ⟨ns.map (fun n:Nat=>(n:Int)),by rw [Qt];rfl,fun e=>h (U3.mp e),fun M hM le=>?_⟩
 obtain ⟨m,hm,rfl⟩:=QB.mp hM;exact q m hm fun n hn=>by have:=le _ (QB.mpr ⟨n,hn,rfl⟩);lia
def ER {bs:VS}{P:Vb}(q:P .sh (.bool (bs.any id))):wQ [.list (bs.map .bool)] P:=⟨bs,rfl,q⟩
def Mm {bs:VS}{P:Vb}(q:P .sh (.bool (bs.all id))):BA [.list (bs.map .bool)] P:=⟨bs,rfl,q⟩
def jL {a b:Nat}:iD a=iD b↔a=b:=⟨fun h=>by cases h;rfl,fun h=>by rw [h]⟩
theorem map_inj {α β:Type}{f:α->β}(h:∀ a b,f a=f b->a=b):∀ {l m:List α},l.map f=m.map f->l=m
 | [],[],_=>rfl
 | [],_::_,e=>by cases e
 | _::_,[],e=>by cases e
 | a::l,b::m,e=>by
  rw [QO,QO,U1] at e;rw [h _ _ e.1,map_inj h e.2]
def Dr {a b:VV}:nD a=nD b↔a=b:=⟨fun h=>map_inj (fun _ _=>jL.mp) (PyData.list.inj h),fun h=>by rw [h]⟩
end Dv
namespace Gr
inductive R (E:Nat->Nat->Prop) (p:Nat):Nat->Nat->Prop
 | zero:R E p 0 p
 | step {d x y:Nat}:R E p d x->E x y->R E p (d + 1) y
def nW (E:Nat->Nat->Prop) (p x d:Nat):Prop:=R E p d x/\∀ e,e < d->¬ R E p e x
section
variable {E:Nat->Nat->Prop}{p:Nat}
def nW.eq {x d e:Nat}(h:nW E p x d)(g:nW E p x e):d=e:=by
 rcases Te d e with l | l | l
 ·exact absurd h.1 (g.2 d l)
 ·exact l
 ·exact absurd g.1 (h.2 e l)
theorem DV:∀ (n:Nat){x d:Nat},d<=n->R E p d x->∃ e,e<=d/\nW E p x e
 | 0,x,d,l,h=>by
  obtain rfl:d=0:=by lia
  exact ⟨0,Q6 _,h,fun e he=>absurd he (S8 e)⟩
 | n + 1,x,d,l,h=>by
  by_cases c:∃ e,e < d/\R E p e x
  ·obtain ⟨e,he,hr⟩:=c;obtain ⟨e',h1,h2⟩:=DV n (show e<=n by lia) hr
   exact ⟨e',by lia,h2⟩
  ·exact ⟨d,Q6 _,h,fun e he hr=>c ⟨e,he,hr⟩⟩
open Classical in
def dst (E:Nat->Nat->Prop) (p x:Nat):Nat:=if h:∃ d,nW E p x d then Classical.choose h else 0
def xE {x d:Nat}(h:nW E p x d):dst E p x=d:=by
 have h':∃ d,nW E p x d:=⟨d,h⟩;unfold dst;rw [dif_pos h'];exact (Classical.choose_spec h').eq h
def Kz {x d:Nat}(h:R E p d x):nW E p x (dst E p x):=by
 obtain ⟨e,_,g⟩:=DV d (Q6 _) h;rw [xE g];exact g
def R.trans {q:Nat}{d e x:Nat}(h:R E p d q)(g:R E q e x):R E p (d + e) x:=by
 induction g with
 | zero=>exact h
 | step _ s ih=>exact ih.step s
def R.head {q d x:Nat}(h:E p q)(g:R E q d x):R E p (1 + d) x:=R.trans (R.step .zero h) g
def R.symm (sy:∀ x y,E x y->E y x){d x:Nat}(h:R E p d x):R E x d p:=by
 induction h with
 | zero=>exact .zero
 | step _ s ih =>
  have:=R.head (sy _ _ s) ih;rwa [Nat.add_comm] at this
end
def bx (es:VI) (x y:Nat):Prop:=(x,y)∈es\/(y,x)∈es
def eB (x y:Nat)(h:bx es x y):bx es y x:=h.elim .inr .inl
def c7 (m:Nat)(es:VI):Prop:=∀ p,p < m->∀ x,x < m->∃ d,R (bx es) p d x
def J0 {m:Nat}(h:∀ k,0 < k->k < m->∃ p,p < k/\(p,k)∈es):c7 m es:=by
 have z:∀ n x,x < n->x < m->∃ d,R (bx es) x d 0:=by
  intro n
  induction n with
  | zero=>exact fun x h _=>absurd h (S8 _)
  | succ n ih =>
   intro x hx hm
   by_cases c:x=0
   ·rw [c];exact ⟨0,.zero⟩
   ·obtain ⟨q,hq,he⟩:=h x (by lia) hm
    obtain ⟨d,hd⟩:=ih q (by lia) (by lia)
    exact ⟨1 + d,R.head (.inr he) hd⟩
 intro p hp x hx;obtain ⟨d,hd⟩:=z (p + 1) p (by lia) hp
 obtain ⟨e,he⟩:=z (x + 1) x (by lia) hx
 exact ⟨d + e,hd.trans (he.symm eB)⟩
def yz {m:Nat}{nm:Nat->Nat}(h:c7 m es)(onto:∀ x,x < m->∃ a,a < m/\nm a=x)(e:∀ a b,(a,b)∈es->bx fs (nm a) (nm b)):c7 m fs:=by
 intro p hp x hx;obtain ⟨a,ha,rfl⟩:=onto p hp;obtain ⟨b,hb,rfl⟩:=onto x hx;obtain ⟨d,hd⟩:=h a ha b hb;have go:∀ {d b:Nat},R (bx es) a d b->R (bx fs) (nm a) d (nm b):=by
  intro d b hd
  induction hd with
  | zero=>exact .zero
  | step _ s ih =>
   refine R.step ih ?_;rcases s with s | s
   ·exact e _ _ s
   ·exact eB _ _ (e _ _ s)
 exact ⟨d,go hd⟩
theorem dY:∀ (m:Nat)(l:VV),l.Nodup->(∀ x∈l,x < m)->l.length<=m
 | 0,[],_,_=>Q6 _
 | 0,x::_,_,h=>absurd (h x (Q2 ..)) (S8 _)
 | m + 1,l,nd,h=>by
  have h1:(l.erase m).length<=m:=dY m (l.erase m) (nd.sublist (List.erase_sublist ..)) fun x hx=>by
   have:=(nd.mem_erase_iff.mp hx);have:=h x this.2;lia
  have h2:l.length<=(l.erase m).length + 1:=by
   rw [List.length_erase];split <;> lia
  lia
def nb (x:Nat)(e:Nat×Nat):Option Nat:=if e.1=x then some e.2 else if e.2=x then some e.1 else none
def dm (es:VI) (x:Nat):VV:=es.filterMap (nb x)
def uY {x y:Nat}(h:nb x e=some y):e=(x,y)\/e=(y,x):=by
 obtain ⟨a,b⟩:=e;unfold nb at h
 by_cases c:a=x
 ·rw [if_pos c] at h;cases h;rw [c];exact .inl rfl
 ·rw [if_neg c] at h
  by_cases c2:b=x
  ·rw [if_pos c2] at h;cases h;rw [c2];exact .inr rfl
  ·rw [if_neg c2] at h;cases h
def eV {x y:Nat}:y∈dm es x↔bx es x y:=by
 unfold dm;rw [UA];constructor
 ·rintro ⟨e,he,h⟩;rcases uY h with rfl | rfl
  ·exact .inl he
  ·exact .inr he
 ·rintro (h | h)
  ·exact ⟨_,h,if_pos rfl⟩
  ·refine ⟨_,h,?_⟩;show (if y=x then some x else if x=x then some y else none)=some y
   by_cases c:y=x
   ·rw [if_pos c,c]
   ·rw [if_neg c,if_pos rfl]
def Jr {x:Nat}:dm (es++fs) x=dm es x++dm fs x:=Tn ..
structure Good (m:Nat)(es:VI):Prop where
 lt:∀ e∈es,e.1 < e.2/\e.2 < m
 nd:es.Nodup
def Good.fV {m:Nat}(g:Good m es){x y:Nat}(h:bx es x y):x < m/\y < m:=by
 rcases h with h | h
 ·have:x < y/\y < m:=g.lt _ h;lia
 ·have:y < x/\x < m:=g.lt _ h;lia
def Good.lD {m:Nat}(g:Good m es) (x:Nat):(dm es x).Nodup:=by
 unfold dm List.Nodup;rw [List.pairwise_filterMap];refine Ue ?_ g.nd;intro a b ha hb ne y hy z hz e;subst e;rcases uY hy with rfl | rfl <;> rcases uY hz with rfl | rfl
 ·exact ne rfl
 ·have h1:x < y/\y < m:=g.lt _ ha;have h2:y < x/\x < m:=g.lt _ hb;lia
 ·have h1:y < x/\x < m:=g.lt _ ha;have h2:x < y/\y < m:=g.lt _ hb;lia
 ·exact ne rfl
def Good.jy {m:Nat}(g:Good m es) (x:Nat):(dm es x).length<=m:=dY m _ (g.lD x) fun y hy=>(g.fV (eV.mp hy)).2
def Good.perm {m:Nat}(p:fs.Perm es)(g:Good m es):Good m fs:=⟨fun e h=>g.lt e (p.mem_iff.mp h),p.nodup_iff.mpr g.nd⟩
def Ea {m:Nat}(p:fs.Perm es)(h:c7 m es):c7 m fs:=yz (nm:=id) h (fun x hx=>⟨x,hx,rfl⟩) fun a b h=>.inl (p.mem_iff.mpr h)
def vP (ms:VV)(e:Nat×Nat):Nat×Nat:=(min (ms.getD e.1 0) (ms.getD e.2 0),max (ms.getD e.1 0) (ms.getD e.2 0))
def getD_inj {ms:VV}(nd:ms.Nodup){a b:Nat}(ha:a < ms.length)(hb:b < ms.length)(e:ms.getD a 0=ms.getD b 0):a=b:=by
 rw [RD,RD,QV ha,QV hb] at e;have e':ms[a]=ms[b]:=e;rcases Te a b with l | l | l
 ·exact absurd e' (UN.mp nd a b ha hb l)
 ·exact l
 ·exact absurd e'.symm (UN.mp nd b a hb ha l)
def Bb {m:Nat}{ps:VI}{ms:VV}(pm:ms.Perm (List.range m))(g:Good m ps):Good m (ps.map (vP ms)):=by
 have nd:ms.Nodup:=pm.nodup_iff.mpr Ri;have ln:ms.length=m:=by rw [pm.length_eq,QI]
 have lt:∀ a,a < m->ms.getD a 0 < m:=fun a ha=>by
  have h:a < ms.length:=by lia
  rw [RD,QV h];exact Qv.mp (pm.mem_iff.mp (Rn h))
 refine ⟨fun e he=>?_,?_⟩
 ·obtain ⟨⟨a,b⟩,hp,rfl⟩:=QB.mp he;have h:a < b/\b < m:=g.lt _ hp;have h1:=lt a (by lia)
  have h2:=lt b (by lia)
  have ne:ms.getD a 0≠ms.getD b 0:=fun e=>by
   have:=getD_inj nd (by lia) (by lia) e
   lia
  show min (ms.getD a 0) (ms.getD b 0) < max (ms.getD a 0) (ms.getD b 0)/\max (ms.getD a 0) (ms.getD b 0) < m;lia
 ·refine List.Pairwise.map _ ?_ (Ue (S:=fun x y=>x≠y/\(x.1 < x.2/\x.2 < m)/\(y.1 < y.2/\y.2 < m)) (fun {a b} ha hb h=>⟨h,g.lt _ ha,g.lt _ hb⟩) g.nd)
  rintro ⟨a,b⟩ ⟨c,d⟩ ⟨ne,h1,h2⟩ e;have h1:a < b/\b < m:=h1;have h2:c < d/\d < m:=h2;have e1:min (ms.getD a 0) (ms.getD b 0)=min (ms.getD c 0) (ms.getD d 0):=congrArg Prod.fst e;have e2:max (ms.getD a 0) (ms.getD b 0)=max (ms.getD c 0) (ms.getD d 0):=congrArg Prod.snd e;have e3:(ms.getD a 0=ms.getD c 0/\ms.getD b 0=ms.getD d 0)\/(ms.getD a 0=ms.getD d 0/\ms.getD b 0=ms.getD c 0):=by lia
  rcases e3 with ⟨p,q⟩ | ⟨p,q⟩
  ·have r1:=getD_inj nd (by lia) (by lia) p
   have r2:=getD_inj nd (by lia) (by lia) q
   subst r1;subst r2;exact ne rfl
  ·have r1:=getD_inj nd (by lia) (by lia) p
   have r2:=getD_inj nd (by lia) (by lia) q
   lia
def Bh {m:Nat}(pm:ms.Perm (List.range m))(h:c7 m ps):c7 m (ps.map (vP ms)):=by
 refine yz (nm:=fun a=>ms.getD a 0) h (fun x hx=>?_) fun a b he=>?_
 ·obtain ⟨i,hi⟩:=Rt (pm.mem_iff.mpr (Qv.mpr hx));have li:=(RT.mp hi).1;rw [pm.length_eq,QI] at li;refine ⟨i,li,?_⟩;show ms.getD i 0=x;rw [RD,hi];rfl
 ·have hm:vP ms (a,b)∈ps.map (vP ms):=QB.mpr ⟨_,he,rfl⟩;show bx _ (ms.getD a 0) (ms.getD b 0);have e:vP ms (a,b)=(min (ms.getD a 0) (ms.getD b 0),max (ms.getD a 0) (ms.getD b 0)):=rfl;rw [e] at hm;rcases U0 (ms.getD a 0) (ms.getD b 0) with l | l
  ·rw [TM l,Nat.max_eq_right l] at hm;exact .inl hm
  ·rw [TN l,Nat.max_eq_left l] at hm;exact .inr hm
section
variable {E:Nat->Nat->Prop}{p:Nat}
def nW.pred {x d:Nat}(h:nW E p x (d + 1)):∃ y,nW E p y d/\E y x:=by
 obtain ⟨h1,h2⟩:=h;cases h1 with
 | @step _ y _ hy hyx =>
  refine ⟨y,⟨hy,fun e he hr=>?_⟩,hyx⟩
  exact h2 (e + 1) (by lia) (hr.step hyx)
end
def jh:Nat->Nat
 | 0=>0
 | b + 1=>jh b + b
def wF {a b:Nat}(h:a<=b):jh a<=jh b:=by
 induction b with
 | zero =>
  obtain rfl:a=0:=by lia
  exact Q6 _
 | succ b ih =>
  by_cases c:a=b + 1
  ·rw [c];exact Q6 _
  ·exact QW (ih (by lia)) (Ut _ _)
theorem z4:∀ m,2 * jh m<=m * m
 | 0=>Q6 _
 | m + 1=>by
  have:=z4 m;show 2 * (jh m + m)<=(m + 1) * (m + 1);rw [Nat.mul_add,Nat.add_mul,Nat.mul_add];lia
def ix (e:Nat×Nat):Nat:=jh e.2 + e.1
def LO (he:e.1 < e.2)(hf:f.1 < f.2)(h:ix e=ix f):e=f:=by
 obtain ⟨a,b⟩:=e;obtain ⟨c,d⟩:=f;unfold ix at h;dsimp only at he hf h;have key:∀ {a b c d:Nat},a < b->b < d->jh b + a < jh d + c:=fun {a b c d} h1 h2=>by
  have:=wF (a:=b + 1) (b:=d) (by lia)
  have e:jh (b + 1)=jh b + b:=rfl;lia
 rcases Te b d with l | l | l
 ·have:=key (c:=c) he l;lia
 ·subst l;rw [show a=c by lia]
 ·have:=key (c:=a) hf l;lia
def GN {m:Nat}(g:Good m ps):2 * ps.length<=m * m:=by
 have h:=dY (jh m) (ps.map ix) ?_ ?_
 ·rw [Q8] at h;have:=z4 m;lia
 ·unfold List.Nodup;rw [Ud];exact Ue (fun {e f} he hf ne h=>ne (LO (g.lt e he).1 (g.lt f hf).1 h)) g.nd
 ·intro x hx;obtain ⟨e,he,rfl⟩:=QB.mp hx;have l:=g.lt e he;have:=wF (a:=e.2 + 1) (b:=m) (by lia)
  have e2:jh (e.2 + 1)=jh e.2 + e.2:=rfl;unfold ix;lia
end Gr
local macro_rules | `(tactic| bv_omega) => do let ls ← (List.range 227).toArray.mapM fun k => `(Lean.Parser.Tactic.simpLemma| $(Lean.mkIdent (.str `Dv s!"rr{k}")):ident); `(tactic| dsimp only [$ls,*, Dv.dyr0, Dv.dyr1, Dv.dyr2, Dv.dyr3, Nat.reduceBEq])
local macro_rules | `(tactic| rfl') => `(tactic| ((try bv_omega); try simp only [Dv.dv, Dv.dw, Dv.dx, Dv.dy, Dv.dz, Nat.reduceBEq]))
local macro_rules | `(tactic| simp! [$xs,*]) => `(tactic| ((try bv_omega); try simp only [Dv.dv, Dv.dw, Dv.dx, Dv.dy, Dv.dz, Nat.reduceBEq, $xs,*]))
namespace PB
open PySem L2 Dv
def I0 {α:Type}{m k:Nat}{f:Nat->α}{v:α}:((List.range m).map f).set k v=(List.range m).map fun i=>if i=k then v else f i:=by
 refine Rx fun j=>?_
 rw [TR,Q8,QI,QN,QN]
 by_cases h:j < m
 ·rw [RU h]
  by_cases c:k=j
  ·subst c;rw [if_pos rfl,if_pos h];simp
  ·rw [if_neg c];simp [Ne.symm c]
 ·rw [RG (by rw [QI];lia)]
  by_cases c:k=j
  ·subst c;rw [if_pos rfl,if_neg h];rfl
  ·rw [if_neg c];rfl
def JZ {α:Type}{m k:Nat}{f:Nat->α}(h:k < m):((List.range m).map f)[k]?=some (f k):=by rw [QN,RU h];rfl
def ON (f:DM) (i n:Nat)(E1:En)(w:PyData)(Q:VY):Prop:=∃ a p ds m es k d E2,w=.int a/\E1[i]?=some (some (.dp p,.list ds))/\kG ds.length a=some m/\ds[m]?=some (.list es)/\E1[n]?=some (some (k,d))/\i≠n/\dD E1 n=some E2/\f es [d] fun new v=>Q (E2.set i (some (.dp p,.list (ds.set m (.list new))))) .sh v
def CM {i n:Nat}:ym f i j n x (o::E) Q=(here (o::E) i=true/\j x (o::E) fun E1 _ w=>ON f i n E1 w Q):=rfl
def DL {i n a m:Nat}{p:Bool}{E:En}{g:Nat->VO}{Q:VY}(h1:E[i]?=some (some (.dp p,.list ((List.range m).map fun i=>.list (g i)))))(h2:E[n]?=some (some (.sh,d)))(ne:i≠n)(ha:a < m)(hs:(g a).length < 16777216)(q:Q (E.set i (some (.dp p,.list ((List.range m).map fun k=>.list (if k=a then g k++[d] else g k))))) .sh .none):ON eY i n E (iD a) Q:=by
 refine ⟨a,p,_,a,g a,.sh,d,E,rfl,h1,?_,JZ ha,h2,ne,?_,?_⟩
 ·rw [Q8,QI];exact Dk ha
 ·have:=w6 (E:=E) (is:=[n]) (by simp [ig,h2])
  unfold dX at this;cases e:dD E n with
  | none=>rw [e] at this;cases this
  | some E2=>rw [e] at this;exact this
 ·refine ⟨hs,?_⟩;show Q (E.set i (some (.dp p,.list (((List.range m).map fun i=>PyData.list (g i)).set a (.list (g a++[d])))))) .sh .none
  rw [I0];have e:((List.range m).map fun k=>if k=a then PyData.list (g a++[d]) else .list (g k))=(List.range m).map fun k=>PyData.list (if k=a then g k++[d] else g k):=by
   refine Rj fun k _=>?_
   by_cases c:k=a
   ·rw [if_pos c,if_pos c,c]
   ·rw [if_neg c,if_neg c]
  rw [e];exact q
abbrev HN (m:Nat)(es:VI):PyData:=.list ((List.range m).map fun i=>nD (Gr.dm es i))
def uv:bD:=fun ds Q x=>∃ m es,ds=[wD m es]/\m<=60/\Gr.Good m es/\Q [] (.dp false) (HN m es)
def K6:∀ ds Q x,uv ds Q x->gW (bq [false] Q x) (ini [false] ds++List.replicate 6 none):=by
 rintro _ Q x ⟨m,es,rfl,hm,gd,q⟩;unfold gW;rfl';rw [if_pos (by lia)]
 refine fT rfl (M4 (fun _=>PyData.list []) rfl (fun a ha I hI=>?_) ?_ (by rw [QI];lia))
 ·rfl';exact ⟨by lia,⟨false,rfl⟩,hI _ rfl⟩
 ·rfl';refine tQ (fun i E=>∃ o4 o5:Va,E=[some (.sh,wD m es),some (.sh,iD m),some (.sh,.tuple (es.map gH)),some (.dp false,HN m (es.take i)),o4,o5,none]/\bu o4=true/\bu o5=true) ⟨none,none,rfl,rfl,rfl⟩ ?_ ?_
  ·rintro i ⟨a,b⟩ _ hi ⟨o4,o5,rfl,ho4,ho5⟩;have hab:=gd.lt _ (QX hi);have hab:a < b/\b < m:=hab;simp! [ho4,ho5,CM];have hn:∀ k,(Gr.dm (es.take i) k).length < 1000:=fun k=>by
    have g2:Gr.Good m (es.take i):=⟨fun e he=>gd.lt e (List.mem_of_mem_take he),SK (List.take_sublist _ _) gd.nd⟩
    have:=g2.jy k;lia
   refine DL (g:=fun k=>(Gr.dm (es.take i) k).map iD) rfl rfl (by lia) (by lia) (by rw [Q8];have:=hn a;lia) ?_
   simp! [ho4,ho5,CM];refine DL (g:=fun k=>if k=a then (Gr.dm (es.take i) k).map iD++[iD b] else (Gr.dm (es.take i) k).map iD) rfl rfl (by lia) (by lia) (by rw [if_neg (by lia),Q8];have:=hn b;lia) ?_
   refine ⟨some (.sh,iD a),some (.sh,iD b),?_,rfl,rfl⟩;simp only [List.set_cons_succ,List.set_cons_zero];have e:∀ k,(if k=b then (if k=a then (Gr.dm (es.take i) k).map iD++[iD b] else (Gr.dm (es.take i) k).map iD)++[iD a] else if k=a then (Gr.dm (es.take i) k).map iD++[iD b] else (Gr.dm (es.take i) k).map iD)=(Gr.dm (es.take (i + 1)) k).map iD:=fun k=>by
    rw [take_snoc hi,Gr.Jr,QY];unfold Gr.dm;rw [RM,List.filterMap_nil];unfold Gr.nb;simp only
    by_cases c:k=a
    ·subst c;rw [if_neg (by lia),if_pos rfl,if_pos rfl]
     rfl
    ·by_cases c2:k=b
     ·subst c2;rw [if_pos rfl,if_neg c,if_neg (Ne.symm c),if_pos rfl];rfl
     ·rw [if_neg c2,if_neg c,if_neg (Ne.symm c),if_neg (Ne.symm c2)];exact (RN _).symm
   rw [Rj fun k _=>congrArg PyData.list (e k)]
  ·rintro _ ⟨o4,o5,rfl,ho4,ho5⟩;rw [RW];rfl';exact q
def u5 {y:Nat}:nD (l++[y])=.list (l.map iD++[iD y]):=by
 show PyData.list ((l++[y]).map iD)=_;rw [QY];rfl
structure bW (m:Nat)(es:VI):Prop where
 pos:1<=m
 le:m<=60
 gd:Gr.Good m es
 cn:Gr.c7 m es
def bW.few {m:Nat}(W:bW m es):es.length<=1800:=by
 have h:=Gr.GN W.gd;have:=SN W.le W.le;lia
def Cc:bD:=fun ds Q x=>∃ m es,∃ p:Int,ds=[wD m es,.int p]/\(0<=p/\p < m->Q [] .sh .none)/\(¬ (0<=p/\p < m)->x "NoPlace" .none)
def MS:∀ ds Q x,Cc ds Q x->gJ (bq [false,false] Q x) (ini [false,false] ds++List.replicate 0 none):=by
 rintro _ Q x ⟨m,es,p,rfl,q,r⟩;unfold gJ;rfl';split
 ·rename_i h;split
  ·rename_i h2;exact r fun z=>h2 z.2
  ·rename_i h2;exact q ⟨h,Decidable.of_not_not h2⟩
 ·rename_i h;exact r fun z=>h z.1
abbrev Th:=Nat ⊕ (Nat×Nat)
def MQ:Th->PyData
 | .inl x=>iD x
 | .inr e=>gH e
def P4:lf (MQ t)=true:=by cases t <;> rfl
def qo (k:Str) (m:Nat)(es:VI):List Th:=(if k="ties" then [] else (List.range m).map Sum.inl)++(if k="places" then [] else es.map Sum.inr)
def Bv:bD:=fun ds Q x=>∃ m es k,ds=[wD m es,.str k]/\bW m es/\Q [] (.ow false) (.list ((qo k m es).map MQ))
def MO:∀ ds Q x,Bv ds Q x->l8 (bq [false,false] Q x) (ini [false,false] ds++List.replicate 4 none):=by
 rintro _ Q x ⟨m,es,k,rfl,W,q⟩;have e:(qo k m es).map MQ=(if k="ties" then [] else (List.range m).map iD)++(if k="places" then [] else es.map gH):=by
  unfold qo;rw [QY];congr 1
  ·split
   ·rfl
   ·rw [Qt];rfl
  ·split
   ·rfl
   ·rw [Qt];rfl
 have hm:=W.le;have hf:=W.few;unfold l8;rfl';rw [e] at q
 by_cases c1:k="ties"
 ·by_cases c2:k="places"
  ·subst c1;exact absurd c2 (by decide)
  ·simp only [if_pos c1,if_neg c2,dv,dw,dx,dy,dz,Nat.reduceBEq] at q ⊢;exact ⟨by lia,by lia,q⟩
 ·by_cases c2:k="places"
  ·simp only [if_neg c1,if_pos c2,dv,dw,dx,dy,dz,Nat.reduceBEq,RN] at q ⊢;exact ⟨⟨by lia,by lia⟩,by lia,by lia,q⟩
  ·simp only [if_neg c1,if_neg c2,dv,dw,dx,dy,dz,Nat.reduceBEq] at q ⊢;exact ⟨⟨by lia,by lia⟩,by lia,q⟩
def rising (l:VV):Prop:=l.Pairwise (· < ·)
def ng {m:Nat}(h:rising l)(lt:∀ x∈l,x < m):l.length<=m:=Gr.dY m l (h.imp fun h=>QG h) lt
theorem bI {α:Type}{f:α->PyData}{p:α->Bool}:∀ {l:List α},(l.filterMap fun t=>if p t=true then some (f t) else none)=(l.filter p).map f
 | []=>rfl
 | a::l=>by
  rw [RM,To];cases h:p a with
  | true=>simp only [if_true];rw [bI];rfl
  | false=>simp only [if_neg (Qu)];exact bI
end PB
namespace Gr
abbrev ds (es:VI) (p x:Nat):Nat:=dst (bx es) p x
section
variable {m:Nat}{es:VI}
def c7.is (cn:c7 m es){p x:Nat}(hp:p < m)(hx:x < m):nW (bx es) p x (ds es p x):=let ⟨_,h⟩:=cn p hp x hx;Kz h
def fQ {p:Nat}:ds es p p=0:=xE ⟨.zero,fun e he=>absurd he (S8 e)⟩
def c7.le (cn:c7 m es){p x d:Nat}(hp:p < m)(hx:x < m)(h:R (bx es) p d x):ds es p x<=d:=by
 rcases RL d (ds es p x) with l | l
 ·exact absurd h ((cn.is hp hx).2 d l)
 ·exact l
def c7.jh (cn:c7 m es){p x y:Nat}(hp:p < m)(hx:x < m)(hy:y < m):ds es p y<=ds es p x + ds es x y:=cn.le hp hy ((cn.is hp hx).1.trans (cn.is hx hy).1)
def c7.sy (cn:c7 m es){p x:Nat}(hp:p < m)(hx:x < m):ds es p x=ds es x p:=by
 have h1:=cn.le hx hp ((cn.is hp hx).1.symm eB);have h2:=cn.le hp hx ((cn.is hx hp).1.symm eB);lia
def c7.zero (cn:c7 m es){p x:Nat}(hp:p < m)(hx:x < m)(h:ds es p x=0):x=p:=by
 have:=(cn.is hp hx).1;rw [h] at this;cases this;rfl
def c7.Ph (cn:c7 m es){p x y:Nat}(hp:p < m)(hx:x < m)(hy:y < m)(h:bx es x y):ds es p y<=ds es p x + 1:=cn.le hp hy ((cn.is hp hx).1.step h)
theorem c7.pred (cn:c7 m es)(gd:Good m es){p x:Nat}(hp:p < m)(hx:x < m)(h:x≠p):∃ y,y < m/\bx es x y/\ds es p y + 1=ds es p x:=by
 have hI:=cn.is hp hx;cases e:ds es p x with
 | zero=>exact absurd (cn.zero hp hx e) h
 | succ d =>
  rw [e] at hI;obtain ⟨y,hy,a⟩:=hI.pred;exact ⟨y,(gd.fV a).1,eB _ _ a,by rw [show ds es p y=d from xE hy]⟩
structure Tree (m:Nat)(es:VI):Prop where
 gd:Good m es
 cn:c7 m es
 len:es.length + 1=m
def sR (x y:Nat):Nat×Nat:=(min x y,max x y)
def z8 (gd:Good m es){x y:Nat}(h:bx es x y):sR x y∈es:=by
 rcases h with h | h
 ·have:=gd.lt _ h;have:x < y/\y < m:=this;have e:sR x y=(x,y):=by unfold sR;rw [TM (by lia),Nat.max_eq_right (by lia)]
  rw [e];exact h
 ·have:=gd.lt _ h;have:y < x/\x < m:=this;have e:sR x y=(y,x):=by unfold sR;rw [TN (by lia),Nat.max_eq_left (by lia)]
  rw [e];exact h
def sub_len' {α:Type} [DecidableEq α]{l:List α}(nd:l.Nodup):∀ {k:List α},(∀ x∈l,x∈k)->l.length<=k.length:=by
 induction l with
 | nil=>intro k _;exact Qw _
 | cons a l ih =>
  intro k h;have ha:=h a Q2;have nd':=R8.mp nd;have:=ih nd'.2 (k:=k.erase a) fun x hx=>(V3 fun e=>nd'.1 (by rw [<- e];exact hx)).mpr (h x (Q7 _ hx))
  rw [V4 ha] at this;have:=Tz ha;rw [QH];lia
def K2 {α:Type} [DecidableEq α]{l k:List α}(nd:l.Nodup)(h:∀ x∈l,x∈k)(hl:k.length<=l.length):∀ x∈k,x∈l:=by
 intro x hx
 by_cases c:x∈l
 ·exact c
 ·exfalso;have:=sub_len' nd (k:=k.erase x) fun y hy=>(V3 fun e=>c (by rw [<- e];exact hy)).mpr (h y hy)
  rw [V4 hx] at this;have:=Tz hx;lia
open Classical in
def Tree.MD (T:Tree m es){p:Nat}(hp:p < m):∃ par:Nat->Nat,(∀ x,x < m->x≠p->par x < m/\bx es x (par x)/\ds es p (par x) + 1=ds es p x)/\∀ x y,bx es x y->(x≠p/\y=par x)\/(y≠p/\x=par y):=by
 have ch:∀ x,∃ y,x < m->x≠p->y < m/\bx es x y/\ds es p y + 1=ds es p x:=fun x=>by
  by_cases c:x < m/\x≠p
  ·obtain ⟨y,h1,h2,h3⟩:=T.cn.pred T.gd hp c.1 c.2;exact ⟨y,fun _ _=>⟨h1,h2,h3⟩⟩
  ·exact ⟨0,fun h1 h2=>absurd ⟨h1,h2⟩ c⟩
 have ⟨par,hpar⟩:∃ par:Nat->Nat,∀ x,x < m->x≠p->par x < m/\bx es x (par x)/\ds es p (par x) + 1=ds es p x:=⟨fun x=>Classical.choose (ch x),fun x h1 h2=>Classical.choose_spec (ch x) h1 h2⟩
 refine ⟨par,hpar,fun x y h=>?_⟩
 have two:∀ {a b c d:Nat},sR a b=sR c d->(a=c/\b=d)\/(a=d/\b=c):=fun {a b c d} e=>by
  have e1:min a b=min c d:=congrArg Prod.fst e;have e2:max a b=max c d:=congrArg Prod.snd e;lia
 have mem:∀ z,z∈(List.range m).filter (fun x=>decide (x≠p))↔z < m/\z≠p:=fun z=>by rw [QU,Qv,RS]
 have nd0:((List.range m).filter fun x=>decide (x≠p)).Nodup:=SK Sl Ri
 have len:es.length<=(((List.range m).filter fun x=>decide (x≠p)).map fun x=>sR x (par x)).length:=by
  rw [Q8];have:=sub_len' (l:=List.range m) Ri (k:=p::(List.range m).filter fun x=>decide (x≠p)) fun x hx=>by
   by_cases c:x=p
   ·rw [c];exact Q2
   ·exact Q7 _ ((mem x).mpr ⟨Qv.mp hx,c⟩)
  rw [QI,QH] at this;have:=T.len;lia
 have nd:(((List.range m).filter fun x=>decide (x≠p)).map fun x=>sR x (par x)).Nodup:=by
  refine List.Pairwise.map _ (R:=fun a b=>a≠b/\(a < m/\a≠p)/\(b < m/\b≠p)) (fun a b hab e=>?_) (Ue (R:=fun a b=>a≠b) (fun {a b} ha hb h=>⟨h,(mem a).mp ha,(mem b).mp hb⟩) nd0)
  obtain ⟨ne,ha,hb⟩:=hab;obtain ⟨_,_,h1⟩:=hpar a ha.1 ha.2;obtain ⟨_,_,h2⟩:=hpar b hb.1 hb.2;rcases two e with ⟨z,_⟩ | ⟨z1,z2⟩
  ·exact ne z
  ·rw [z2] at h1;rw [<- z1] at h2;lia
 have inn:=K2 nd (fun e he=>by
  obtain ⟨z,hz,rfl⟩:=QB.mp he;obtain ⟨h1,h2⟩:=(mem z).mp hz;exact z8 T.gd (hpar z h1 h2).2.1) len
 obtain ⟨z,hz,e⟩:=QB.mp (inn _ (z8 T.gd h));have hz:=(mem z).mp hz;rcases two e with ⟨e1,e2⟩ | ⟨e1,e2⟩
 ·subst e1;exact .inl ⟨hz.2,e2.symm⟩
 ·subst e1;exact .inr ⟨hz.2,e2.symm⟩
def Tree.near (T:Tree m es){p x y:Nat}(hp:p < m)(h:bx es x y):ds es p x=ds es p y + 1\/ds es p y=ds es p x + 1:=by
 obtain ⟨par,h1,h2⟩:=T.MD hp;obtain ⟨hx,hy⟩:=T.gd.fV h;rcases h2 x y h with ⟨n,rfl⟩ | ⟨n,rfl⟩
 ·exact .inl (h1 x hx n).2.2.symm
 ·exact .inr (h1 y hy n).2.2.symm
def Tree.one (T:Tree m es){p x y z:Nat}(hp:p < m)(h:bx es x y)(g:bx es x z)(hy:ds es p x=ds es p y + 1)(hz:ds es p x=ds es p z + 1):y=z:=by
 obtain ⟨par,h1,h2⟩:=T.MD hp;obtain ⟨hx,hy'⟩:=T.gd.fV h;have hz':=(T.gd.fV g).2;have key:∀ w,bx es x w->w < m->ds es p x=ds es p w + 1->w=par x:=fun w a hw e=>by
  rcases h2 x w a with ⟨_,r⟩ | ⟨n,r⟩
  ·exact r
  ·have:=(h1 w hw n).2.2;rw [<- r] at this;lia
 rw [key y h hy' hy,key z g hz' hz]
def cR (es:VI) (p n x:Nat):Prop:=ds es n x + 1=ds es p x
def Tree.vI (T:Tree m es){p n x:Nat}(hx:x < m)(h:bx es p n):cR es p n x\/ds es n x=ds es p x + 1:=by
 obtain ⟨hp,hn⟩:=T.gd.fV h;have:=T.near hx h;unfold cR;rw [T.cn.sy hn hx,T.cn.sy hp hx];lia
def Tree.BK (T:Tree m es){p n k x:Nat}(hx:x < m)(h:bx es p n)(g:bx es p k)(hn:cR es p n x)(hk:cR es p k x):n=k:=by
 obtain ⟨hp,hn'⟩:=T.gd.fV h;have hk':=(T.gd.fV g).2;unfold cR at hn hk;rw [T.cn.sy hn' hx,T.cn.sy hp hx] at hn;rw [T.cn.sy hk' hx,T.cn.sy hp hx] at hk;exact T.one hx h g (by lia) (by lia)
def Tree.some (T:Tree m es){p x:Nat}(hp:p < m)(hx:x < m)(ne:x≠p):∃ n,bx es p n/\cR es p n x:=by
 obtain ⟨n,hn,a,e⟩:=T.cn.pred T.gd hx hp (Ne.symm ne);refine ⟨n,a,?_⟩;unfold cR;rw [T.cn.sy hn hx,T.cn.sy hp hx];exact e
def Tree.rB (T:Tree m es){p n x y:Nat}(hp:p < m)(hn:n < m)(h:bx es p n)(hb:cR es p n x)(a:bx es x y)(ne:y≠p):cR es p n y:=by
 obtain ⟨hx,hy⟩:=T.gd.fV a;unfold cR at hb ⊢;rcases T.vI hy h with z | z
 ·exact z
 ·exfalso;have h1:=T.near hp a;have h2:=T.near hn a;have e1:ds es p y + 1=ds es p x:=by lia
  have e2:ds es n y=ds es n x + 1:=by lia
  by_cases c:x=n
  ·subst c;rw [fQ] at hb;exact ne (T.cn.zero hp hy (by lia))
  ·obtain ⟨z,hz,b,e3⟩:=T.cn.pred T.gd hn hx c;have h5:=T.cn.jh hp hn hz;have h6:ds es p n=1:=by
    have:=T.near hp h;rw [fQ] at this;lia
   have h7:=T.near hp b;have:=T.one hp a b (by lia) (by lia)
   subst this;lia
def Tree.dn (T:Tree m es){p n:Nat}(hp:p < m)(h:bx es p n):ds es p n=1:=by
 have:=T.near hp h;rw [fQ] at this;lia
def Tree.yT (T:Tree m es){p n x:Nat}(hp:p < m)(hx:x < m)(h:bx es p n)(hb:cR es p n x)(ne:x≠n):∃ y,y < m/\bx es y x/\cR es p n y/\ds es p x=ds es p y + 1/\ds es n y + 1=ds es n x:=by
 obtain ⟨_,hn⟩:=T.gd.fV h;obtain ⟨y,hy,a,e⟩:=T.cn.pred T.gd hn hx ne;have h1:=T.cn.jh hp hn hy;have h2:=T.dn hp h;have h3:=T.near hp a;unfold cR at hb ⊢;exact ⟨y,hy,eB _ _ a,by lia,by lia,e⟩
def jv (T:Tree m es){p n:Nat}(hp:p < m)(h:bx es p n):cR es p n n:=by
 unfold cR;rw [fQ,T.dn hp h]
def Tree.walk (T:Tree m es){l w b:Nat}(hl:l < m)(a:bx es w b)(nl:¬ cR es w b l){d v:Nat}(h:R (bx es) l d v)(hv:cR es w b v):ds es l w + 1 + ds es b v<=d:=by
 obtain ⟨hw,hb⟩:=T.gd.fV a
 induction h with
 | zero=>exact absurd hv nl
 | @step d y v r c ih =>
  obtain ⟨hy,hv'⟩:=T.gd.fV c
  by_cases q:cR es w b y
  ·have:=ih q;have:=T.cn.Ph hb hy hv' c;lia
  ·have e:y=w:=by
    by_cases z:y=w
    ·exact z
    ·exact absurd (T.rB hw hb a hv (eB _ _ c) z) q
   subst e;have e2:=T.BK hv' a c hv (jv T hw c);subst e2;have:=T.cn.le hl hw r;rw [fQ];lia
def Tree.Hh (T:Tree m es){l w b v:Nat}(hl:l < m)(hv':v < m)(a:bx es w b)(nl:¬ cR es w b l)(hv:cR es w b v):ds es l v=ds es l w + 1 + ds es b v:=by
 obtain ⟨hw,hb⟩:=T.gd.fV a;have h1:=T.walk hl a nl (T.cn.is hl hv').1 hv;have h2:=T.cn.jh hl hw hv';have h3:=T.cn.jh hw hb hv';have h4:=T.dn hw a;lia
end
end Gr
namespace Dv
open PySem L2
def Ml {most i:Nat}:zc most i e D (o::E)=(jw (o::E) i=true/\e D.xc (o::E) fun E1 k v=>k.fz=true/\HM most E1 i v D.nx):=by
 unfold zc;congr 1;congr 1;funext E1 k v;congr 1;unfold HM;refine propext ⟨fun ⟨p,ds,es,e1,e2,h,q⟩=>by subst e2;rw [e1];exact ⟨h,q⟩,fun h=>?_⟩
 split at h
 ·rename_i p ds es e1;exact ⟨p,ds,es,e1,rfl,h.1,h.2⟩
 ·exact h.elim
def NW {most i:Nat}{p:Bool}(h:E[i]?=some (some (.ow p,.list ds)))(hl:ds.length + es.length<=most)(q:Q (E.set i (some (.ow p,.list (ds++es))))):HM most E i (.list es) Q:=by
 unfold HM;rw [h];exact ⟨hl,q⟩
end Dv
namespace PB
open PySem L2 Dv Gr
def pc (m:Nat)(es:VI) (p n:Nat):VV:=(List.range m).filter fun x=>decide (ds es n x + 1=ds es p x)
def dh {m p n x:Nat}:x∈pc m es p n↔x < m/\cR es p n x:=by
 unfold pc;rw [QU,Qv,RS];exact Iff.rfl
def tG {m p n:Nat}:rising (pc m es p n):=List.Pairwise.filter _ Ur
structure sP (m:Nat)(es:VI) (p n:Nat)(vis:VV)(stk:VI):Prop where
 nd:(vis++stk.map (·.2)).Nodup
 vI:∀ x∈vis++stk.map (·.2),x < m/\cR es p n x
 par:∀ q∈stk,bx es q.1 q.2/\ds es p q.2=ds es p q.1 + 1
 cl:∀ x∈vis,∀ y,bx es x y->ds es p y=ds es p x + 1->y∈vis++stk.map (·.2)
 up:∀ x∈vis++stk.map (·.2),x≠n->∃ y∈vis,bx es y x/\ds es p x=ds es p y + 1
 st:n∈vis++stk.map (·.2)
def sP.start {m p n:Nat}(T:Tree m es)(h:bx es p n):sP m es p n [] [(p,n)]:=by
 obtain ⟨hp,hn⟩:=T.gd.fV h;have one:∀ x,x∈([]:VV)++[(p,n)].map (·.2)↔x=n:=fun x=>by simp
 refine ⟨by simp,fun x hx=>?_,fun q hq=>?_,fun x hx=>absurd hx QZ,fun x hx ne=>absurd ((one x).mp hx) ne,(one n).mpr rfl⟩
 ·rw [(one x).mp hx];exact ⟨hn,jv T hp h⟩
 ·rw [QF.mp hq];exact ⟨h,by rw [fQ,T.dn hp h]⟩
def sP.step {m p n l h:Nat}{es:VI}{vis:VV}{stk:VI}(T:Tree m es)(hpn:bx es p n)(D:sP m es p n vis (stk++[(l,h)])):sP m es p n (vis++[h]) (stk++((dm es h).filter fun y=>decide (y≠l)).map fun y=>(h,y)):=by
 obtain ⟨hp,hn⟩:=T.gd.fV hpn;have old:∀ x,x∈vis++(stk++[(l,h)]).map (·.2)↔x∈vis\/x∈stk.map (·.2)\/x=h:=fun x=>by
  rw [QA,QY,QA];simp
 have hh:=D.vI h ((old h).mpr (.inr (.inr rfl)));have ⟨alh,elh⟩:=D.par (l,h) (QA.mpr (.inr Q2));have alh:bx es l h:=alh;have elh:ds es p h=ds es p l + 1:=elh;have kid:∀ y,bx es h y->(y≠l↔ds es p y=ds es p h + 1):=fun y a=>by
  constructor
  ·intro ne;rcases T.near hp a with z | z
   ·exact absurd (T.one hp a (eB _ _ alh) z (by lia)) ne
   ·exact z
  ·rintro e rfl;lia
 have newm:∀ y,y∈(((dm es h).filter fun y=>decide (y≠l)).map fun y=>(h,y)).map (·.2)↔bx es h y/\ds es p y=ds es p h + 1:=fun y=>by
  rw [Qt];have:((fun x:Nat×Nat=>x.2) ∘ fun y=>(h,y))=id:=rfl
  rw [this,List.map_id,QU,RS,eV];exact ⟨fun ⟨a,b⟩=>⟨a,(kid y a).mp b⟩,fun ⟨a,b⟩=>⟨a,(kid y a).mpr b⟩⟩
 have ndo:=D.nd;rw [QY,<- Qs] at ndo;have hnot:h∉vis++stk.map (·.2):=fun z=>(Qy.mp ndo).2.2 h z h (by simp) rfl
 have nvis:h∉vis:=fun z=>hnot (QA.mpr (.inl z))
 have newn:∀ y,bx es h y->ds es p y=ds es p h + 1->y∉vis++(stk++[(l,h)]).map (·.2):=fun y a e z=>by
  have yn:y≠n:=fun q=>by
   have h1:=T.dn hp hpn;have h2:=hh.2;unfold cR at h2;rw [q] at e;lia
  obtain ⟨w,hw,b,e2⟩:=D.up y z yn;have:=T.one hp (eB _ _ a) (eB _ _ b) e e2;exact nvis (this ▸ hw)
 have nw:∀ x,x∈(vis++[h])++(stk++((dm es h).filter fun y=>decide (y≠l)).map fun y=>(h,y)).map (·.2)↔(x∈vis\/x∈stk.map (·.2)\/x=h)\/(bx es h x/\ds es p x=ds es p h + 1):=fun x=>by
  rw [QA,QY,QA,QA,newm,QF];constructor
  ·rintro ((a | a) | a | a)
   ·exact .inl (.inl a)
   ·exact .inl (.inr (.inr a))
   ·exact .inl (.inr (.inl a))
   ·exact .inr a
  ·rintro ((a | a | a) | a)
   ·exact .inl (.inl a)
   ·exact .inr (.inl a)
   ·exact .inl (.inr a)
   ·exact .inr (.inr a)
 refine ⟨?_,fun x hx=>?_,fun q hq=>?_,fun x hx y a e=>?_,fun x hx ne=>?_,?_⟩
 ·-- none twice
  rw [QY,<- Qs,Qy];refine ⟨?_,?_,fun a ha b hb e=>?_⟩
  ·rw [Qs];refine List.Perm.nodup_iff (Ru vis SG) |>.mpr ?_;rw [<- Qs];exact ndo
  ·rw [Qt];have:((fun x:Nat×Nat=>x.2) ∘ fun y=>(h,y))=id:=rfl
   rw [this,List.map_id];exact SK Sl (T.gd.lD h)
  ·subst e;have hb:=(newm a).mp hb;refine newn a hb.1 hb.2 ((old a).mpr ?_);rcases QA.mp ha with z | z
   ·rcases QA.mp z with z | z
    ·exact .inl z
    ·exact .inr (.inr (QF.mp z))
   ·exact .inr (.inl z)
 ·rcases (nw x).mp hx with z | ⟨a,e⟩
  ·exact D.vI x ((old x).mpr z)
  ·exact ⟨(T.gd.fV a).2,T.rB hp hn hpn hh.2 a fun q=>by rw [q,fQ] at e;lia⟩
 ·rcases QA.mp hq with z | z
  ·exact D.par q (QA.mpr (.inl z))
  ·obtain ⟨y,hy,rfl⟩:=QB.mp z;have:=(newm y).mp (QB.mpr ⟨_,z,rfl⟩);exact this
 ·rw [nw];rcases QA.mp hx with z | z
  ·exact .inl ((old y).mp (D.cl x z y a e))
  ·rw [QF.mp z] at a e;exact .inr ⟨a,e⟩
 ·rcases (nw x).mp hx with z | ⟨a,e⟩
  ·obtain ⟨y,hy,b,e⟩:=D.up x ((old x).mpr z) ne;exact ⟨y,QA.mpr (.inl hy),b,e⟩
  ·exact ⟨h,QA.mpr (.inr Q2),a,e⟩
 ·rw [nw];exact .inl ((old n).mp D.st)
def sP.done {m p n:Nat}(T:Tree m es)(h:bx es p n)(D:sP m es p n vis []):vis.Perm (pc m es p n):=by
 obtain ⟨hp,hn⟩:=T.gd.fV h;have e:vis++([]:VI).map (·.2)=vis:=RN _;have all:∀ (k x:Nat),x < m->cR es p n x->ds es n x=k->x∈vis:=by
  intro k
  induction k with
  | zero =>
   intro x hx hb e0;have:=T.cn.zero hn hx e0;subst this;have:=D.st;rw [e] at this;exact this
  | succ k ih =>
   intro x hx hb e1;obtain ⟨y,hy,a,by',e2,e3⟩:=T.yT hp hx h hb fun q=>by rw [q,fQ] at e1;lia
   have:=D.cl y (ih y hy by' (by lia)) x a e2
   rw [e] at this;exact this
 have nd:=D.nd;rw [e] at nd;have nd2:(pc m es p n).Nodup:=SK Sl Ri;refine (V5 nd nd2).mpr fun x=>?_
 rw [dh];constructor
 ·intro hx;have:=D.vI x (by rw [e];exact hx)
  exact this
 ·rintro ⟨hx,hb⟩;exact all _ x hx hb rfl
theorem oB:∀ {l k:VV},l.Perm k->l.Pairwise (·<=·)->k.Pairwise (·<=·)->l=k
 | [],k,p,_,_=>(List.Perm.nil_eq p)
 | a::l,[],p,_,_=>by have:=p.length_eq;simp at this
 | a::l,b::k,p,h1,h2=>by
  have ha:a∈b::k:=p.mem_iff.mp Q2;have hb:b∈a::l:=p.mem_iff.mpr Q2;have e:a=b:=by
   have l1:b<=a:=by
    rcases Q9.mp ha with z | z
    ·lia
    ·exact (Rv.mp h2).1 a z
   have l2:a<=b:=by
    rcases Q9.mp hb with z | z
    ·lia
    ·exact (Rv.mp h1).1 b z
   lia
  subst e;rw [oB (List.perm_cons a |>.mp p) (Rv.mp h1).2 (Rv.mp h2).2]
def D6 (h:rising l):l.Pairwise (·<=·):=h.imp fun h=>Ry h
def BY:bD:=fun dd Q x=>∃ m es p n,dd=[HN m es,iD p,iD n]/\m<=60/\Tree m es/\bx es p n/\Q [] (.ow false) (nD (pc m es p n))
def LQ:∀ dd Q x,BY dd Q x->jt (bq [false,false,false] Q x) (ini [false,false,false] dd++List.replicate 5 none):=by
 rintro _ Q x ⟨m,es,p,n,rfl,hm,T,hpn,q⟩;unfold jt;rfl';refine ⟨by lia,by lia,by lia,?_⟩
 refine ⟨fun k E=>∃ (vis:VV)(stk:VI)(o5 o6:Va),E=[some (.sh,HN m es),some (.sh,iD p),some (.sh,iD n),some (.ow false,nD vis),some (.ow false,.list (stk.map gH)),o5,o6,none]/\bu o5=true/\bu o6=true/\k=m - vis.length/\sP m es p n vis stk,⟨m,[],[(p,n)],none,none,rfl,rfl,rfl,rfl,sP.start T hpn⟩,?_⟩
 rintro k _ ⟨vis,stk,o5,o6,rfl,h5,h6,rfl,D⟩;simp! [V6];rcases List.eq_nil_or_concat stk with rfl | ⟨stk,⟨l,h⟩,rfl⟩
 ·simp! [List.isEmpty_nil];have pm:=D.done T hpn;have hl:vis.length<=m:=by
   rw [pm.length_eq];exact ng tG fun x hx=>(dh.mp hx).1
  refine mV (by lia) fun ms p1 s1=>?_
  rw [oB (p1.trans pm) s1 (D6 tG)];rfl';exact q
 ·have ne:(stk++[(l,h)]).isEmpty=false:=by simp
  rw [List.concat_eq_append] at D ⊢;have e1:(List.map gH (stk++[(l,h)]))[(stk++[(l,h)]).length - 1]?=some (gH (l,h)):=by
   rw [QY,QE];show (stk.map gH++[gH (l,h)])[stk.length + 1 - 1]?=_;rw [Nat.add_sub_cancel,S5 (by rw [Q8];exact Q6 _),Q8,Nat.sub_self]
   rfl
  have e2:(List.map gH (stk++[(l,h)])).dropLast=stk.map gH:=by rw [QY];exact List.dropLast_concat
  have hhm:h < m/\cR es p n h:=D.vI h (by simp)
  have D2:=D.step T hpn;have hv:(vis++[h]).length<=m:=Gr.dY m _ (Qy.mp D2.nd).1 fun x hx=>(D2.vI x (QA.mpr (.inl hx))).1
  rw [QE] at hv;have hv:vis.length + 1<=m:=hv;simp! [ne,e1,e2,h5,h6,Ml,RU hhm.1];refine ⟨by lia,?_⟩
  have hst:stk.length + ((dm es h).filter fun y=>decide (y≠l)).length<=m:=by
   have:=Gr.dY m _ (Qy.mp D2.nd).2.1 fun x hx=>(D2.vI x (QA.mpr (.inr hx))).1
   rw [Q8,QE,Q8] at this;exact this
  refine cM (fun y=>if decide (y≠l)=true then some (gH (h,y)) else none) rfl (fun y hy I hI=>?_) ?_ (by have:=T.gd.jy h;lia)
  ·simp only [dv,dw,dx,dy,dz,Nat.reduceBEq] at hI ⊢;split
   ·rename_i c;rw [if_pos c] at hI;exact ⟨by lia,hI _ rfl⟩
   ·rename_i c;rw [if_neg c] at hI;exact hI _ rfl
  ·rw [bI];refine ⟨rfl,NW rfl (by rw [Q8,Q8];lia) ⟨m - (vis++[h]).length,by rw [QE];show m - (vis.length + 1) < _;lia,vis++[h],_,some (.sh,iD l),some (.sh,iD h),?_,rfl,rfl,rfl,D2⟩⟩
   rw [u5,QY,Qt];rfl
def Ck:bD:=fun dd Q x=>∃ m es,dd=[wD m es]/\1<=m/\Q [] .sh (.bool (decide (es.length + 1=m)))
def Lo:∀ dd Q x,Ck dd Q x->pJ (bq [false] Q x) (ini [false] dd++List.replicate 2 none):=by
 rintro _ Q x ⟨m,es,rfl,hm,q⟩;unfold pJ;rfl';have e:decide ((es.length:Int)=(m:Int) - 1)=decide (es.length + 1=m):=by
  by_cases c:es.length + 1=m
  ·rw [Qz c,Qz (by lia)]
  ·rw [Rf c,Rf (by lia)]
 rw [e];exact q
def uX:bD:=fun dd Q x=>∃ m es,dd=[wD m es]/\1<=m/\(es.length + 1=m->Q [] .sh .none)/\(es.length + 1≠m->x "NoTree" .none)
def L8:∀ dd Q x,uX dd Q x->iA Ck (bq [false] Q x) (ini [false] dd++List.replicate 0 none):=by
 rintro _ Q x ⟨m,es,rfl,hm,q,r⟩;unfold iA;rfl';refine ⟨m,es,rfl,hm,?_⟩;rfl';split
 ·rename_i h;exact r h
 ·rename_i h;exact q (Decidable.of_not_not h)
def BR:bD:=fun dd Q x=>∃ m es p,dd=[wD m es,iD p]/\bW m es/\es.length + 1=m/\p < m/\Q [] (.ow false) (.list ((dm es p).map fun n=>nD (pc m es p n)))
def KG:∀ dd Q x,BR dd Q x->lS uX Cc uv BY (bq [false,false] Q x) (ini [false,false] dd++List.replicate 2 none):=by
 rintro _ Q x ⟨m,es,p,rfl,W,ht,hp,q⟩;have hm:=W.le;have T:Tree m es:=⟨W.gd,W.cn,ht⟩;unfold lS;rfl';refine ⟨m,es,rfl,W.pos,fun _=>?_,fun z=>absurd ht z⟩
 rfl';refine ⟨m,es,p,rfl,fun _=>?_,fun z=>absurd ⟨by lia,by lia⟩ z⟩
 rfl';refine ⟨m,es,rfl,W.le,W.gd,?_⟩;simp! [RU hp];refine eW (fun n=>nD (pc m es p n)) rfl (fun n hn I hI=>?_) ?_ (by have:=W.gd.jy p;lia)
 ·rfl';refine ⟨m,es,p,n,rfl,W.le,T,eV.mp hn,?_⟩;rfl';exact hI _ rfl
 ·rfl';exact q
section
variable {m:Nat}{es:VI}{ls:VV}
def lg {l:VV}{k:Nat}(h:k < l.length):l[k]?=some (l.getD k 0):=by
 rw [QV h,RD,QV h];rfl
end
def fK (k:Str):Prop:=k="places"\/k="ties"\/k="all"
end PB
namespace Dv
open PySem L2
def jc {α:Type}{l:List α}{enc:α->PyData}{tg:Tg}{b:DS}{D:gE}{E1:En}(I:Nat->En->Prop)(h0:I 0 E1)(hs:∀ (J:Vd) i a E,l[i]?=some a->(∀ E',I (i + 1) E'->J E')->I i E->∃ E2,cG tg (enc a) E=some E2/\b { D with nx:=J } E2)(he:∀ E,I l.length E->D.nx E):AG (l.map enc) tg b D E1:=tQ I h0 (fun i a E ha hi=>hs (I (i + 1)) i a E ha (fun _ h=>h) hi) he
def Hs {n:Nat}{enc:Nat->PyData}{tg:Tg}{b:DS}{D:gE}{E1:En}(I:Nat->En->Prop)(h0:I 0 E1)(hs:∀ (J:Vd) i E,i < n->(∀ E',I (i + 1) E'->J E')->I i E->∃ E2,cG tg (enc i) E=some E2/\b { D with nx:=J } E2)(he:∀ E,I n E->D.nx E):AG ((List.range n).map enc) tg b D E1:=Ls I h0 (fun i E ha hi=>hs (I (i + 1)) i E ha (fun _ h=>h) hi) he
def NS {α:Type}{l:List α}{enc:α->PyData}{cs:VV}{tg:Tg}{c:DT}{r:DC}{E1:En}{Q:VY}(E0:En)(I:Nat->VO->En->Prop)(h0:bf cs E1=some E0)(h1:I 0 [] E0)(hs:∀ (J:VO->En->Prop) i a ys E,l[i]?=some a->(∀ ys' E',I (i + 1) ys' E'->J ys' E')->I i ys E->∃ E2,cG tg (enc a) E=some E2/\c xF E2 fun E3 b=>if b=true then r xF ys E3 J else J ys E3)
  (he:∀ ys E,I l.length ys E->∃ E2,bf cs E=some E2/\Q E2 (.ow false) (.list ys)):vJ cs (l.map enc) tg c r E1 Q:=IB E0 I h0 h1 (fun i a ys E ha hi=>hs (I (i + 1)) i a ys E ha (fun _ _ h=>h) hi) he
end Dv
namespace PB
open PySem L2 Dv Gr
def dJ (l:VV):Nat:=l.foldr (· * ·) 1
def but:VV->Nat
 | []=>0
 | a::l=>dJ l + a * but l
theorem ze {a:Nat}:∀ {l:VV},dJ (l++[a])=dJ l * a
 | []=>by simp [dJ]
 | b::l=>by
  have:=ze (a:=a) (l:=l);show b * dJ (l++[a])=b * dJ l * a;rw [this,U4]
theorem z9:∀ {l:VV},dJ l<=2 ^ l.sum
 | []=>Q6 _
 | a::l=>by
  show a * dJ l<=2 ^ (a + l.sum);rw [Nat.pow_add];exact SN (Ry Nat.lt_two_pow_self) z9
theorem uK:∀ {l:VV},but l<=2 ^ l.sum
 | []=>Qw _
 | a::l=>by
  show dJ l + a * but l<=2 ^ (a + l.sum);rw [Nat.pow_add];have h1:=z9 (l:=l);have h2:=SN (Q6 a) (uK (l:=l));have h3:=SN (Nat.succ_le_of_lt (Nat.lt_two_pow_self (n:=a))) (Q6 (2 ^ l.sum));rw [Nat.succ_mul] at h3;lia
def cA (sp ls:VV) (st:Nat):Nat×Nat:=if 0 < (sp.filter fun s=>decide (s∈ls)).length then (if (sp.filter fun s=>decide (s∈ls)).length=1 then 1 else 0,0) else ((sp.filter fun s=>decide (st<=s)).length,1)
def ki {l:Nat}{ls:VV}:iD l∈ls.map iD↔l∈ls:=⟨fun h=>by obtain ⟨y,hy,e⟩:=QB.mp h;rw [<- jL.mp e];exact hy,fun h=>QB.mpr ⟨l,h,rfl⟩⟩
def nj {ls:VV}:(ls.all fun a=>dl 8 (iD a))=true:=by rw [QK];exact fun _ _=>rfl
def BX:bD:=fun dd Q x=>∃ sp ls st,dd=[nD sp,nD ls,iD st]/\sp.length<=60/\Q [] .sh (.tuple [iD (cA sp ls st).1,iD (cA sp ls st).2])
def LZ:∀ dd Q x,BX dd Q x->mw (bq [false,false,false] Q x) (ini [false,false,false] dd++List.replicate 2 none):=by
 rintro _ Q x ⟨sp,ls,st,rfl,hl,q⟩;unfold mw;rfl';refine cM (fun s=>if decide (s∈ls)=true then some (iD s) else none) rfl (fun s hs J hJ=>?_) ?_ (by lia)
 ·simp only [dv,dw,dx,dy,dz,Nat.reduceBEq,nj,ki] at hJ ⊢;refine ⟨rfl,?_⟩;split
  ·rename_i c;rw [if_pos c] at hJ;exact hJ _ rfl
  ·rename_i c;rw [if_neg c] at hJ;exact hJ _ rfl
 ·rw [bI];rfl';unfold cA at q;split
  ·rename_i c;rw [if_pos c] at q;split
   ·rename_i c1;rw [if_pos (by lia)] at q
    exact ⟨by lia,q⟩
   ·rename_i c1;rw [if_neg (by lia)] at q
    exact ⟨by lia,q⟩
  ·rename_i c;rw [if_neg c] at q;refine cM (fun s=>if decide (st<=s)=true then some (iD s) else none) rfl (fun s hs J hJ=>?_) ?_ (by lia)
   ·simp only [dv,dw,dx,dy,dz,Nat.reduceBEq] at hJ ⊢;split
    ·rename_i c;rw [if_pos c] at hJ;exact hJ _ rfl
    ·rename_i c;rw [if_neg c] at hJ;exact hJ _ rfl
   ·rw [bI];rfl';exact ⟨by lia,q⟩
def fN (ls:VV) (st:Nat)(g:VG):Nat×Nat:=g.foldl (fun a sp=>(a.1 * (cA sp ls st).1,a.2 * (cA sp ls st).1 + a.1 * (cA sp ls st).2)) (1,0)
def EW {sp ls:VV}{st:Nat}(h:sp.length<=60):(cA sp ls st).1<=60/\(cA sp ls st).2<=1:=by
 unfold cA;have:=Rb (fun s=>decide (st<=s)) sp
 split
 ·split <;> exact ⟨by simp,by simp⟩
 ·exact ⟨by simp only;lia,by simp⟩
abbrev gD (g:VG):PyData:=.list (g.map nD)
def Bw:bD:=fun dd Q x=>∃ g ls st,dd=[gD g,nD ls,iD st]/\(∀ sp∈g,sp.length<=60)/\Q [] .sh (iD (fN ls st g).2)
def LR:∀ dd Q x,Bw dd Q x->k8 BX (bq [false,false,false] Q x) (ini [false,false,false] dd++List.replicate 5 none):=by
 rintro _ Q x ⟨g,ls,st,rfl,hl,q⟩;unfold k8;rfl';refine jc (fun i E=>∃ o5 o6 o7:Va,E=[some (.sh,gD g),some (.sh,nD ls),some (.sh,iD st),some (.sh,iD (fN ls st (g.take i)).1),some (.sh,iD (fN ls st (g.take i)).2),o5,o6,o7]/\bu o5=true/\bu o6=true/\bu o7=true) ⟨none,none,none,rfl,rfl,rfl,rfl⟩ ?_ ?_
 ·rintro J i sp _ hi hJ ⟨o5,o6,o7,rfl,h5,h6,h7⟩;have hs:=hl sp (QX hi);have hw:=EW (ls:=ls) (st:=st) hs;simp! [h5];refine ⟨sp,ls,st,rfl,hs,?_⟩;simp! [h6,h7];refine ⟨.inr ⟨by lia,by lia⟩,.inr ⟨by lia,by lia⟩,.inr ⟨by lia,by lia⟩,hJ _ ⟨some (.sh,nD sp),some (.sh,iD (cA sp ls st).1),some (.sh,iD (cA sp ls st).2),?_,rfl,rfl,rfl⟩⟩
  rw [take_snoc hi];unfold fN;rw [List.foldl_append];rfl
 ·rintro _ ⟨o5,o6,o7,rfl,h5,h6,h7⟩;rw [RW];rfl';exact q
abbrev dS (gs:List (VG)):PyData:=.list (gs.map gD)
def bO (ls:VV) (st:Nat)(gs:List (VG)):Nat:=dJ (gs.map fun g=>(fN ls st g).2)
def lO:bD:=fun dd Q x=>∃ gs ls st,dd=[dS gs,nD ls,iD st]/\(∀ g∈gs,(∀ sp∈g,sp.length<=60)/\(fN ls st g).2 < 2 ^ 64)/\Q [] .sh (iD (bO ls st gs))
def M9:∀ dd Q x,lO dd Q x->lU Bw (bq [false,false,false] Q x) (ini [false,false,false] dd++List.replicate 2 none):=by
 rintro _ Q x ⟨gs,ls,st,rfl,hl,q⟩;unfold lU;rfl';refine jc (fun i E=>∃ o4:Va,E=[some (.sh,dS gs),some (.sh,nD ls),some (.sh,iD st),some (.sh,iD (bO ls st (gs.take i))),o4]/\bu o4=true) ⟨none,rfl,rfl⟩ ?_ ?_
 ·rintro J i g _ hi hJ ⟨o4,rfl,h4⟩;have hs:=hl g (QX hi);simp! [h4];refine ⟨g,ls,st,rfl,hs.1,?_⟩;simp! [h4];refine ⟨.inr ⟨by lia,by have:=hs.2;lia⟩,hJ _ ⟨some (.sh,gD g),?_,rfl⟩⟩
  rw [take_snoc hi];unfold bO;rw [QY,U5,ze];rfl
 ·rintro _ ⟨o4,rfl,h4⟩;rw [RW];rfl';exact q
def cH (es:VI) (p:Nat):Nat:=(dm es p).length
def cF (m:Nat)(es:VI):VV:=(List.range m).filter fun p=>decide (2 < cH es p)
def ens (m:Nat)(es:VI):VV:=(List.range m).filter fun p=>decide (cH es p=1)
def fM (m:Nat)(es:VI) (p:Nat):VG:=((dm es p).map (pc m es p)).filter fun c=>decide (¬ ∃ y∈c,y∈cF m es)
def Bu:bD:=fun dd Q x=>∃ m es p,dd=[wD m es,iD p,nD (cF m es)]/\bW m es/\es.length + 1=m/\p < m/\Q [] (.ow false) (gD (fM m es p))
def MW:∀ dd Q x,Bu dd Q x->oq BR (bq [false,false,false] Q x) (ini [false,false,false] dd++List.replicate 2 none):=by
 rintro _ Q x ⟨m,es,p,rfl,W,ht,hp,q⟩;have hm:=W.le;have hnb:=W.gd.jy p;unfold oq;rfl';refine ⟨m,es,p,rfl,W,ht,hp,?_⟩;rfl';refine cM (fun n=>if decide (¬ ∃ y∈pc m es p n,y∈cF m es)=true then some (nD (pc m es p n)) else none) rfl (fun n hn J hJ=>?_) ?_ (by lia)
 ·have hpl:(pc m es p n).length<=m:=ng tG fun x hx=>(dh.mp hx).1
  simp only [dv,dw,dx,dy,dz,Nat.reduceBEq] at hJ ⊢;refine eW (fun y=>.bool (decide (y∈cF m es))) rfl (fun y hy I hI=>?_) ?_ (by lia)
  ·simp! [nj,ki];exact ⟨rfl,hI _ rfl⟩
  ·rw [show (fun y=>PyData.bool (decide (y∈cF m es)))=(fun b=>PyData.bool b) ∘ fun y=>decide (y∈cF m es) from rfl,<- Qt]
   rfl';refine ER ?_;simp! [List.any_map]
   by_cases c:∃ y∈pc m es p n,y∈cF m es
   ·have e:((pc m es p n).any (id ∘ fun y=>decide (y∈cF m es)))=true:=by
     obtain ⟨y,h1,h2⟩:=c;exact TJ.mpr ⟨y,h1,Qz h2⟩
    rw [if_neg fun z=>z c] at hJ
    simp only [e,dw];exact hJ _ rfl
   ·have e:((pc m es p n).any (id ∘ fun y=>decide (y∈cF m es)))=false:=by
     rw [List.any_eq_false];exact fun y h1 h2=>c ⟨y,h1,QS h2⟩
    rw [if_pos c] at hJ;simp only [e,dw];exact hJ _ rfl
 ·rw [bI];rfl';unfold fM at q;rw [U6] at q;unfold gD at q;rw [Qt] at q;exact q
def Dc {β:Type}{m:Nat}{f:Nat×Nat->β}:(List.range m).zipIdx.map f=(List.range m).map fun i=>f (i,i):=by
 refine Rx fun i=>?_
 rw [QN,QN,List.getElem?_zipIdx]
 by_cases c:i < m
 ·rw [RU c];show some (f (i,0 + i))=_;rw [Tj];rfl
 ·rw [RG (by rw [QI];lia)]
  rfl
def bM (k:Str) (m:Nat)(es:VI):List (VG) :=
 if (qo k m es).length < 2 then [] else if k="all" then (ens m es).map fun e=>[[e],[]] else if cF m es=[] then [(ens m es).map fun e=>[e]] else ((cF m es).map (fM m es)).filter fun g=>decide (g≠[])
def pK:bD:=fun dd Q x=>∃ m es k,dd=[wD m es,.str k]/\bW m es/\es.length + 1=m/\Q [] (.ow false) (dS (bM k m es))
def Mt:∀ dd Q x,pK dd Q x->j6 uX Bv uv Bu (bq [false,false] Q x) (ini [false,false] dd++List.replicate 6 none):=by
 rintro _ Q x ⟨m,es,k,rfl,W,ht,q⟩;have hm:=W.le;unfold j6;rfl';refine ⟨m,es,rfl,W.pos,fun _=>?_,fun z=>absurd ht z⟩
 rfl';refine ⟨m,es,k,rfl,W,?_⟩;rfl';unfold bM at q;split
 ·rename_i c;rw [if_pos (by lia)] at q
  exact ⟨by lia,q⟩
 rename_i c;rw [if_neg (by lia)] at q
 refine ⟨m,es,rfl,W.le,W.gd,?_⟩;rfl';refine eW (fun p=>iD (cH es p)) rfl (fun p hp I hI=>?_) ?_ (by rw [QI];lia)
 ·rfl';exact hI _ rfl
 rfl';rw [Dc];refine cM (fun i=>if decide (cH es i=1)=true then some (iD i) else none) rfl (fun i hi J hJ=>?_) ?_ (by rw [QI];lia)
 ·simp only [dv,dw,dx,dy,dz,Nat.reduceBEq] at hJ ⊢;split
  ·rename_i c;rw [if_pos (by lia)] at hJ
   exact hJ _ rfl
  ·rename_i c;rw [if_neg (by lia)] at hJ
   exact hJ _ rfl
 rw [bI];have hel:(ens m es).length<=m:=by
  have:=Rb (fun p=>decide (cH es p=1)) (List.range m)
  rw [QI] at this;exact this
 have hfl:(cF m es).length<=m:=by
  have:=Rb (fun p=>decide (2 < cH es p)) (List.range m)
  rw [QI] at this;exact this
 rw [show ((List.range m).filter fun i=>decide (cH es i=1))=ens m es from rfl]
 rfl';split
 ·rename_i ka;rw [if_pos ka] at q;refine eW (fun e=>.list [.list [iD e],.list []]) rfl (fun e he I hI=>?_) ?_ (by lia)
  ·rfl';exact ⟨by lia,by lia,by lia,hI _ rfl⟩
  ·rfl';unfold dS at q;rw [Qt] at q;exact q
 rename_i ka;rw [if_neg ka] at q;rw [Dc];refine cM (fun i=>if decide (2 < cH es i)=true then some (iD i) else none) rfl (fun i hi J hJ=>?_) ?_ (by rw [QI];lia)
 ·simp only [dv,dw,dx,dy,dz,Nat.reduceBEq] at hJ ⊢;split
  ·rename_i c;rw [if_pos (by lia)] at hJ
   exact hJ _ rfl
  ·rename_i c;rw [if_neg (by lia)] at hJ
   exact hJ _ rfl
 rw [bI];rw [show ((List.range m).filter fun i=>decide (2 < cH es i))=cF m es from rfl]
 simp! [V6]
 by_cases hf:cF m es=[]
 ·rw [if_pos hf] at q;rw [if_pos (by rw [hf];rfl)]
  refine eW (fun e=>.list [iD e]) rfl (fun e he I hI=>?_) ?_ (by lia)
  ·rfl';exact ⟨by lia,hI _ rfl⟩
  ·rfl';refine ⟨by lia,?_⟩
   rw [show [PyData.list ((ens m es).map fun e=>PyData.list [iD e])]=[(ens m es).map fun e=>[e]].map gD by
    rw [U5];unfold gD;rw [Qt];rfl]
   exact q
 ·rw [if_neg hf] at q;rw [if_neg (by cases hh:cF m es <;> simp_all)]
  refine eW (fun p=>gD (fM m es p)) rfl (fun p hp I hI=>?_) ?_ (by lia)
  ·rfl';refine ⟨m,es,p,rfl,W,ht,Qv.mp (QU.mp hp).1,?_⟩;rfl';exact hI _ rfl
  ·rfl';refine cM (fun p=>if decide (fM m es p≠[])=true then some (gD (fM m es p)) else none) rfl (fun p hp J hJ=>?_) ?_ (by lia)
   ·simp only [dv,dw,dx,dy,dz,Nat.reduceBEq,V6] at hJ ⊢
    by_cases c:fM m es p=[]
    ·rw [if_neg fun z=>z c] at hJ
     rw [if_neg (by rw [c];exact fun z=>Bool.noConfusion z)]
     exact hJ _ rfl
    ·rw [if_pos c] at hJ;rw [if_pos (by cases hh:fM m es p <;> simp_all)]
     exact hJ _ rfl
   ·rw [bI];rfl';rw [U6] at q;unfold dS at q;rw [Qt] at q;exact q
def B7:bD:=fun dd Q x=>∃ m es k,dd=[wD m es,.str k]/\bW m es/\es.length + 1=m/\(∀ g∈bM k m es,(∀ sp∈g,sp.length<=60)/\(fN [] 0 g).2 < 2 ^ 64)/\Q [] .sh (iD (bO [] 0 (bM k m es)))
def MG:∀ dd Q x,B7 dd Q x->ju lO pK (bq [false,false] Q x) (ini [false,false] dd++List.replicate 0 none):=by
 rintro _ Q x ⟨m,es,k,rfl,W,ht,hl,q⟩;unfold ju;rfl';refine ⟨m,es,k,rfl,W,ht,?_⟩;rfl';refine ⟨by lia,bM k m es,[],0,rfl,hl,?_⟩
 rfl';exact q
end PB
namespace PB
open PySem L2 Dv
def iw:DS:=aq (aC 2 (aa kj [.ev (aa (oA false true) [.pk 0,.pk 1])])) (aq (eN (vt (aa (oA true true) [.pk 0,.pk 1,.ev (dC (.int 63))])) (.tp [3,4]) (lP 2 (aa j7 [.pk 3,.pk 1]) (aa dP [.ev (aa gQ [.ev (aa bg [.pk 2,.ev (aa j7 [.pk 3,.pk 1])]),.ev (dC (.int 31))]),.pk 4]))) (iL 2))
def iN:DS:=aq (aC 2 (dC (.int 0))) (Ba (cK (aX (aa yb [.ev (aa cU [.pk 0]),.ev (dC (.int 0))])) (aC 2 (aa dP [.ev (aa bg [.pk 0,.ev (aa j7 [.pk 1,.ev (aa cU [.pk 0])])]),.ev (aa uE [.pk 1,.ev (aa cU [.pk 0])])])) (dR)) (aq (aC 3 (dC (.int 0))) (Ba (cK (aX (zd (aa Ak [.pk 2,.ev (dC (.int 0))]) (aa Ip [.pk 2,.ev (aa Fw [.ev (dC (.int 10)),.ev (dC (.int 18))])]))) (aC 3 (aa wR [.pk 2])) (dR)) (bY (aa bS [.pk 3,.ev (aa j7 [.ev (aa dP [.ev (aa gQ [.ev (aa j7 [.pk 2,.ev (dC (.int 2147483629))]),.ev (dC (.int 69621))]),.ev (aa gQ [.ev (aa gQ [.ev (dC (.int 40009)),.ev (aa dP [.pk 1,.ev (dC (.int 1))])]),.ev (aa dP [.pk 1,.ev (dC (.int 3))])])]),.ev (dC (.int 2147483629))])])))))
def jd:DS:=aq (cK (aX (aa yb [.ev (aa bg [.pk 0,.ev (dC (.int 0))]),.ev (dC (.int 0))])) (aq (aC 2 (aa j7 [.ev (aa bg [.pk 0,.ev (dC (.int 0))]),.pk 1])) (aq (lP 0 (dC (.int 0)) (aa uE [.ev (aa bg [.pk 0,.ev (dC (.int 0))]),.pk 1])) (iL 2))) (dR)) (aq (lP 0 (dC (.int 1)) (aa j7 [.ev (aa dP [.ev (aa gQ [.ev (aa bg [.pk 0,.ev (dC (.int 1))]),.ev (dC (.int 48271))]),.ev (dC (.int 12820163))]),.ev (dC (.int 2147483647))])) (bY (aa j7 [.ev (aa uE [.ev (aa j7 [.ev (aa gQ [.ev (aa j7 [.ev (aa gQ [.ev (aa bg [.pk 0,.ev (dC (.int 1))]),.ev (aa bg [.pk 0,.ev (dC (.int 1))])]),.ev (dC (.int 2147483629))]),.ev (dC (.int 69621))]),.ev (dC (.int 2147483587))]),.ev (dC (.int 8))]),.pk 1])))
def je (Vt:bD):DS:=aq (aC 3 (aa kj [.pk 1])) (bY (aO [4] (mE oj [.pk 2]) (.nm 4) (dQ) (aT sizeLine (pF uB 3 [aD Vt [true,false] [.pk 0,.ev (aa cU [.pk 3])]]))))
def gK (Vs:bD):DS:=aq (aC 3 (aD Vs [true,false,false] [.pk 0,.ev (aa jM [.pk 1]),.pk 1])) (bY (aa ie [.pk 1,.ev (aa mR [.ev (aa tT [.ev (aO [4,5] (iE (aG 2)) (.tp [4,5]) (dQ) (aT sizeLine (aa ie [.ev (aa wm [.ev (aa bg [.pk 3,.pk 4]),.ev (aa bg [.pk 3,.pk 5])]),.ev (aa tZ [.ev (aa bg [.pk 3,.pk 4]),.ev (aa bg [.pk 3,.pk 5])])])))])])]))
def i6 (Vt Vo:bD):DS:=aq (aC 2 (aa dP [.ev (dC (.int 1)),.ev (aD Vt [true,false] [.pk 0,.pk 1])])) (aq (aC 3 (aD Vt [true,false] [.pk 0,.ev (dC (.int 6))])) (aq (aC 4 (aa bS [])) (aq (eN (mE Dp [.ev (dC (.int 1)),.pk 2]) (.nm 5) (aq (aC 6 (aa bS [.ev (aa lT [.pk 5,.ev (dC (.int 1))]),.ev (dC (.int 0)),.ev (aD Vt [true,false] [.pk 0,.pk 5]),.ev (aa tZ [.ev (dC (.int 0)),.ev (aa lT [.ev (aa lT [.pk 5,.ev (dC (.int 1))]),.ev (aD Vt [true,false] [.pk 0,.ev (dC (.int 3))])])]),.ev (aD Vt [true,false] [.pk 0,.ev (aa wm [.pk 5,.ev (dC (.int 3))])])])) (fU (pF eY 4 [aa ie [.ev (aa bg [.ev (aa dP [.pk 6,.ev (aa bS [.ev (aa uE [.ev (aa lT [.pk 5,.ev (dC (.int 1))]),.ev (dC (.int 2))])])]),.pk 3]),.pk 5]])))) (bY (aD Vo [true,false,false] [.pk 0,.pk 2,.pk 4])))))
def gU:DS:=aq (aC 2 (aa jM [.ev (aa bg [.pk 0,.ev (dC (.int 0))])])) (aq (eN (iE (aa bg [.pk 0,.ev (dC (.int 1))])) (.tp [3,4]) (cK (aX (aa (eZ true) [.pk 1,.ev (aa ie [.pk 3,.pk 4])])) (aq (aC 5 (aa bg [.pk 2,.pk 4])) (aC 2 (aO [7] (iE (aG 2)) (.nm 7) (dQ) (aT sizeLine (vB (aX (aa jg [.pk 7,.pk 5])) (aa bg [.pk 2,.pk 3]) (aG 7)))))) (dR))) (aq (aC 6 (aa jT [.ev (aO [7,8] (iE (aa bg [.pk 0,.ev (dC (.int 1))])) (.tp [7,8]) (aX (aa (eZ false) [.pk 1,.ev (aa ie [.pk 7,.pk 8])])) (aT sizeLine (aa lT [.ev (aa dP [.pk 7,.pk 8]),.pk 1])))])) (bY (aO [7] (iE (aG 6)) (.nm 7) (dQ) (aT sizeLine (aO [8] (mE oj [.ev (aa bg [.pk 0,.ev (dC (.int 0))])]) (.nm 8) (aX (aa jg [.ev (aa bg [.pk 2,.pk 8]),.ev (aa bg [.pk 2,.pk 7])])) (aT sizeLine (aG 8))))))))
def iM (Vp:bD):DS:=aq (aC 1 (aO [5] (mE oj [.ev (aa bg [.pk 0,.ev (dC (.int 0))])]) (.nm 5) (dQ) (aT sizeLine (aa cU [.ev (aO [6] (iE (aa bg [.pk 0,.ev (dC (.int 1))])) (.nm 6) (aX (aa (eZ false) [.pk 5,.pk 6])) (aT sizeLine (aG 6)))])))) (aq (aC 2 (aa bS [])) (aq (eN (mE oj [.ev (aa bg [.pk 0,.ev (dC (.int 0))])]) (.nm 3) (cK (aX (aa yb [.ev (aa bg [.pk 1,.pk 3]),.ev (dC (.int 2))])) (aq (aC 4 (aO [5] (iE (aD Vp [false,false] [.pk 0,.pk 3])) (.nm 5) (aX (aa Ak [.ev (aa we [.ev (aO [6] (iE (aG 5)) (.nm 6) (dQ) (aT sizeLine (aa bg [.pk 1,.pk 6])))]),.ev (dC (.int 3))])) (aT sizeLine (aG 5)))) (fU (pF eY 2 [aG 4]))) (dR))) (bY (aO [5] (iE (aG 2)) (.nm 5) (aX (aa jN [.pk 5,.ev (aa bS [])])) (aT sizeLine (aG 5))))))
def jf (Vh:bD):DS:=aq (aC 3 (dC .none)) (aq (Cn ["NoPlace","NoTree","NotOne"] "NotOne" (HS Vh [.pk 0,.pk 1,.pk 2] (some 3)) (aC 3 (dC .none))) (iL 3))
def ef (Vu Vg:bD):DS:=aq (aC 5 (aa jT [.ev (aa dP [.ev (aO [7] (iE (aG 2)) (.nm 7) (aX (aa jN [.pk 7,.pk 3])) (aT sizeLine (aG 7))),.ev (aa bS [.pk 4])])])) (aq (aC 6 (aD Vu [false,false,false] [.pk 0,.pk 1,.ev (aa kj [.pk 5])])) (bY (rS (aa (fS true) [.pk 6,.ev (dC .none)]) (aa jg [.ev (aD Vg [false,false,false] [.pk 0,.pk 1,.pk 6]),.pk 5]))))
def iz (Vt Vn Vu:bD):DS:=aq (aC 5 (aa bS [])) (aq (eN (iE (aG 3)) (.nm 6) (eN (iE (aG 6)) (.nm 7) (fU (pF qp 5 [aG 7])))) (aq (aC 8 (aO [13] (mE oj [.ev (aa bg [.pk 1,.ev (dC (.int 0))])]) (.nm 13) (aX (aa (eZ true) [.pk 13,.pk 5])) (aT sizeLine (aG 13)))) (aq (eN (iE (aG 3)) (.nm 6) (aq (aC 9 (aO [13] (iE (aG 6)) (.nm 13) (qS (aX (aa wQ [.ev (aO [14] (iE (aG 4)) (.nm 14) (dQ) (aT sizeLine (aa (eZ false) [.pk 14,.pk 13])))]))) (aT sizeLine (aG 13)))) (aq (cK (aX (aa jN [.ev (aa cU [.pk 9]),.ev (dC (.int 1))])) (bY (dC (.bool false))) (dR)) (eN (iE (aO [13] (iE (aG 6)) (.nm 13) (aX (aa (eZ true) [.pk 13,.pk 9])) (aT sizeLine (aG 13)))) (.nm 7) (aq (aC 10 (aa bg [.ev (aO [13] (iE (aG 4)) (.nm 13) (aX (aa (eZ false) [.pk 13,.pk 7])) (aT sizeLine (aG 13))),.ev (dC (.int 0))])) (aq (eN (iE (aa bS [.ev (aa bg [.pk 7,.ev (aD Vt [true,false] [.pk 0,.ev (aa cU [.pk 7])])]),.ev (aa bg [.ev (aa bg [.pk 9,.ev (dC (.int 0))]),.ev (aD Vt [true,false] [.pk 0,.ev (aa cU [.ev (aa bg [.pk 9,.ev (dC (.int 0))])])])])])) (.nm 11) (cK (aX (rS (aa jN [.pk 11,.pk 10]) (uG (aD Vn [false,false,false,false,false] [.pk 1,.pk 2,.pk 4,.pk 10,.pk 11])))) (bY (dC (.bool false))) (dR))) (cK (aX (aa jN [.pk 8,.ev (aa bS [])])) (aq (aC 12 (aa dP [.ev (aO [13] (iE (aG 4)) (.nm 13) (aX (aa jN [.pk 13,.pk 10])) (aT sizeLine (aG 13))),.ev (aa bS [.ev (aa bg [.pk 8,.ev (aD Vt [true,false] [.pk 0,.ev (aa cU [.pk 8])])])])])) (cK (aX (aa (fS true) [.ev (aD Vu [false,false,false] [.pk 1,.pk 2,.ev (aa jT [.pk 12])]),.ev (dC .none)])) (bY (dC (.bool false))) (dR))) (dR)))))))) (bY (dC (.bool true))))))
def nk (Vl Vq Vv Vt Vm WJ Vg Vr:bD):DS:=aq (aC 1 (aD Vl [false,false] [.pk 0,.ev (dC (.int 4))])) (aq (eN (mE oj [.ev (aa tZ [.ev (dC (.int 1)),.ev (aa cU [.pk 1])])]) (.nm 2) (aq (aC 3 (aD Vq [false,false] [.pk 1,.pk 2])) (aq (aC 4 (aD Vv [true,false] [.pk 3,.ev (aa bg [.ev (aa bS [.ev (dC (.int 24)),.ev (dC (.int 40))]),.ev (aa mP [.ev (aa jg [.ev (aD Vt [true,false] [.pk 3,.ev (dC (.int 8))]),.ev (dC (.int 0))])])])])) (aq (aC 5 (aD Vm [false] [.pk 4])) (cK (aX (aa jN [.pk 5,.ev (aa bS [])])) (aq (aC 6 (aD WJ [false,false] [.pk 4,.ev (dC (.str "places"))])) (aq (aC 7 (aD Vt [true,false] [.pk 3,.pk 6])) (aq (aC 8 (aD Vg [false,false,false] [.pk 4,.ev (dC (.str "places")),.pk 7])) (aq (cK (aX (zd (aa jN [.ev (aD WJ [false,false] [.pk 4,.ev (dC (.str "ties"))]),.pk 6]) (aa jN [.ev (aD Vg [false,false,false] [.pk 4,.ev (dC (.str "ties")),.pk 7]),.pk 8]))) (bY (dC (.bool false))) (dR)) (eN (iE (aa bS [.ev (dC (.str "places")),.ev (dC (.str "ties"))])) (.nm 9) (cK (qS (aX (aD Vr [true,false,false,false,false] [.pk 3,.pk 4,.pk 9,.pk 5,.pk 8]))) (bY (dC (.bool false))) (dR))))))) (dR)))))) (bY (dC (.bool true))))
abbrev jQ (a b:Int):PyData:=.list [.int a,.int b]
def jE:bD:=fun ds Q x=>∃ (a b:Int) (m:Nat),ds=[jQ a b,iD m]/\0 < m/\m < 2 ^ 200/\0<=b/\b < 2147483647/\∀ (r:Nat) a' b',r < m->0<=b'->b' < 2147483647->Q [jQ a' b'] .sh (iD r)
def Jh:∀ ds Q x,jE ds Q x->jd (bq [true,false] Q x) (ini [true,false] ds++List.replicate 1 none):=by
 rintro _ Q x ⟨a,b,m,rfl,h1,h2,h3,h4,q⟩;unfold jd
 try bv_omega
 try simp only [dv,dw,dx]
 have hm:(0:Int) < m:=by lia
 have r0:∀ z:Int,∃ r:Nat,r < m/\z % (m:Int)=(r:Int):=fun z=>by
  have e1:=T5 z (by lia:(m:Int)≠0)
  have e2:=T4 z hm;exact ⟨(z % m).toNat,by lia,by lia⟩
 split
 ·obtain ⟨r,hr,e⟩:=r0 a;refine ⟨hm,⟨hm,?_⟩,?_⟩
  ·have:(m:Int) < ((2 ^ 200:Nat):Int):=Sq.mpr h2;have:((2 ^ 200:Nat):Int) < 115792089237316195423570985008687907853269984665640564039457584007913129639936:=by decide
   lia
  ·rw [e];exact q r _ _ hr h3 h4
 ·have c1:0<=(b * 48271 + 12820163) % 2147483647:=T5 _ (by decide)
  have c2:(b * 48271 + 12820163) % 2147483647 < 2147483647:=T4 _ (by decide)
  generalize (b * 48271 + 12820163) % 2147483647=y at *;have c3:0<=y * y % 2147483629:=T5 _ (by decide)
  have c4:y * y % 2147483629 < 2147483629:=T4 _ (by decide)
  refine ⟨.inr (by clear q r0 c3 c4;lia),by decide,.inl (by clear q r0 c3 c4;lia),by decide,.inr (by clear q r0 c1 c2;lia),by decide,⟨by decide,by decide⟩,hm,?_⟩
  obtain ⟨r,hr,e⟩:=r0 (y * y % 2147483629 * 69621 % 2147483587 / 8);rw [e];exact q r _ _ hr c1 c2
def wA:bD:=fun ds Q x=>∃ (cs:VW) (k:Nat),ds=[.list (cs.map .int),iD k]/\cs.length<=10/\k<=10/\∀ a b:Int,0<=b->b < 2147483647->Q [] (.ow false) (jQ a b)
def J9:∀ ds Q x,wA ds Q x->iN (bq [false,false] Q x) (ini [false,false] ds++List.replicate 2 none):=by
 rintro _ Q x ⟨cs,k,rfl,h1,h2,q⟩;unfold iN
 try bv_omega
 try simp only [dv,dw,dx]
 refine ⟨fun E=>∃ cell:Int,E=[some (.sh,.list (cs.map .int)),some (.sh,iD k),some (.sh,.int cell),none],?_,?_⟩
 ·try bv_omega
  try simp only [dv,dw,dx]
  split
  ·rename_i h;rw [Q8] at h ⊢;have hl:0 < cs.length:=by lia
   refine ⟨h,?_⟩;rw [<- Int.natCast_emod,oQ,QV (Sd _ hl)];exact ⟨⟨h,by lia⟩,_,rfl⟩
  ·exact ⟨0,rfl⟩
 ·rintro _ ⟨cell,rfl⟩
  try bv_omega
  try simp only [dv,dw,dx]
  refine JK ?_
  try bv_omega
  try simp only [dv,dw,dx]
  have e1:=T5 cell (by decide:(2147483629:Int)≠0)
  have e2:=T4 cell (by decide:(0:Int) < 2147483629)
  have a1:j9 (cell % 2147483629) 69621:=.inr (by clear q;lia)
  clear e1 e2;have a2:j9 40009 ((k:Int) + 1):=.inl (by clear q a1;lia)
  have a3:j9 (40009 * ((k:Int) + 1)) ((k:Int) + 3):=.inr (by clear q a1 a2;lia)
  have e3:=T5 (cell % 2147483629 * 69621 + 40009 * ((k:Int) + 1) * (k + 3)) (by decide:(2147483629:Int)≠0)
  have e4:=T4 (cell % 2147483629 * 69621 + 40009 * ((k:Int) + 1) * (k + 3)) (by decide:(0:Int) < 2147483629)
  have fin:∀ z:Int,0 < (2147483629:Int)/\j9 (cell % 2147483629) 69621/\j9 40009 ((k:Int) + 1)/\j9 (40009 * ((k:Int) + 1)) ((k:Int) + 3)/\0 < (2147483629:Int)/\0 + 1 + 1<=16777216/\Q [] (Kd.ow false) (PyData.list [PyData.int z,PyData.int ((cell % 2147483629 * 69621 + 40009 * ((k:Int) + 1) * ((k:Int) + 3)) % 2147483629)]):=fun z=>⟨by decide,a1,a2,a3,by decide,by decide,q _ _ e3 (Int.lt_trans e4 (by decide))⟩
  split
  ·exact fin _
  ·refine ⟨⟨by decide,by decide,by decide⟩,?_⟩
   split
   ·exact fin _
   ·exact fin _
def sJ:bD:=fun ds Q x=>∃ (ns:VW) (m:Nat),ds=[.list (ns.map .int),iD m]/\0 < m/\m<=10/\∀ cs:VW,cs.length<=m->Q [] (.ow false) (.list (cs.map .int))
def FA:∀ ds Q x,sJ ds Q x->iw (bq [false,false] Q x) (ini [false,false] ds++List.replicate 3 none):=by
 rintro _ Q x ⟨ns,m,rfl,h0,h1,q⟩;unfold iw
 try bv_omega
 try simp only [dv,dw,dx,dy,zm,Q8,show (63:Int)=((63:Nat):Int) from rfl,xj,rE]
 have hm:(0:Int) < m:=by lia
 refine tQ (fun i E=>∃ (cs:VW)(a b:Va),E=[some (.sh,.list (ns.map .int)),some (.sh,iD m),some (.ow false,.list (cs.map .int)),a,b]/\bu a=true/\bu b=true/\cs.length=min m ns.length) ?_ ?_ ?_
 ·exact ⟨ns.take m,none,none,rfl,rfl,rfl,Rq⟩
 ·rintro i ⟨d,k⟩ E hi ⟨cs,a,b,rfl,ha,hb,hl⟩;have hi:=ff hi;rw [List.length_zipIdx,Sv,Rq] at hi;have hk:k % m < cs.length:=by have:=Sd k h0;lia
  try bv_omega
  try simp only [dv,dw,dx,ha,hb,dz]
  refine ⟨h0,fT (QV hk) ⟨.inr (by lia),h0,Ke hk ⟨cs.set (k % m) (cs[k % m] * 31 + d),some (.sh,iD k),some (.sh,.int d),by rw [List.map_set],rfl,rfl,by rw [RJ];exact hl⟩⟩⟩
 ·rintro _ ⟨cs,a,b,rfl,ha,hb,hl⟩
  try bv_omega
  try simp only [dv,dw,dx]
  exact q cs (by lia)
def wo:bD:=fun ds Q x=>∃ (a b:Int)(ns:VV) (k:Nat),ds=[jQ a b,nD ns,iD k]/\k<=ns.length/\ns.length<=1000/\0<=b/\b < 2147483647/\∀ (ms rest:VV) a' b',ms.length=k->(ms++rest).Perm ns->0<=b'->b' < 2147483647->Q [jQ a' b'] (.ow false) (nD ms)
theorem sD:∀ (rs:VV){j:Nat}(h:j < rs.length),([rs[j]]++rs.eraseIdx j).Perm rs
 | [],_,h=>by cases h
 | r::rs,0,_=>by rw [List.eraseIdx_cons_zero];exact List.Perm.refl _
 | r::rs,j + 1,h=>by
  rw [UH];have ih:=sD rs (j:=j) (by rw [QH] at h;lia)
  exact (Tt _ _ _).trans (ih.cons _)
theorem vq {f:Nat->PyData}:∀ {rs:VV}{j:Nat},(rs.map f).eraseIdx j=(rs.eraseIdx j).map f
 | [],_=>rfl
 | r::rs,0=>rfl
 | r::rs,j + 1=>by
  rw [QO,UH,UH,QO,vq]
def JN {r n:Nat}(h:r < n):seqIndex? (r:Int) n=some r:=by
 unfold seqIndex?;simp;lia
def JC:∀ ds Q x,wo ds Q x->je jE (bq [true,false,false] Q x) (ini [true,false,false] ds++List.replicate 2 none):=by
 rintro _ Q x ⟨a,b,ns,k,rfl,h0,h1,h2,h3,q⟩;unfold je;rfl';rw [if_pos (by lia)]
 refine fT rfl ?_;refine IB _ (fun i ys E=>∃ (a b:Int)(ms rest:VV)(o:Va),ys=ms.map iD/\E=[some (.ow true,jQ a b),some (.sh,nD ns),some (.sh,iD k),some (.ow false,nD rest),o]/\bu o=true/\ms.length=i/\(ms++rest).Perm ns/\0<=b/\b < 2147483647) rfl ⟨a,b,[],ns,_,rfl,rfl,rfl,rfl,List.Perm.refl _,h2,h3⟩ ?_ ?_
 ·rintro i j ys E hi ⟨a,b,ms,rest,o,rfl,rfl,ho,hm,hp,h2,h3⟩;have hi:=ff hi;rw [QI] at hi;have hl:=hp.length_eq;rw [QE] at hl;have hr:0 < rest.length:=by lia
  try bv_omega
  try simp only [dv,dw,dx,ho,dz]
  refine ⟨a,b,rest.length,rfl,hr,by lia,h2,h3,fun r a' b' hr' h2' h3'=>?_⟩
  try bv_omega
  try simp only [dv,dw,dx,dz]
  refine ⟨⟨by lia,by lia⟩,r,iD rest[r],JN hr',by rw [QN,QV hr'];rfl,by lia,a',b',ms++[rest[r]],rest.eraseIdx r,some (.sh,iD j),by rw [QY];rfl,by rw [vq],rfl,by rw [QE,hm];rfl,?_,h2',h3'⟩
  rw [Qs];exact (Ru ms (sD rest hr')).trans hp
 ·rintro ys E ⟨a,b,ms,rest,o,rfl,rfl,ho,hm,hp,h2,h3⟩
  try bv_omega
  try simp only [dv,dw,dx,ho,dz]
  rw [QI] at hm;exact q ms rest _ _ hm hp h2 h3
def xU {ms:VV}{m:Nat}(pm:ms.Perm (List.range m)){a:Nat}(ha:a < m):ms[a]?=some (ms.getD a 0)/\ms.getD a 0 < m:=by
 have h:a < ms.length:=by rw [pm.length_eq,QI];exact ha
 have e:ms.getD a 0=ms[a]:=by rw [RD,QV h];rfl
 rw [e];exact ⟨QV h,Qv.mp (pm.mem_iff.mp (Rn h))⟩
def tY:bD:=fun ds Q x=>∃ (a b:Int) (m:Nat)(ps:VI),ds=[jQ a b,iD m,.list (ps.map gH)]/\1<=m/\m<=60/\Gr.Good m ps/\Gr.c7 m ps/\ps.length<=1000/\0<=b/\b < 2147483647/\∀ es a' b',bW m es->es.length=ps.length->0<=b'->b' < 2147483647->Q [jQ a' b'] .sh (wD m es)
def Fy:∀ ds Q x,tY ds Q x->gK wo (bq [true,false,false] Q x) (ini [true,false,false] ds++List.replicate 3 none):=by
 rintro _ Q x ⟨a,b,m,ps,rfl,h0,h1,gd,cn,few,h2,h3,q⟩;unfold gK;rfl';refine ⟨⟨by lia,by lia⟩,⟨a,b,List.range m,m,rfl,by rw [QI];exact Q6 _,by rw [QI];lia,h2,h3,fun ms rest a' b' hm hp h2 h3=>?_⟩⟩
 have pm:ms.Perm (List.range m):=by
  have:=hp.length_eq;rw [QE,hm,QI] at this;have e:rest=[]:=U7 (by lia)
  rw [e,RN] at hp;exact hp
 rfl';refine eW (fun e=>gH (Gr.vP ms e)) rfl (fun e he I hI=>?_) ?_ (by lia)
 ·have hl:=gd.lt e he;have g1:=xU pm (by lia:e.1 < m)
  have g2:=xU pm hl.2;simp! [g1.1,g2.1];exact ⟨by lia,hI _ rfl⟩
 ·rfl';have e:ps.map (fun e=>gH (Gr.vP ms e))=(ps.map (Gr.vP ms)).map gH:=by rw [Qt];rfl
  rw [e];refine Je (by rw [Q8];exact few) fun qs pq=>?_
  rfl';refine ⟨by lia,q qs _ _ ⟨h0,h1,?_,?_⟩ ?_ h2 h3⟩
  ·exact Gr.Good.perm pq (Gr.Bb pm gd)
  ·exact Gr.Ea pq (Gr.Bh pm cn)
  ·rw [pq.length_eq,Q8]
def wu:bD:=fun ds Q x=>∃ (a b:Int) (mo:Nat),ds=[jQ a b,iD mo]/\0 < mo/\mo<=60/\0<=b/\b < 2147483647/\∀ m es a' b',m<=mo->bW m es->es.length + 1=m->0<=b'->b' < 2147483647->Q [jQ a' b'] .sh (wD m es)
structure Up (i:Nat)(ps:VI):Prop where
 len:ps.length=i
 at':∀ (k:Nat)(e:Nat×Nat),ps[k]?=some e->e.2=k + 1/\e.1<=k
def Up.snoc {i p:Nat}(h:Up i ps)(hp:p<=i):Up (i + 1) (ps++[(p,i + 1)]):=by
 refine ⟨by rw [QE,h.len];rfl,fun k e he=>?_⟩
 rw [List.getElem?_append] at he;split at he
 ·exact h.at' k e he
 ·rename_i hk;rw [List.getElem?_singleton] at he;split at he
  ·rename_i h0;cases he;have:=h.len;show i + 1=k + 1/\p<=k;lia
  ·cases he
def Up.mem {i:Nat}(h:Up i ps)(he:e∈ps):e.1 < e.2/\e.2<=i:=by
 obtain ⟨k,hk⟩:=List.mem_iff_getElem?.mp he;have:=h.at' k e hk;have:=ff hk;have:=h.len;lia
def Up.good {m:Nat}(h:Up (m - 1) ps)(hm:1<=m):Gr.Good m ps:=by
 refine ⟨fun e he=>?_,?_⟩
 ·have:=h.mem he;lia
 ·refine UN.mpr fun i j hi hj l e=>?_
  have h1:=h.at' i _ (QV hi);have h2:=h.at' j _ (QV hj);rw [e] at h1;lia
def Up.conn {m:Nat}(h:Up (m - 1) ps):Gr.c7 m ps:=by
 refine Gr.J0 fun k h0 hk=>?_
 have hl:k - 1 < ps.length:=by rw [h.len];lia
 have:=h.at' (k - 1) _ (QV hl);refine ⟨ps[k - 1].1,by lia,?_⟩
 have e:(ps[k - 1].1,k)=ps[k - 1]:=Prod.ext rfl (by show k=ps[k - 1].2;lia)
 rw [e];exact Rn hl
def JB:∀ ds Q x,wu ds Q x->i6 jE tY (bq [true,false] Q x) (ini [true,false] ds++List.replicate 5 none):=by
 rintro _ Q x ⟨a,b,mo,rfl,h0,h1,h2,h3,q⟩;unfold i6;rfl';refine ⟨a,b,mo,rfl,h0,by lia,h2,h3,fun r a b hr h2 h3=>?_⟩
 rfl';refine ⟨a,b,6,rfl,by lia,by lia,h2,h3,fun sh a b hsh h2 h3=>?_⟩
 rfl';refine ⟨by lia,?_⟩
 have e1:(1:Int) + (r:Int)=((r + 1:Nat):Int):=by lia
 rw [e1,if_pos (by lia)]
 refine fT rfl ?_;have e2:(((r + 1:Nat):Int) - 1).toNat=r:=by lia
 rw [e2];refine tQ (fun i E=>∃ (a b:Int)(ps:VI)(o o2:Va),E=[some (.ow true,jQ a b),some (.sh,iD mo),some (.sh,iD (r + 1)),some (.sh,iD sh),some (.ow false,.list (ps.map gH)),o,o2]/\bu o=true/\bu o2=true/\Up i ps/\0<=b/\b < 2147483647) ?_ ?_ ?_
 ·exact ⟨a,b,[],none,none,rfl,rfl,rfl,⟨rfl,fun k e h=>by cases h⟩,h2,h3⟩
 ·rintro i k _ hi ⟨a,b,ps,o,o2,rfl,ho,ho2,up,h2,h3⟩;have hi':=ff hi;rw [RU (by rw [QI] at hi';exact hi')] at hi
  cases hi;rw [QI] at hi';simp! [ho];refine ⟨a,b,i + 1,rfl,by lia,by lia,h2,h3,fun r1 a b hr1 h2 h3=>?_⟩
  simp! [ho2];refine ⟨a,b,3,rfl,by lia,by lia,h2,h3,fun r2 a b hr2 h2 h3=>?_⟩
  have e3:((i + 1:Nat):Int) - 1=(i:Int):=by lia
  have e4:(if (3:Int) < ((i + 1:Nat):Int) then (3:Int) else ((i + 1:Nat):Int))=((min (i + 1) 3:Nat):Int):=by split <;> lia
  simp! [ho2,e3,e4];refine ⟨a,b,min (i + 1) 3,rfl,by lia,by lia,h2,h3,fun r3 a b hr3 h2 h3=>?_⟩
  simp! [ho2,e3,EU];refine ⟨by lia,⟨by lia,by lia⟩,by lia,by lia,?_⟩
  have hin:∀ z∈[PyData.int (i:Int),PyData.int 0,iD r1,PyData.int (if (i:Int) - (r2:Int) > 0 then (i:Int) - (r2:Int) else 0),iD r3,PyData.int ((i:Int) / 2)],∃ p:Nat,p<=i/\z=iD p:=by
   intro z hz;simp only [Q9,QZ,or_false] at hz;rcases hz with rfl | rfl | rfl | rfl | rfl | rfl
   ·exact ⟨i,by lia,rfl⟩
   ·exact ⟨0,by lia,rfl⟩
   ·exact ⟨r1,by lia,rfl⟩
   ·exact ⟨i - r2,by lia,by congr 1;split <;> lia⟩
   ·exact ⟨r3,by lia,rfl⟩
   ·exact ⟨i / 2,by lia,by congr 1⟩
  have hlen:[PyData.int (i:Int),PyData.int 0,iD r1,PyData.int (if (i:Int) - (r2:Int) > 0 then (i:Int) - (r2:Int) else 0),iD r3,PyData.int ((i:Int) / 2)].length=6:=rfl
  generalize [PyData.int (i:Int),PyData.int 0,iD r1,PyData.int (if (i:Int) - (r2:Int) > 0 then (i:Int) - (r2:Int) else 0),iD r3,PyData.int ((i:Int) / 2)]=L at hin hlen ⊢
  have hs:sh < L.length:=by lia
  obtain ⟨p,hp,ep⟩:=hin _ (Rn hs);refine fT (QV hs) ⟨by lia,by rw [up.len];lia,a,b,ps++[(p,i + 1)],_,_,by rw [ep,QY];rfl,rfl,rfl,up.snoc hp,h2,h3⟩
 ·rintro _ ⟨a,b,ps,o,o2,rfl,ho,ho2,up,h2,h3⟩;rfl';rw [QI] at up;refine ⟨a,b,r + 1,ps,rfl,by lia,by lia,Up.good (m:=r + 1) up (by lia),Up.conn (m:=r + 1) up,by rw [up.len];lia,h2,h3,fun es a' b' W hl h2 h3=>?_⟩
  rfl';exact q _ es _ _ (by lia) W (by rw [hl,up.len]) h2 h3
end PB
namespace PB
open PySem L2 Dv Gr
variable {m p:Nat}{es:VI}
theorem KS {a:Nat}:∀ {m:Nat},m<=a->((List.range m).map fun p=>if p=a then 1 else 0).sum=0
 | 0,_=>rfl
 | m + 1,h=>by
  rw [UM,QY,List.sum_append,KS (by lia)]
  simp;lia
theorem F8 {a:Nat}:∀ {m:Nat},a < m->((List.range m).map fun p=>if p=a then 1 else 0).sum=1
 | 0,h=>by lia
 | m + 1,h=>by
  rw [UM,QY,List.sum_append]
  by_cases c:a=m
  ·rw [KS (by lia)]
   simp [c]
  ·rw [F8 (by lia)]
   simp;lia
theorem sum_add {f g:Nat->Nat}:∀ {l:VV},(l.map fun x=>f x + g x).sum=(l.map f).sum + (l.map g).sum
 | []=>rfl
 | a::l=>by
  simp only [QO,Rk,sum_add (l:=l)];lia
def Gz {e:Nat×Nat}(h:e.1 < e.2):cH (e::es) p=((if p=e.1 then 1 else 0) + (if p=e.2 then 1 else 0)) + cH es p:=by
 unfold cH dm;rw [RM];unfold nb
 by_cases c1:e.1=p
 ·rw [if_pos c1,if_pos c1.symm,if_neg (by lia)]
  simp only [QH];lia
 ·by_cases c2:e.2=p
  ·rw [if_neg c1,if_pos c2,if_neg (Ne.symm c1),if_pos c2.symm];simp only [QH];lia
  ·rw [if_neg c1,if_neg c2,if_neg (Ne.symm c1),if_neg (Ne.symm c2)];simp
theorem Ii:∀ {es:VI},(∀ e∈es,e.1 < e.2/\e.2 < m)->((List.range m).map (cH es)).sum=2 * es.length
 | [],_=>by
  have:∀ l:VV,(l.map (cH [])).sum=0:=fun l=>by
   induction l with
   | nil=>rfl
   | cons a l ih=>rw [QO,Rk,ih];rfl
  rw [this];rfl
 | e::es,h=>by
  have h1:=h e Q2;rw [show (List.range m).map (cH (e::es))=(List.range m).map fun p=>((if p=e.1 then 1 else 0) + (if p=e.2 then 1 else 0)) + cH es p from Rj fun p _=>Gz h1.1]
  rw [sum_add,sum_add,F8 (by lia),F8 (by lia),show (List.range m).map (fun p=>cH es p)=(List.range m).map (cH es) from rfl,Ii fun e he=>h e (Q7 _ he),QH]
  lia
theorem za {f:Nat->Nat}:∀ {l:VV},(∀ x∈l,f x=1\/f x=2)->(l.map f).sum + (l.filter fun x=>decide (f x=1)).length=2 * l.length
 | [],_=>rfl
 | a::l,h=>by
  have:=za (l:=l) fun x hx=>h x (Q7 _ hx)
  rw [QO,Rk,To,QH];rcases h a Q2 with z | z
  ·rw [if_pos (Qz z),QH];lia
  ·rw [if_neg (by simp [z])]
   lia
def Tree.JI (T:Tree m es)(h2:2<=m)(hp:p < m):1<=cH es p:=by
 have:∃ x,x < m/\x≠p:=by
  by_cases c:p=0
  ·exact ⟨1,by lia,by lia⟩
  ·exact ⟨0,by lia,by lia⟩
 obtain ⟨x,hx,ne⟩:=this;obtain ⟨n,a,_⟩:=T.some hp hx ne;have:=eV.mpr a;exact Tz this
def Tree.GX (T:Tree m es)(h2:2<=m)(hf:cF m es=[]):(ens m es).length=2:=by
 have h1:=Ii (m:=m) (es:=es) fun e he=>T.gd.lt e he
 have h3:=za (f:=cH es) (l:=List.range m) fun x hx=>by
  have hx':=Qv.mp hx;have h4:=Tree.JI T h2 hx';have h5:¬ 2 < cH es x:=fun z=>by
   have:x∈cF m es:=QU.mpr ⟨hx,Qz z⟩;rw [hf] at this;exact absurd this QZ
  lia
 have h6:=T.len;rw [QI] at h3;unfold ens;lia
theorem AE {p:Nat}:∀ {es:VI},(es.filter fun e=>decide (p=e.1\/p=e.2)).length=cH es p
 | []=>rfl
 | e::es=>by
  have:=AE (p:=p) (es:=es);unfold cH dm at this ⊢;rw [To,RM];unfold nb
  by_cases c1:e.1=p
  ·rw [if_pos c1,if_pos (Qz (.inl c1.symm))];simp only [QH];rw [this];rfl
  ·by_cases c2:e.2=p
   ·rw [if_neg c1,if_pos c2,if_pos (Qz (.inr c2.symm))];simp only [QH];rw [this];rfl
   ·rw [if_neg c1,if_neg c2,if_neg (by simp;lia)]
    exact this
def Sm (es:VI) (p x y:Nat):Prop:=x=y\/∃ n,bx es p n/\cR es p n x/\cR es p n y
def Sm.sy {x y:Nat}(h:Sm es p x y):Sm es p y x:=h.imp Eq.symm fun ⟨n,a,b,c⟩=>⟨n,a,c,b⟩
def Sm.tr (T:Tree m es){x y z:Nat}(hy:y < m)(h:Sm es p x y)(g:Sm es p y z):Sm es p x z:=by
 rcases h with rfl | ⟨n,a,b,c⟩
 ·exact g
 ·rcases g with rfl | ⟨k,a',b',c'⟩
  ·exact .inr ⟨n,a,b,c⟩
  ·obtain rfl:=T.BK hy a a' c b';exact .inr ⟨n,a,b,c'⟩
structure lE (m:Nat)(es:VI) (p:Nat)(dn:VI)(lb:VV):Prop where
 len:lb.length=m
 snd:∀ x y,x < m->y < m->lb.getD x 0=lb.getD y 0->Sm es p x y
 IC:∀ e∈dn,e.1≠p->e.2≠p->lb.getD e.1 0=lb.getD e.2 0
def tO {x m:Nat}(h:x < m):(List.range m).getD x 0=x:=by
 rw [RD,RU h];rfl
def lE.start:lE m es p [] (List.range m):=⟨QI,fun x y hx hy h=>by rw [tO hx,tO hy] at h;exact .inl h,fun e he=>absurd he QZ⟩
def lE.skip {dn:VI}{lb:VV}{e:Nat×Nat}(L:lE m es p dn lb)(h:e.1=p\/e.2=p):lE m es p (dn++[e]) lb:=⟨L.len,L.snd,fun f hf h1 h2=>by
 rcases QA.mp hf with z | z
 ·exact L.IC f z h1 h2
 ·rw [QF.mp z] at h1 h2;rcases h with z | z
  ·exact absurd z h1
  ·exact absurd z h2⟩
def getD_map' {lb:VV}{f:Nat->Nat}{x:Nat}(h:x < lb.length):(lb.map f).getD x 0=f (lb.getD x 0):=by
 rw [RD,RD,QN,QV h];rfl
def lE.join {dn:VI}{lb:VV}{a b:Nat}(T:Tree m es)(hp:p < m)(L:lE m es p dn lb)(sub:∀ e∈dn,e∈es)(he:(a,b)∈es)(ha:a≠p)(hb:b≠p):lE m es p (dn++[(a,b)]) (lb.map fun z=>if z=lb.getD b 0 then lb.getD a 0 else z):=by
 have lt:=T.gd.lt _ he;have ha':a < m:=by lia
 have hb':b < m:=lt.2;have get:∀ x,x < m->(lb.map fun z=>if z=lb.getD b 0 then lb.getD a 0 else z).getD x 0=if lb.getD x 0=lb.getD b 0 then lb.getD a 0 else lb.getD x 0:=fun x hx=>getD_map' (f:=fun z=>if z=lb.getD b 0 then lb.getD a 0 else z) (by rw [L.len];exact hx)
 have ab:Sm es p a b:=by
  obtain ⟨n,h1,h2⟩:=T.some hp ha' ha;exact .inr ⟨n,h1,h2,T.rB hp (T.gd.fV h1).2 h1 h2 (.inl he) hb⟩
 refine ⟨by rw [Q8];exact L.len,fun x y hx hy h=>?_,fun e hem h1 h2=>?_⟩
 ·rw [get x hx,get y hy] at h
  by_cases c1:lb.getD x 0=lb.getD b 0
  ·have s1:=L.snd x b hx hb' c1
   by_cases c2:lb.getD y 0=lb.getD b 0
   ·exact s1.tr T hb' (L.snd b y hb' hy c2.symm)
   ·rw [if_pos c1,if_neg c2] at h;exact (s1.tr T hb' ab.sy).tr T ha' (L.snd a y ha' hy h)
  ·by_cases c2:lb.getD y 0=lb.getD b 0
   ·rw [if_neg c1,if_pos c2] at h;exact ((L.snd x a hx ha' h).tr T ha' ab).tr T hb' (L.snd b y hb' hy c2.symm)
   ·rw [if_neg c1,if_neg c2] at h;exact L.snd x y hx hy h
 ·rcases QA.mp hem with z | z
  ·have l2:=T.gd.lt _ (sub e z);rw [get _ (by lia),get _ l2.2,L.IC e z h1 h2]
  ·rw [QF.mp z];rw [get a ha',get b hb',if_pos rfl];split <;> rfl
def EA {n:Nat}:¬ cR es p n p:=fun h=>by
 unfold cR at h;rw [fQ] at h;lia
theorem lE.all (T:Tree m es)(hp:p < m){lb:VV}(L:lE m es p es lb){n:Nat}(a:bx es p n):∀ {k x:Nat},x < m->ds es n x=k->cR es p n x->lb.getD x 0=lb.getD n 0
 | 0,x,hx,h0,hb=>by rw [T.cn.zero (T.gd.fV a).2 hx h0]
 | k + 1,x,hx,h0,hb=>by
  have ne:x≠n:=fun z=>by rw [z,fQ] at h0;lia
  obtain ⟨y,hy,ay,b1,_,b2⟩:=T.yT hp hx a hb ne;have ih:=L.all T hp a (k:=k) hy (by lia) b1
  have xp:x≠p:=fun z=>EA (z ▸ hb)
  have yp:y≠p:=fun z=>EA (z ▸ b1)
  rcases ay with z | z
  ·rw [<- L.IC _ z yp xp];exact ih
  ·rw [L.IC _ z xp yp];exact ih
def lE.fin (T:Tree m es)(hp:p < m){lb:VV}(L:lE m es p es lb){n x:Nat}(a:bx es p n)(hx:x < m):lb.getD x 0=lb.getD n 0↔cR es p n x:=by
 refine ⟨fun h=>?_,fun h=>L.all T hp a hx rfl h⟩
 have hn:=(T.gd.fV a).2;rcases L.snd x n hx hn h with rfl | ⟨k,a',b1,b2⟩
 ·exact jv T hp a
 ·obtain rfl:=T.BK hn a a' (jv T hp a) b2;exact b1
def BJ:bD:=fun dd Q x=>∃ m es p,dd=[wD m es,iD p]/\bW m es/\es.length + 1=m/\p < m/\∀ ns:VV,ns.Perm (dm es p)->Q [] (.ow false) (.list (ns.map fun n=>nD (pc m es p n)))
def Ni:∀ dd Q x,BJ dd Q x->gU (bq [false,false] Q x) (ini [false,false] dd++List.replicate 7 none):=by
 rintro _ Q x ⟨m,es,p,rfl,W,ht,hp,q⟩;have hm:=W.le;have T:Tree m es:=⟨W.gd,W.cn,ht⟩;unfold gU;rfl';refine ⟨⟨by lia,by lia⟩,?_⟩
 refine jc (fun i E=>∃ (lb:VV)(o3 o4 o5:Va),E=[some (.sh,wD m es),some (.sh,iD p),some (.ow false,nD lb),o3,o4,o5,none,none,none]/\bu o3=true/\bu o4=true/\bu o5=true/\lE m es p (es.take i) lb) ⟨List.range m,none,none,none,rfl,rfl,rfl,rfl,lE.start⟩ ?_ ?_
 ·rintro J i e _ hi hJ ⟨lb,o3,o4,o5,rfl,h3,h4,h5,L⟩;simp! [h3,h4];have lt:=T.gd.lt e (QX hi);have g1:=lg (l:=lb) (k:=e.1) (by rw [L.len];lia)
  have g2:=lg (l:=lb) (k:=e.2) (by rw [L.len];lia)
  have hin:iD p∈[iD e.1,iD e.2]↔e.1=p\/e.2=p:=by
   rw [Q9,QF,jL,jL];lia
  refine ⟨by lia,⟨rfl,rfl⟩,?_⟩
  rw [take_snoc hi] at hJ
  by_cases c:iD p∈[iD e.1,iD e.2]
  ·rw [if_neg fun z=>z c]
   exact hJ _ ⟨lb,_,_,_,rfl,rfl,rfl,h5,L.skip (hin.mp c)⟩
  ·rw [if_pos c];have ne:=fun z=>c (hin.mpr z)
   simp only [g2,dv,dw,h5];refine eW (fun z=>iD (if z=lb.getD e.2 0 then lb.getD e.1 0 else z)) rfl (fun z hz I hI=>?_) ?_ (by rw [L.len];lia)
   ·simp! [g1];split
    ·rename_i h;rw [if_pos h] at hI;exact hI _ rfl
    ·rename_i h;rw [if_neg h] at hI;exact hI _ rfl
   ·rfl';refine hJ _ ⟨lb.map fun z=>if z=lb.getD e.2 0 then lb.getD e.1 0 else z,some (.sh,iD e.1),some (.sh,iD e.2),some (.sh,iD (lb.getD e.2 0)),?_,rfl,rfl,rfl,L.join T hp (fun f hf=>List.mem_of_mem_take hf) (QX hi) (fun z=>ne (.inl z)) fun z=>ne (.inr z)⟩
    unfold nD;rw [Qt];rfl
 ·rintro _ ⟨lb,o3,o4,o5,rfl,h3,h4,h5,L⟩;rw [RW] at L;rfl';have hes:=W.few;refine cM (fun e=>(nb p e).map iD) rfl (fun e he I hI=>?_) ?_ (by lia)
  ·have lt:=T.gd.lt e he;have hin:iD p∈[iD e.1,iD e.2]↔e.1=p\/e.2=p:=by
    rw [Q9,QF,jL,jL];lia
   unfold nb at hI;rfl';refine ⟨by lia,⟨rfl,rfl⟩,?_⟩
   by_cases c1:e.1=p
   ·rw [if_pos (hin.mpr (.inl c1))];rw [if_pos c1] at hI;have ee:((e.1:Int) + (e.2:Int) - (p:Int))=(e.2:Int):=by lia
    rw [ee];exact hI _ rfl
   ·by_cases c2:e.2=p
    ·rw [if_pos (hin.mpr (.inr c2))];rw [if_neg c1,if_pos c2] at hI;have ee:((e.1:Int) + (e.2:Int) - (p:Int))=(e.1:Int):=by lia
     rw [ee];exact hI _ rfl
    ·rw [if_neg fun z=>(hin.mp z).elim c1 c2]
     rw [if_neg c1,if_neg c2] at hI;exact hI _ rfl
  ·have e1:(es.filterMap fun e=>(nb p e).map iD)=(dm es p).map iD:=by
    unfold dm;rw [List.map_filterMap]
   rw [e1];have hnb:=W.gd.jy p;rfl';refine mV (by lia) fun ns pm _=>?_
   have hnl:=pm.length_eq;rfl';refine eW (fun n=>nD (pc m es p n)) rfl (fun n hn I hI=>?_) ?_ (by lia)
   ·have an:bx es p n:=eV.mp (pm.mem_iff.mp hn);have g1:=lg (l:=lb) (k:=n) (by rw [L.len];exact (T.gd.fV an).2)
    rfl';rw [if_pos ⟨by lia,by lia⟩]
    refine fT rfl ?_;refine cM (fun l=>if decide (ds es n l + 1=ds es p l)=true then some (iD l) else none) rfl (fun l hl J hJ=>?_) ?_ (by rw [QI];lia)
    ·have hl':=Qv.mp hl;have g2:=lg (l:=lb) (k:=l) (by rw [L.len];exact hl')
     have hb:=L.fin T hp an hl';unfold cR at hb;simp only [dv,dw,dx,dy,dz,Nat.reduceBEq,g1,g2] at hJ ⊢;split
     ·rename_i c;rw [if_pos (hb.mp c)] at hJ;exact hJ _ rfl
     ·rename_i c;rw [if_neg fun z=>c (hb.mpr z)] at hJ
      exact hJ _ rfl
    ·rw [bI];rfl';exact hI _ rfl
   ·rfl';exact q ns pm
variable {m p:Nat}{es:VI}
inductive Al (m:Nat)(es:VI):VV->List (VG)->Prop
 | nil:Al m es [] []
 | snoc {ps:VV}{gs:List (VG)}{p:Nat}{g:VG}:Al m es ps gs->g.Perm (fM m es p)->Al m es (ps++[p]) (gs++[g])
def N5 {g:VG}:dl 8 (PyData.list (g.map nD))=true:=by
 simp only [dl,SH,QK];intro a _;simp only [Function.comp,dl,SH,QK];intro b _;trivial
def N3 {p:Nat}{e:Nat×Nat}:iD p∈[iD e.1,iD e.2]↔(p=e.1\/p=e.2):=by rw [Q9,QF,jL,jL]
def BD:bD:=fun dd Q x=>∃ m es,dd=[wD m es]/\bW m es/\es.length + 1=m/\∀ gs,Al m es (cF m es) gs->Q [] (.ow false) (dS (gs.filter fun g=>decide (g≠[])))
def Mw:∀ dd Q x,BD dd Q x->iM BJ (bq [false] Q x) (ini [false] dd++List.replicate 6 none):=by
 rintro _ Q x ⟨m,es,rfl,W,ht,q⟩;have hm:=W.le;have hes:=W.few;have T:Tree m es:=⟨W.gd,W.cn,ht⟩;unfold iM;rfl';rw [if_pos ⟨by lia,by lia⟩]
 refine fT rfl ?_;refine eW (fun p=>iD (cH es p)) rfl (fun p hp I hI=>?_) ?_ (by rw [QI];lia)
 ·rfl';refine cM (fun e=>if decide (p=e.1\/p=e.2)=true then some (gH e) else none) rfl (fun e he J hJ=>?_) ?_ (by lia)
  ·simp only [dv,dw,dx,dy,dz,Nat.reduceBEq] at hJ ⊢;refine ⟨⟨rfl,rfl⟩,?_⟩;simp only [N3];split
   ·rename_i c;rw [if_pos c] at hJ;exact hJ _ rfl
   ·rename_i c;rw [if_neg c] at hJ;exact hJ _ rfl
  ·rw [bI];simp! [AE];exact hI _ rfl
 rfl';refine ⟨by lia,?_⟩
 rw [if_pos ⟨by lia,by lia⟩]
 refine fT rfl ?_;refine Hs (fun i E=>∃ (gs:List (VG))(o3 o4:Va),E=[some (.sh,wD m es),some (.ow false,.list ((List.range m).map fun p=>iD (cH es p))),some (.ow false,dS gs),o3,o4,none,none]/\bu o3=true/\bu o4=true/\Al m es ((List.range i).filter fun p=>decide (2 < cH es p)) gs/\gs.length<=i) ⟨[],none,none,rfl,rfl,rfl,.nil,Q6 _⟩ ?_ ?_
 ·rintro J i _ hi hJ ⟨gs,o3,o4,rfl,h3,h4,A,hl⟩;simp! [h3,RU hi];have hr:((List.range (i + 1)).filter fun p=>decide (2 < cH es p))=((List.range i).filter fun p=>decide (2 < cH es p))++if 2 < cH es i then [i] else []:=by
   rw [UM,List.filter_append,To];congr 1
   by_cases c:2 < cH es i
   ·rw [if_pos (Qz c),if_pos c];rfl
   ·rw [if_neg (by simpa using c),if_neg c]
    rfl
  rw [hr] at hJ;split
  ·rename_i c;rw [if_pos (by lia)] at hJ
   refine ⟨m,es,i,rfl,W,ht,hi,fun ns pm=>?_⟩
   have hnb:=W.gd.jy i;have hnl:=pm.length_eq;rfl';refine cM (fun n=>if decide (¬ ∃ y∈pc m es i n,y∈cF m es)=true then some (nD (pc m es i n)) else none) rfl (fun n hn I hI=>?_) ?_ (by lia)
   ·have an:bx es i n:=eV.mp (pm.mem_iff.mp hn);have hpl:(pc m es i n).length<=m:=ng tG fun x hx=>(dh.mp hx).1
    simp only [dv,dw,dx,dy,dz,Nat.reduceBEq] at hI ⊢;refine eW (fun y=>iD (cH es y)) rfl (fun y hy I hI=>?_) ?_ (by lia)
    ·simp! [RU (dh.mp hy).1];exact hI _ rfl
    ·have e9:(pc m es i n).map (fun y=>iD (cH es y))=((pc m es i n).map (cH es)).map iD:=by rw [Qt];rfl
     rw [e9];rfl';refine Ku (fun z=>?_) fun M hM le=>?_
     ·have:n∈pc m es i n:=dh.mpr ⟨(T.gd.fV an).2,jv T hi an⟩;rw [U3.mp z] at this;exact absurd this QZ
     ·rfl';obtain ⟨y,hy,rfl⟩:=QB.mp hM
      by_cases c:∃ y∈pc m es i n,y∈cF m es
      ·rw [if_neg fun z=>z c] at hI
       obtain ⟨w,h1,h2⟩:=c;have h3:=QS (QU.mp h2).2;have h4:=le _ (QB.mpr ⟨w,h1,rfl⟩);rw [if_neg (by lia)]
       exact hI _ rfl
      ·rw [if_pos c] at hI;have h3:¬ 2 < cH es y:=fun z=>c ⟨y,hy,QU.mpr ⟨Qv.mpr (dh.mp hy).1,Qz z⟩⟩
       rw [if_pos (by lia)]
       exact hI _ rfl
   ·rw [bI];simp! [h4];refine ⟨by lia,hJ _ ⟨gs++[(ns.filter fun n=>decide (¬ ∃ y,y∈pc m es i n/\y∈cF m es)).map (pc m es i)],some (.sh,iD i),some (.sh,gD ((ns.filter fun n=>decide (¬ ∃ y,y∈pc m es i n/\y∈cF m es)).map (pc m es i))),?_,rfl,rfl,A.snoc ?_,by rw [QE];exact Nat.succ_le_succ hl⟩⟩
    ·unfold dS gD;rw [QY,U5,Qt];rfl
    ·unfold fM;rw [U6];exact (pm.filter _).map _
  ·rename_i c;rw [if_neg (by lia),RN] at hJ
   exact hJ _ ⟨gs,_,o4,rfl,rfl,h4,A,by lia⟩
 ·rintro _ ⟨gs,o3,o4,rfl,h3,h4,A,hl⟩;rfl';refine cM (fun g=>if decide (g≠[])=true then some (gD g) else none) rfl (fun g hg J hJ=>?_) ?_ (by lia)
  ·simp only [dv,dw,dx,dy,dz,Nat.reduceBEq] at hJ ⊢;have hne:(PyData.list (g.map nD)=PyData.list [])↔g=[]:=⟨fun z=>U3.mp (PyData.list.inj z),fun z=>by rw [z];rfl⟩
   refine ⟨by lia,⟨N5,rfl⟩,?_⟩
   by_cases c:g=[]
   ·rw [if_neg fun z=>z c] at hJ
    rw [if_neg fun z=>z (hne.mpr c)]
    exact hJ _ rfl
   ·rw [if_pos c] at hJ;rw [if_pos fun z=>c (hne.mp z)]
    exact hJ _ rfl
  ·rw [bI];rfl';exact q gs A
variable {m p:Nat}{es:VI}
def lens (g:VG):VV:=g.map List.length
def Ky {sp:VV}:cA sp [] 0=(sp.length,1):=by
 unfold cA;have e1:(sp.filter fun s=>decide (s∈([]:VV)))=[]:=U8.mpr fun a _=>by simp
 have e2:(sp.filter fun s=>decide (0<=s))=sp:=List.filter_eq_self.mpr fun a _=>by simp
 rw [e1,e2,if_neg (by simp)]
theorem EC:∀ {g:VG}{a b:Nat},g.foldl (fun a sp=>(a.1 * (cA sp [] 0).1,a.2 * (cA sp [] 0).1 + a.1 * (cA sp [] 0).2)) (a,b)=(a * dJ (lens g),b * dJ (lens g) + a * but (lens g))
 | [],a,b=>by simp [lens,dJ,but]
 | sp::g,a,b=>by
  rw [Td,Ky];show g.foldl _ (a * sp.length,b * sp.length + a * 1)=_;rw [EC];show _=(a * (sp.length * dJ (lens g)),b * (sp.length * dJ (lens g)) + a * (dJ (lens g) + sp.length * but (lens g)));rw [Nat.mul_one,Nat.add_mul,Nat.mul_add,U4,U4,U4,Nat.add_assoc]
def yj {g:VG}:(fN [] 0 g).2=but (lens g):=by
 unfold fN;rw [EC];simp
theorem pH (T:Tree m es)(hp:p < m):∀ {ns:VV},ns.Nodup->(∀ n∈ns,bx es p n)->(ns.map (pc m es p)).flatten.Nodup
 | [],_,_=>SA
 | n::ns,nd,ha=>by
  rw [QO,RO];refine Qy.mpr ⟨List.Pairwise.imp (fun h=>QG h) tG,pH T hp (R8.mp nd).2 fun k hk=>ha k (Q7 _ hk),fun x hx y hy e=>?_⟩
  subst e;obtain ⟨c,hc,hxc⟩:=RQ.mp hy;obtain ⟨k,hk,rfl⟩:=QB.mp hc;have h1:=dh.mp hx;have h2:=dh.mp hxc;have:=T.BK h1.1 (ha n Q2) (ha k (Q7 _ hk)) h1.2 h2.2;subst this;exact (R8.mp nd).1 hk
structure Gp (g:VG):Prop where
 sum:(lens g).sum<=60
 pos:∀ c∈g,0 < c.length
def Gp.le {g:VG}(h:Gp g):∀ c∈g,c.length<=60:=fun c hc=>by
 have h1:∀ (l:VV) (a:Nat),a∈l->a<=l.sum:=fun l a ha=>by
  induction l with
  | nil=>exact absurd ha QZ
  | cons b l ih =>
   rw [Rk];rcases Q9.mp ha with z | z
   ·lia
   ·have:=ih z;lia
 have:=h1 (lens g) _ (QB.mpr ⟨c,hc,rfl⟩);have:=h.sum;lia
def Gp.small {g:VG}(h:Gp g):but (lens g) < 2 ^ 64:=Nat.lt_of_le_of_lt uK (Nat.pow_lt_pow_right (by lia) (by have:=h.sum;lia))
def ye (W:bW m es)(T:Tree m es)(hp:p < m):Gp (fM m es p):=by
 unfold fM;rw [U6];refine ⟨?_,fun c hc=>?_⟩
 ·have nd:((dm es p).filter ((fun c=>decide (¬ ∃ y∈c,y∈cF m es)) ∘ pc m es p)).Nodup:=SK Sl (W.gd.lD p)
  have h1:=pH T hp nd fun n hn=>eV.mp (QU.mp hn).1
  have h2:=Gr.dY m _ h1 fun x hx=>by
   obtain ⟨c,hc,hxc⟩:=RQ.mp hx;obtain ⟨k,hk,rfl⟩:=QB.mp hc;exact (dh.mp hxc).1
  rw [List.length_flatten] at h2;have:=W.le;unfold lens;lia
 ·obtain ⟨n,hn,rfl⟩:=QB.mp hc;have a:=eV.mp (QU.mp hn).1;exact Tz (dh.mpr ⟨(T.gd.fV a).2,jv T hp a⟩)
def Al.mem {ps:VV}{gs:List (VG)}(A:Al m es ps gs):∀ g∈gs,∃ p∈ps,g.Perm (fM m es p):=by
 induction A with
 | nil=>exact fun g hg=>absurd hg QZ
 | snoc A pm ih =>
  intro g hg;rcases QA.mp hg with z | z
  ·obtain ⟨p,hp,h⟩:=ih g z;exact ⟨p,QA.mpr (.inl hp),h⟩
  ·rw [QF.mp z];exact ⟨_,QA.mpr (.inr Q2),pm⟩
def Al.len {ps:VV}{gs:List (VG)}(A:Al m es ps gs):gs.length=ps.length:=by
 induction A with
 | nil=>rfl
 | snoc A pm ih=>rw [QE,QE,ih];rfl
def kind_len (W:bW m es)(ht:es.length + 1=m){k:Str}(hk:fK k):(qo k m es).length=if k="places" then m else if k="ties" then m - 1 else 2 * m - 1:=by
 unfold qo;rcases hk with rfl | rfl | rfl
 ·rw [if_neg (by decide),if_pos rfl,if_pos rfl,RN,Q8,QI]
 ·rw [if_pos rfl,if_neg (by decide),if_neg (by decide),if_pos rfl,List.nil_append,Q8]
  lia
 ·rw [if_neg (by decide),if_neg (by decide),if_neg (by decide),if_neg (by decide),QE,Q8,Q8,QI]
  lia
def tX (W:bW m es)(ht:es.length + 1=m){k:Str}(hk:fK k):(bM k m es).length<=60/\(∀ g∈bM k m es,g≠[])/\∀ g∈bM k m es,(∀ sp∈g,sp.length<=60)/\(fN [] 0 g).2 < 2 ^ 64:=by
 have T:Tree m es:=⟨W.gd,W.cn,ht⟩;have hm:=W.le;have hel:(ens m es).length<=m:=by
  have:=Rb (fun p=>decide (cH es p=1)) (List.range m)
  rw [QI] at this;exact this
 have hfl:(cF m es).length<=m:=by
  have:=Rb (fun p=>decide (2 < cH es p)) (List.range m)
  rw [QI] at this;exact this
 unfold bM;split
 ·exact ⟨by simp,fun g hg=>absurd hg QZ,fun g hg=>absurd hg QZ⟩
 rename_i c;split
 ·refine ⟨by rw [Q8];lia,fun g hg=>?_,fun g hg=>?_⟩
  ·obtain ⟨e,_,rfl⟩:=QB.mp hg;exact List.cons_ne_nil _ _
  ·obtain ⟨e,_,rfl⟩:=QB.mp hg;refine ⟨fun sp hs=>?_,by rw [yj];simp [lens,but,dJ]⟩
   rcases Q9.mp hs with rfl | z
   ·simp
   ·rw [QF.mp z];simp
 split
 ·rename_i ka hf;have h2:2<=m:=by
   rw [kind_len W ht hk] at c;rcases hk with rfl | rfl | rfl
   ·rw [if_pos rfl] at c;lia
   ·rw [if_neg (by decide),if_pos rfl] at c;lia
   ·exact absurd rfl ka
  have h3:=Tree.GX T h2 hf;refine ⟨by simp,fun g hg z=>?_,fun g hg=>?_⟩
  ·rw [QF.mp hg,U3] at z;rw [z] at h3;cases h3
  ·rw [QF.mp hg,yj];refine ⟨fun sp hs=>?_,?_⟩
   ·obtain ⟨e,_,rfl⟩:=QB.mp hs;simp
   ·match hh:ens m es,h3 with
    | [a,b],_=>simp [lens,but,dJ]
 ·refine ⟨?_,fun g hg=>QS (QU.mp hg).2,fun g hg=>?_⟩
  ·have:=Rb (fun g=>decide (g≠[])) ((cF m es).map (fM m es))
   rw [Q8] at this;lia
  ·obtain ⟨p,hp,rfl⟩:=QB.mp (QU.mp hg).1;have G:=ye W T (Qv.mp (QU.mp hp).1);exact ⟨G.le,by rw [yj];exact G.small⟩
def c8 (x y:Nat×Nat):Nat×Nat:=(x.1 * y.1,x.2 * y.1 + x.1 * y.2)
def jz (x y:Nat×Nat):Nat×Nat:=(x.1 + y.1,x.2 + y.2)
def A9 (x y z:Nat×Nat):c8 (c8 x y) z=c8 x (c8 y z):=by
 unfold c8;simp only [Prod.mk.injEq];constructor <;> grind
def FW (x y z:Nat×Nat):c8 x (jz y z)=jz (c8 x y) (c8 x z):=by
 unfold c8 jz;simp only [Prod.mk.injEq];constructor <;> grind
def Gj (x y z:Nat×Nat):c8 (jz y z) x=jz (c8 y x) (c8 z x):=by
 unfold c8 jz;simp only [Prod.mk.injEq];constructor <;> grind
def gp (f:VV->Nat×Nat):VG->Nat×Nat
 | []=>(1,0)
 | sp::g=>c8 (f sp) (gp f g)
theorem yQ:∀ {g:VG}{x:Nat×Nat},g.foldl (fun a sp=>(a.1 * (f sp).1,a.2 * (f sp).1 + a.1 * (f sp).2)) x=c8 x (gp f g)
 | [],x=>by show x=c8 x (1,0);unfold c8;simp
 | sp::g,x=>by
  rw [Td,yQ,gp,<- A9];rfl
def fL {st:Nat}:fN ls st g=gp (fun sp=>cA sp ls st) g:=by
 unfold fN;rw [yQ];unfold c8;simp
theorem pY:∀ {g:VG},(∀ sp∈g,f sp=h sp)->gp f g=gp h g
 | [],_=>rfl
 | sp::g,e=>by rw [gp,gp,e sp Q2,pY fun s hs=>e s (Q7 _ hs)]
theorem DJ (e:f sp=jz (f1 sp) (f2 sp))(hb:∀ s∈b,f s=f1 s/\f s=f2 s):∀ {a:VG},(∀ s∈a,f s=f1 s/\f s=f2 s)->gp f (a++sp::b)=jz (gp f1 (a++sp::b)) (gp f2 (a++sp::b))
 | [],_=>by
  show c8 (f sp) (gp f b)=jz (c8 (f1 sp) (gp f1 b)) (c8 (f2 sp) (gp f2 b));rw [e,Gj,<- pY fun s hs=>(hb s hs).1,<- pY fun s hs=>(hb s hs).2]
 | s::a,ha=>by
  have h:=ha s Q2;show c8 (f s) (gp f (a++sp::b))=jz (c8 (f1 s) (gp f1 (a++sp::b))) (c8 (f2 s) (gp f2 (a++sp::b)));rw [DJ e hb fun s hs=>ha s (Q7 _ hs),FW,<- h.1,<- h.2]
def aj (gs:List (VG)):VV:=gs.flatten.flatten
section
variable {gs:List (VG)}{L T:VV}
def cu {x:Nat}:x∈aj gs↔∃ g∈gs,∃ sp∈g,x∈sp:=by
 unfold aj;constructor
 ·intro h;obtain ⟨sp,h1,h2⟩:=RQ.mp h;obtain ⟨g,h3,h4⟩:=RQ.mp h1;exact ⟨g,h3,sp,h4,h2⟩
 ·rintro ⟨g,h3,sp,h4,h2⟩;exact RQ.mpr ⟨sp,RQ.mpr ⟨g,h3,h4⟩,h2⟩
def rA {st st':Nat}(h1:∀ x∈sp,x∈L↔x∈L')(h2:∀ x∈sp,st<=x↔st'<=x):cA sp L st=cA sp L' st':=by
 unfold cA;rw [Ug (q:=fun s=>decide (s∈L')) fun x hx=>by simp [h1 x hx],Ug (p:=fun s=>decide (st<=s)) (q:=fun s=>decide (st'<=s)) fun x hx=>by simp [h2 x hx]]
def xu {st st':Nat}(h1:∀ x∈aj gs,x∈L↔x∈L')(h2:∀ x∈aj gs,st<=x↔st'<=x):bO L st gs=bO L' st' gs:=by
 unfold bO;congr 1;refine Rj fun g hg=>?_
 rw [fL,fL,pY fun sp hs=>rA (fun x hx=>h1 x (cu.mpr ⟨g,hg,sp,hs,hx⟩)) fun x hx=>h2 x (cu.mpr ⟨g,hg,sp,hs,hx⟩)]
def uN:dJ (a++b)=dJ a * dJ b:=by
 induction a with
 | nil=>show dJ b=1 * dJ b;lia
 | cons x a ih=>show x * dJ (a++b)=x * dJ a * dJ b;rw [ih,U4]
theorem zP {s:Nat}:∀ {sp:VV},sp.Nodup->s∈sp->(sp.filter fun x=>decide (s<=x)).length=(sp.filter fun x=>decide (s + 1<=x)).length + 1
 | [],_,h=>absurd h QZ
 | a::sp,n,h=>by
  obtain ⟨n1,n2⟩:=R8.mp n;rcases Q9.mp h with rfl | h
  ·rw [S3 (by simp),SO (by simp),QH]
   congr 2;refine Ug fun x hx=>?_
   have:x≠s:=fun z=>n1 (z ▸ hx)
   rw [decide_eq_decide];lia
  ·have ne:a≠s:=fun z=>n1 (z ▸ h)
   have ih:=zP n2 h
   by_cases c:s<=a
   ·rw [S3 (by simpa using c),S3 (by simp;lia),QH,QH,ih]
   ·rw [SO (by simpa using c),SO (by simp;lia),ih]
theorem Dd {s:Nat}:∀ {sp:VV},sp.Nodup->s∈sp->s∉L->(sp.filter fun x=>decide (x∈L++[s])).length=(sp.filter fun x=>decide (x∈L)).length + 1
 | [],_,h,_=>absurd h QZ
 | a::sp,n,h,nl=>by
  obtain ⟨n1,n2⟩:=R8.mp n;rcases Q9.mp h with rfl | h
  ·rw [S3 (by simp),SO (by simpa using nl),QH]
   congr 2;refine Ug fun x hx=>?_
   have:x≠s:=fun z=>n1 (z ▸ hx)
   simp [this]
  ·have ne:a≠s:=fun z=>n1 (z ▸ h)
   have ih:=Dd n2 h nl
   by_cases c:a∈L
   ·rw [S3 (by simp [c]),S3 (by simpa using c),QH,QH,ih]
   ·rw [SO (by simp [c,ne]),SO (by simpa using c),ih]
def Kp {s:Nat}(n:sp.Nodup)(h:s∈sp)(nl:s∉L):cA sp L s=jz (cA sp (L++[s]) (s + 1)) (cA sp L (s + 1)):=by
 unfold cA;rw [Dd n h nl,zP n h];generalize (sp.filter fun x=>decide (x∈L)).length=k
 generalize (sp.filter fun x=>decide (s + 1<=x)).length=j
 rw [if_pos (by lia:0 < k + 1)]
 by_cases c:0 < k
 ·rw [if_pos c,if_neg (by lia:¬ k + 1=1),if_pos c]
  unfold jz;simp
 ·rw [if_neg c,if_neg c,if_pos (by lia:k + 1=1)]
  unfold jz;simp;lia
def J8 {s:Nat}(nd:(aj gs).Nodup)(h:s∈aj gs)(nl:s∉L):bO L s gs=bO (L++[s]) (s + 1) gs + bO L (s + 1) gs:=by
 obtain ⟨g,hg,sp,hs,hx⟩:=cu.mp h;obtain ⟨A,B,rfl⟩:=TQ hg;obtain ⟨a,b,rfl⟩:=TQ hs;have nd':=nd;unfold aj at nd';simp only [RE,RO,Qs] at nd';have hA:∀ g∈A,∀ t∈g,s∉t:=fun g hg t ht z=>by
  have h1:s∈A.flatten.flatten:=cu.mpr ⟨g,hg,t,ht,z⟩;exact (Qy.mp nd').2.2 s h1 s (QA.mpr (.inr (QA.mpr (.inl hx)))) rfl
 have nd1:=(Qy.mp nd').2.1;have ha:∀ t∈a,s∉t:=fun t ht z=>(Qy.mp nd1).2.2 s (RQ.mpr ⟨t,ht,z⟩) s (QA.mpr (.inl hx)) rfl
 have nd2:=(Qy.mp nd1).2.1;have hsp:sp.Nodup:=(Qy.mp nd2).1;have hb:∀ t∈b,s∉t:=fun t ht z=>(Qy.mp nd2).2.2 s hx s (QA.mpr (.inl (RQ.mpr ⟨t,ht,z⟩))) rfl
 have hB:∀ g∈B,∀ t∈g,s∉t:=fun g hg t ht z=>(Qy.mp nd2).2.2 s hx s (QA.mpr (.inr (cu.mpr ⟨g,hg,t,ht,z⟩))) rfl
 have key:∀ t:VV,s∉t->cA t L s=cA t (L++[s]) (s + 1)/\cA t L s=cA t L (s + 1):=fun t ht=>by
  have e2:∀ x∈t,s<=x↔s + 1<=x:=fun x hx=>by
   have:x≠s:=fun z=>ht (z ▸ hx)
   lia
  refine ⟨rA (fun x hx=>?_) e2,rA (fun _ _=>Iff.rfl) e2⟩
  have:x≠s:=fun z=>ht (z ▸ hx)
  simp [this]
 have out:∀ D:List (VG),(∀ g∈D,∀ t∈g,s∉t)->(D.map fun g=>(fN L s g).2)=(D.map fun g=>(fN (L++[s]) (s + 1) g).2)/\(D.map fun g=>(fN L s g).2)=D.map fun g=>(fN L (s + 1) g).2:=fun D hD =>
  ⟨Rj fun g hg=>by rw [fL,fL,pY fun t ht=>(key t (hD g hg t ht)).1],Rj fun g hg=>by rw [fL,fL,pY fun t ht=>(key t (hD g hg t ht)).2]⟩
 have mid:(fN L s (a++sp::b)).2=(fN (L++[s]) (s + 1) (a++sp::b)).2 + (fN L (s + 1) (a++sp::b)).2:=by
  rw [fL,fL,fL,DJ (f1:=fun sp=>cA sp (L++[s]) (s + 1)) (f2:=fun sp=>cA sp L (s + 1)) (Kp hsp hx nl) (fun t ht=>key t (hb t ht)) fun t ht=>key t (ha t ht)]
  rfl
 unfold bO;simp only [QY,QO];have pc:∀ (x:Nat)(l:VV),dJ (x::l)=x * dJ l:=fun _ _=>rfl
 rw [uN,uN,uN,pc,pc,pc,mid,(out A hA).1,(out B hB).1,Nat.add_mul,Nat.mul_add,<- (out A hA).1,<- (out B hB).1,(out A hA).2,(out B hB).2]
end
def hl (T sp:VV):Nat:=(sp.filter fun x=>decide (x∈T)).length
def qP (T:VV)(g:VG):Prop:=∃ a sp b,g=a++sp::b/\hl T sp=0/\∀ s∈a++b,hl T s=1
def i7 (gs:List (VG)):VV->VV->Nat->VV
 | [],L,_=>L
 | s::B,L,n=>if n < bO (L++[s]) (s + 1) gs then i7 gs B (L++[s]) n else i7 gs B L (n - bO (L++[s]) (s + 1) gs)
def fJ (gs:List (VG))(T:VV):VV->VV->Nat->Nat
 | [],_,n=>n
 | s::B,L,n=>if s∈T then fJ gs T B (L++[s]) n else fJ gs T B L (n + bO (L++[s]) (s + 1) gs)
section
variable {gs:List (VG)}{T:VV}{e:Nat}
def Jt (h:∀ x∈sp,x < e):cA sp T e=if hl T sp=0 then (0,1) else if hl T sp=1 then (1,0) else (0,0):=by
 have h0:(sp.filter fun s=>decide (e<=s))=[]:=U8.mpr fun x hx=>by have:=h x hx;simp;lia
 unfold cA;rw [h0];show (if 0 < hl T sp then (if hl T sp=1 then 1 else 0,0) else _)=_
 generalize hl T sp=k
 by_cases c:0 < k
 ·rw [if_pos c,if_neg (show ¬ k=0 by lia)]
  split <;> rfl
 ·rw [if_neg c,if_pos (show k=0 by lia)]
  rfl
theorem CC:∀ {g:VG},(∀ sp∈g,∀ x∈sp,x < e)->(((gp (fun sp=>cA sp T e) g).1=1/\∀ s∈g,hl T s=1)\/((gp (fun sp=>cA sp T e) g).1=0/\∃ s∈g,hl T s≠1))/\(((gp (fun sp=>cA sp T e) g).2=1/\qP T g)\/((gp (fun sp=>cA sp T e) g).2=0/\¬ qP T g))
 | [],_=>⟨.inl ⟨rfl,fun s h=>absurd h QZ⟩,.inr ⟨rfl,fun ⟨a,sp,b,e,_⟩=>by cases a <;> cases e⟩⟩
 | sp::g,h=>by
  obtain ⟨i1,i2⟩:=CC (g:=g) fun s hs=>h s (Q7 _ hs)
  rw [gp];rw [Jt (h sp Q2)];generalize gp (fun sp=>cA sp T e) g=z at i1 i2
  unfold c8
  by_cases c0:hl T sp=0
  ·rw [if_pos c0];dsimp only;refine ⟨.inr ⟨by lia,sp,Q2,by lia⟩,?_⟩
   rcases i1 with ⟨e1,a1⟩ | ⟨e1,s,hs,ns⟩
   ·exact .inl ⟨by rw [e1];lia,[],sp,g,rfl,c0,a1⟩
   ·refine .inr ⟨by rw [e1];lia,fun ⟨a,sp',b,e,h0,h1⟩=>?_⟩
    cases a with
    | nil =>
     cases e;exact ns (h1 s hs)
    | cons t a =>
     cases e;have:=h1 _ Q2;lia
  ·rw [if_neg c0]
   by_cases c1:hl T sp=1
   ·rw [if_pos c1];dsimp only;refine ⟨?_,?_⟩
    ·rcases i1 with ⟨e1,a1⟩ | ⟨e1,s,hs,ns⟩
     ·exact .inl ⟨by rw [e1],fun s hs=>by rcases Q9.mp hs with rfl | z;exact c1;exact a1 s z⟩
     ·exact .inr ⟨by rw [e1],s,Q7 _ hs,ns⟩
    ·rcases i2 with ⟨e2,a,sp',b,eg,h0,h1⟩ | ⟨e2,n2⟩
     ·refine .inl ⟨by rw [e2];lia,sp::a,sp',b,by rw [eg];rfl,h0,fun s hs=>?_⟩
      rcases Q9.mp hs with rfl | z
      ·exact c1
      ·exact h1 s z
     ·refine .inr ⟨by rw [e2];lia,fun ⟨a,sp',b,e,h0,h1⟩=>?_⟩
      cases a with
      | nil=>cases e;lia
      | cons t a=>cases e;exact n2 ⟨a,sp',b,rfl,h0,fun s hs=>h1 s (Q7 _ hs)⟩
   ·rw [if_neg c1];dsimp only;refine ⟨.inr ⟨by lia,sp,Q2,c1⟩,.inr ⟨by lia,fun ⟨a,sp',b,e,h0,h1⟩=>?_⟩⟩
    cases a with
    | nil=>cases e;lia
    | cons t a=>cases e;exact c1 (h1 _ Q2)
theorem pX:∀ {gs:List (VG)},(∀ x∈aj gs,x < e)->(bO T e gs=1/\∀ g∈gs,qP T g)\/(bO T e gs=0/\∃ g∈gs,¬ qP T g)
 | [],_=>.inl ⟨rfl,fun g h=>absurd h QZ⟩
 | g::gs,h=>by
  have i:=pX (gs:=gs) fun x hx=>h x (by obtain ⟨g,h1,h2⟩:=cu.mp hx;exact cu.mpr ⟨g,Q7 _ h1,h2⟩)
  have j:=(CC (T:=T) (e:=e) (g:=g) fun sp hs x hx=>h x (cu.mpr ⟨g,Q2,sp,hs,hx⟩)).2
  rw [<- fL] at j;have ew:bO T e (g::gs)=(fN T e g).2 * bO T e gs:=rfl;rw [ew];rcases j with ⟨j1,j2⟩ | ⟨j1,j2⟩
  ·rcases i with ⟨i1,i2⟩ | ⟨i1,g',hg,n⟩
   ·exact .inl ⟨by rw [j1,i1],fun g' hg=>by rcases Q9.mp hg with rfl | z;exact j2;exact i2 g' z⟩
   ·exact .inr ⟨by rw [i1];lia,g',Q7 _ hg,n⟩
  ·exact .inr ⟨by rw [j1];lia,g,Q2,j2⟩
structure Suf (gs:List (VG)) (st:Nat)(B:VV):Prop where
 up:B.Pairwise (· < ·)
 all:∀ x,x∈B↔x∈aj gs/\st<=x
def Suf.next {st s:Nat}(S:Suf gs st (s::B)):Suf gs (s + 1) B:=by
 obtain ⟨u1,u2⟩:=Rv.mp S.up;refine ⟨u2,fun x=>⟨fun h=>⟨((S.all x).mp (Q7 _ h)).1,u1 x h⟩,fun ⟨h1,h2⟩=>?_⟩⟩
 have:=(S.all s).mp Q2;rcases Q9.mp ((S.all x).mpr ⟨h1,by lia⟩) with z | z
 ·lia
 ·exact z
def Suf.step {st s:Nat}{B L:VV}(nd:(aj gs).Nodup)(S:Suf gs st (s::B))(hL:∀ x∈L,x < st):bO L st gs=bO (L++[s]) (s + 1) gs + bO L (s + 1) gs:=by
 have h:=(S.all s).mp Q2;have e:bO L st gs=bO L s gs:=xu (fun _ _=>Iff.rfl) fun x hx=>⟨fun z=>by
  rcases Q9.mp ((S.all x).mpr ⟨hx,z⟩) with y | y
  ·lia
  ·have:=(Rv.mp S.up).1 x y;lia,fun z=>by lia⟩
 rw [e];exact J8 nd h.1 fun z=>by have:=hL s z;lia
def Suf.nil {st:Nat}(S:Suf gs st [])(he:∀ x∈aj gs,x < e):bO L st gs=bO L e gs:=xu (fun _ _=>Iff.rfl) fun x hx=>⟨fun z=>absurd ((S.all x).mpr ⟨hx,z⟩) QZ,fun z=>by have:=he x hx;lia⟩
theorem w4 (nd:(aj gs).Nodup)(he:∀ x∈aj gs,x < e):∀ {B L:VV}{st n k:Nat},Suf gs st B->(∀ x∈L,x < st)->n < bO L st gs->∃ D,i7 gs B L n=L++D/\D.Sublist B/\bO (i7 gs B L n) e gs=1/\fJ gs (i7 gs B L n) B L k=k + n
 | [],L,st,n,k,S,hL,h=>by
  rw [S.nil he] at h;rcases pX (T:=L) he with ⟨z,_⟩ | ⟨z,_⟩
  ·exact ⟨[],by rw [RN];rfl,List.Sublist.slnil,z,by rw [fJ];lia⟩
  ·lia
 | s::B,L,st,n,k,S,hL,h=>by
  have hs:=(S.all s).mp Q2;rw [S.step nd hL] at h;rw [i7,fJ]
  by_cases c:n < bO (L++[s]) (s + 1) gs
  ·rw [if_pos c];obtain ⟨D,e1,e2,e3,e4⟩:=w4 nd he (k:=k) S.next (fun x hx=>by
    rcases QA.mp hx with z | z
    ·have:=hL x z;lia
    ·rw [QF.mp z];lia) c
   refine ⟨s::D,by rw [e1,Qs];rfl,e2.cons_cons s,e3,?_⟩
   rw [if_pos (by rw [e1];simp)]
   exact e4
  ·rw [if_neg c];obtain ⟨D,e1,e2,e3,e4⟩:=w4 nd he (n:=n - bO (L++[s]) (s + 1) gs) (k:=k + bO (L++[s]) (s + 1) gs) S.next (fun x hx=>by have:=hL x hx;lia) (by lia)
   refine ⟨D,e1,e2.cons s,e3,?_⟩;rw [if_neg (by
    rw [e1];intro z;rcases QA.mp z with z | z
    ·have:=hL s z;lia
    ·have:=(Rv.mp S.up).1 s (e2.subset z);lia),e4]
   lia
def JV {k:Nat}:fJ gs T B L k=k + fJ gs T B L 0:=by
 induction B generalizing L k with
 | nil=>rfl
 | cons s B ih =>
  rw [fJ,fJ];split
  ·exact ih
  ·rw [ih,ih (k:=0 + _)];lia
theorem xH (nd:(aj gs).Nodup)(he:∀ x∈aj gs,x < e)(hT:bO T e gs=1):∀ {B L D:VV}{st:Nat},Suf gs st B->(∀ x∈L,x < st)->T=L++D->D.Sublist B->fJ gs T B L 0 < bO L st gs/\i7 gs B L (fJ gs T B L 0)=T
 | [],L,D,st,S,hL,hD,sb=>by
  cases sb;rw [RN] at hD;rw [fJ,i7,S.nil he,<- hD,hT];exact ⟨by lia,rfl⟩
 | s::B,L,D,st,S,hL,hD,sb=>by
  have hs:=(S.all s).mp Q2;rw [S.step nd hL,fJ]
  by_cases c:s∈T
  ·rw [if_pos c];cases sb with
   | cons _ sb =>
    exfalso;rw [hD] at c;rcases QA.mp c with z | z
    ·have:=hL s z;lia
    ·have:=(Rv.mp S.up).1 s (sb.subset z);lia
   | @cons_cons D' _ _ sb =>
    obtain ⟨h1,h2⟩:=xH nd he hT (L:=L++[s]) (D:=D') S.next (fun x hx=>by
     rcases QA.mp hx with z | z
     ·have:=hL x z;lia
     ·rw [QF.mp z];lia) (by rw [hD,Qs];rfl) sb
    refine ⟨by lia,?_⟩
    rw [i7,if_pos h1];exact h2
  ·rw [if_neg c,JV];cases sb with
   | cons _ sb =>
    obtain ⟨h1,h2⟩:=xH nd he hT S.next (fun x hx=>by have:=hL x hx;lia) hD sb
    refine ⟨by lia,?_⟩
    rw [i7,if_neg (by lia),show 0 + bO (L++[s]) (s + 1) gs + fJ gs T B L 0 - bO (L++[s]) (s + 1) gs=fJ gs T B L 0 by lia]
    exact h2
   | cons_cons _ sb =>
    exfalso;exact c (by rw [hD];simp)
end
section
variable {m p:Nat}{es:VI}
def gB:aj (g::gs)=g.flatten++aj gs:=by
 unfold aj;rw [RO,RE]
theorem vA:∀ {l:VV},aj (l.map fun e=>[[e],[]])=l
 | []=>rfl
 | a::l=>by rw [QO,gB,vA];rfl
theorem vg:∀ {l:VV},aj [l.map fun e=>[e]]=l
 | []=>rfl
 | a::l=>by
  have:=vg (l:=l);unfold aj at this ⊢;simp only [RO,List.flatten_nil,RN,QO] at this ⊢;rw [this];rfl
theorem fW:∀ {gs:List (VG)},aj (gs.filter fun g=>decide (g≠[]))=aj gs
 | []=>rfl
 | g::gs=>by
  by_cases c:g=[]
  ·rw [SO (by simp [c]),fW,gB,c];rfl
  ·rw [S3 (by simpa using c),gB,gB,fW]
def ud:c∈fM m es p↔∃ n,bx es p n/\c=pc m es p n/\∀ y∈c,y∉cF m es:=by
 unfold fM;rw [QU,QB];constructor
 ·rintro ⟨⟨n,h1,rfl⟩,h2⟩;exact ⟨n,eV.mp h1,rfl,fun y hy z=>QS h2 ⟨y,hy,z⟩⟩
 ·rintro ⟨n,h1,rfl,h2⟩;exact ⟨⟨n,eV.mpr h1,rfl⟩,Qz fun ⟨y,hy,z⟩=>h2 y hy z⟩
def t9 (W:bW m es)(T:Tree m es)(hp:p < m):(fM m es p).flatten.Nodup:=by
 unfold fM;rw [U6];have nd:((dm es p).filter ((fun c=>decide (¬ ∃ y∈c,y∈cF m es)) ∘ pc m es p)).Nodup:=SK Sl (W.gd.lD p)
 exact pH T hp nd fun n hn=>eV.mp (QU.mp hn).1
def mQ {q:Nat}:q∈cF m es↔q < m/\2 < cH es q:=by
 unfold cF;rw [QU,Qv,RS]
def FQ (T:Tree m es){p q x:Nat}(hp:p∈cF m es)(hq:q∈cF m es)(ne:p≠q)(hc:c∈fM m es p)(hd:d∈fM m es q)(xc:x∈c)(xd:x∈d):False:=by
 obtain ⟨n,an,rfl,hn⟩:=ud.mp hc;obtain ⟨k,ak,rfl,hk⟩:=ud.mp hd;have lp:=(mQ.mp hp).1;have lq:=(mQ.mp hq).1;obtain ⟨lx,b1⟩:=dh.mp xc;have b2:=(dh.mp xd).2;have n1:¬ cR es p n q:=fun z=>hn q (dh.mpr ⟨lq,z⟩) hq
 have n2:¬ cR es q k p:=fun z=>hk p (dh.mpr ⟨lp,z⟩) hp
 have c1:=T.Hh lq lx an n1 b1;have c2:=T.Hh lp lx ak n2 b2;unfold cR at b1 b2;have z:ds es p q=0:=by lia
 exact ne (T.cn.zero lp lq z).symm
theorem qC (W:bW m es)(T:Tree m es):∀ {ps:VV},ps.Nodup->(∀ p∈ps,p∈cF m es)->(aj (ps.map (fM m es))).Nodup
 | [],_,_=>SA
 | p::ps,nd,h=>by
  obtain ⟨n1,n2⟩:=R8.mp nd;have hp:=h p Q2;rw [QO,gB];refine Qy.mpr ⟨t9 W T (mQ.mp hp).1,qC W T n2 fun q hq=>h q (Q7 _ hq),fun x hx y hy e=>?_⟩
  subst e;obtain ⟨c,hc,xc⟩:=RQ.mp hx;obtain ⟨g,hg,d,hd,xd⟩:=cu.mp hy;obtain ⟨q,hq,rfl⟩:=QB.mp hg;exact FQ T hp (h q (Q7 _ hq)) (fun z=>n1 (z ▸ hq)) hc hd xc xd
def iH (W:bW m es)(ht:es.length + 1=m):(aj (bM k m es)).Nodup/\∀ x∈aj (bM k m es),x < m:=by
 have T:Tree m es:=⟨W.gd,W.cn,ht⟩;have nr:∀ f:Nat->Bool,((List.range m).filter f).Nodup:=fun f=>SK Sl Ri
 have he:∀ x∈ens m es,x < m:=fun x hx=>Qv.mp (QU.mp hx).1
 unfold bM;split
 ·exact ⟨SA,fun x hx=>absurd hx QZ⟩
 split
 ·rw [vA];exact ⟨nr _,he⟩
 split
 ·rw [vg];exact ⟨nr _,he⟩
 rw [fW];refine ⟨qC W T (nr _) fun p hp=>hp,fun x hx=>?_⟩
 obtain ⟨g,hg,c,hc,xc⟩:=cu.mp hx;obtain ⟨p,hp,rfl⟩:=QB.mp hg;obtain ⟨n,_,rfl,_⟩:=ud.mp hc;exact (dh.mp xc).1
def spS (m:Nat)(gs:List (VG)):VV:=(List.range m).filter fun x=>decide (x∈aj gs)
def kC (h:∀ x∈aj gs,x < m){x:Nat}:x∈spS m gs↔x∈aj gs:=by
 unfold spS;rw [QU,Qv,RS];exact ⟨fun z=>z.2,fun z=>⟨h x z,z⟩⟩
def pO:(spS m gs).Pairwise (· < ·):=List.Pairwise.filter _ Ur
def AI (h:∀ x∈aj gs,x < m):Suf gs 0 (spS m gs):=⟨pO,fun x=>by rw [kC h];exact ⟨fun z=>⟨z,Qw _⟩,fun z=>z.1⟩⟩
def wW (nd:(aj gs).Nodup)(h:∀ x∈aj gs,x < m)(pm:S.Perm (aj gs))(up:S.Pairwise (·<=·)):S=spS m gs:=by
 refine oB ?_ up (pO.imp fun h=>Ry h)
 refine pm.trans ?_;exact (V5 nd (pO.imp fun h=>QG h)).mpr fun x=>(kC h).symm
def jU (W:bW m es)(ht:es.length + 1=m):(aj (bM k m es)).length<=60:=by
 obtain ⟨nd,hl⟩:=iH W ht (k:=k);have:=Gr.dY m _ nd hl;have:=W.le;lia
def Lc {st:Nat}:(cA sp ls st).1<=sp.length/\(cA sp ls st).2<=1:=by
 unfold cA;have h1:=Rb (fun s=>decide (s∈ls)) sp
 have h2:=Rb (fun s=>decide (st<=s)) sp
 split
 ·split
  ·exact ⟨by show 1<=_;lia,Qw _⟩
  ·exact ⟨Qw _,Qw _⟩
 ·exact ⟨h2,Q6 _⟩
theorem Ho:∀ {g:VG},(∀ sp∈g,(f sp).1<=(h sp).1/\(f sp).2<=(h sp).2)->(gp f g).1<=(gp h g).1/\(gp f g).2<=(gp h g).2
 | [],_=>⟨Q6 _,Q6 _⟩
 | sp::g,e=>by
  obtain ⟨a,b⟩:=e sp Q2;obtain ⟨c,d⟩:=Ho (g:=g) fun s hs=>e s (Q7 _ hs)
  exact ⟨SN a c,Nat.add_le_add (SN b c) (SN a d)⟩
def LP {st:Nat}:(fN ls st g).2<=(fN [] 0 g).2:=by
 rw [fL,fL];refine (Ho fun sp _=>?_).2
 rw [Ky];exact Lc
def qi (W:bW m es)(ht:es.length + 1=m)(hk:fK k){st:Nat}:∀ g∈bM k m es,(∀ sp∈g,sp.length<=60)/\(fN ls st g).2 < 2 ^ 64:=fun g hg=>by
 have h:=(tX W ht hk).2.2 g hg;exact ⟨h.1,Nat.lt_of_le_of_lt LP h.2⟩
def Mk:∀ {T:VV},T.Pairwise (· < ·)->S.Pairwise (· < ·)->(∀ x∈T,x∈S)->T.Sublist S:=by
 induction S with
 | nil =>
  intro T _ _ h;cases T with
  | nil=>exact List.Sublist.slnil
  | cons a _=>exact absurd (h a Q2) QZ
 | cons s S ih =>
  intro T ut us h;obtain ⟨u1,u2⟩:=Rv.mp us;cases T with
  | nil=>exact List.nil_sublist _
  | cons a T =>
   obtain ⟨t1,t2⟩:=Rv.mp ut;rcases Q9.mp (h a Q2) with rfl | z
   ·exact (ih t2 u2 fun x hx=>by
     rcases Q9.mp (h x (Q7 _ hx)) with y | y
     ·have:=t1 x hx;lia
     ·exact y).cons_cons a
   ·refine (ih ut u2 fun x hx=>?_).cons s
    rcases Q9.mp (h x hx) with y | y
    ·have h1:=u1 a z;rcases Q9.mp hx with w | w
     ·lia
     ·have:=t1 x w;lia
    ·exact y
structure jO (gs:List (VG)) (m:Nat)(T:VV):Prop where
 up:T.Pairwise (· < ·)
 sub:∀ x∈T,x∈aj gs
 one:bO T m gs=1
def MH (nd:(aj gs).Nodup)(he:∀ x∈aj gs,x < m){n:Nat}(h:n < bO [] 0 gs):jO gs m (i7 gs (spS m gs) [] n)/\fJ gs (i7 gs (spS m gs) [] n) (spS m gs) [] 0=n:=by
 obtain ⟨D,e1,e2,e3,e4⟩:=w4 nd he (k:=0) (AI he) (fun x hx=>absurd hx QZ) h
 rw [List.nil_append] at e1;rw [Tj] at e4;refine ⟨⟨?_,fun x hx=>?_,e3⟩,e4⟩
 ·rw [e1];exact pO.sublist e2
 ·rw [e1] at hx;exact (kC he).mp (e2.subset hx)
def KA (nd:(aj gs).Nodup)(he:∀ x∈aj gs,x < m)(C:jO gs m T):fJ gs T (spS m gs) [] 0 < bO [] 0 gs/\i7 gs (spS m gs) [] (fJ gs T (spS m gs) [] 0)=T :=
 xH nd he C.one (AI he) (fun x hx=>absurd hx QZ) rfl (Mk C.up pO fun x hx=>(kC he).mpr (C.sub x hx))
end
end PB
namespace Dv
open PySem
def Hq {α:Type}{l:List α}{enc:α->PyData}{c:DT}{Q:VO->En->Prop}(I:Nat->VO->En->Prop)(h1:I 0 ys E1)(hs:∀ (J:VO->En->Prop) i a ys E,l[i]?=some a->(∀ ys' E',I (i + 1) ys' E'->J ys' E')->I i ys E->∃ E2,cG tg (enc a) E=some E2/\c x E2 fun E3 b=>if b=true then r x ys E3 J else J ys E3)
  (he:∀ ys E,I l.length ys E->Q ys E):L6 (l.map enc) tg c r x ys E1 Q:=by
 refine ⟨I,h1,fun i d ys E hd hi=>?_,by rw [Q8];exact he⟩
 rw [QN] at hd;obtain ⟨a,ha,rfl⟩:=S7.mp hd;exact hs _ i a ys E ha (fun _ _ h=>h) hi
end Dv
namespace PB
open PySem L2 Dv Gr
def pN:bD:=fun dd Q x=>∃ gs,dd=[dS gs]/\(aj gs).length<=60/\∀ S:VV,S.Perm (aj gs)->S.Pairwise (·<=·)->Q [] (.ow false) (nD S)
def ko {gs:List (VG)}{i:Nat}{g:VG}(h:gs[i]?=some g):aj (gs.take (i + 1))=aj (gs.take i)++g.flatten:=by
 rw [take_snoc h];unfold aj;rw [RE,RE,Uh]
def vQ {i:Nat}:(aj (gs.take i)).length<=(aj gs).length:=by
 have:aj gs=aj (gs.take i)++aj (gs.drop i):=by
  unfold aj;rw [<- RE,<- RE,TH]
 rw [this,QE];lia
def Lq:∀ dd Q x,pN dd Q x->nO (bq [false] Q x) (ini [false] dd++List.replicate 3 none):=by
 rintro _ Q x ⟨gs,rfl,hl,q⟩;unfold nO;rfl';refine NS _ (fun i ys E=>ys=(aj (gs.take i)).map iD/\∃ o1 o2 o3:Va,E=[some (.sh,dS gs),o1,o2,o3]/\bu o1=true/\bu o2=true/\bu o3=true) rfl ⟨rfl,none,none,none,rfl,rfl,rfl,rfl⟩ ?_ ?_
 ·rintro J i g _ _ hi hJ ⟨rfl,o1,o2,o3,rfl,h1,h2,h3⟩;have l1:=vQ (gs:=gs) (i:=i + 1);rw [ko hi,QE] at l1;simp! [h1];refine Hq (fun j ys E=>ys=(aj (gs.take i)++(g.take j).flatten).map iD/\∃ o2 o3:Va,E=[some (.sh,dS gs),some (.sh,gD g),o2,o3]/\bu o2=true/\bu o3=true) ⟨by simp,o2,o3,rfl,h2,h3⟩ ?_ ?_
  ·rintro J j sp _ _ hj hJ ⟨rfl,o2,o3,rfl,h2,h3⟩;have e1:(g.take (j + 1)).flatten=(g.take j).flatten++sp:=by rw [take_snoc hj,RE,Uh]
   have l2:(g.take (j + 1)).flatten.length<=g.flatten.length:=by
    have:g.flatten=(g.take (j + 1)).flatten++(g.drop (j + 1)).flatten:=by rw [<- RE,TH]
    rw [this,QE];lia
   rw [e1,QE] at l2;simp! [h2];refine Hq (fun n ys E=>ys=(aj (gs.take i)++(g.take j).flatten++sp.take n).map iD/\∃ o3:Va,E=[some (.sh,dS gs),some (.sh,gD g),some (.sh,nD sp),o3]/\bu o3=true) ⟨by simp,o3,rfl,h3⟩ ?_ ?_
   ·rintro J n s _ _ hn hJ ⟨rfl,o3,rfl,h3⟩;have l3:=List.length_take_le n sp;have l4:(sp.take n).length<=sp.length:=by rw [Rq];lia
    simp! [h3];refine ⟨by simp only [QE,Q8];lia,hJ _ _ ⟨?_,_,rfl,rfl⟩⟩
    rw [take_snoc hn];simp only [QY,Qs];rfl
   ·rintro _ _ ⟨rfl,o3,rfl,h3⟩;refine hJ _ _ ⟨?_,_,_,rfl,rfl,h3⟩;rw [RW,e1,Qs]
  ·rintro _ _ ⟨rfl,o2,o3,rfl,h2,h3⟩;refine hJ _ _ ⟨?_,_,_,_,rfl,rfl,h2,h3⟩;rw [RW,ko hi]
 ·rintro _ _ ⟨rfl,o1,o2,o3,rfl,h1,h2,h3⟩;rw [RW];refine ⟨[some (.sh,dS gs),none,none,none],?_,?_⟩
  ·show (if bL [some (.sh,dS gs),o1,o2,o3] 1=true then (if bL [some (.sh,dS gs),none,o2,o3] 2=true then (if bL [some (.sh,dS gs),none,none,o3] 3=true then _ else none) else none) else none)=_
   rw [<- ku,<- ku,<- ku,if_pos (show gh [some (.sh,dS gs),o1,o2,o3] 1=true from h1),if_pos (show gh [some (.sh,dS gs),none,o2,o3] 2=true from h2),if_pos (show gh [some (.sh,dS gs),none,none,o3] 3=true from h3)]
   rfl
  rfl';refine mV (by lia) fun S pm up=>?_
  rfl';exact q S pm up
def uP:bD:=fun dd Q x=>∃ m es k,∃ n:Int,dd=[wD m es,.str k,.int n]/\bW m es/\es.length + 1=m/\fK k/\(∀ j:Nat,n=j->j < bO [] 0 (bM k m es)->Q [] (.ow false) (nD (i7 (bM k m es) (spS m (bM k m es)) [] j)))/\(¬ (0<=n/\n < bO [] 0 (bM k m es))->x "NoSuch" .none)
def M6:∀ dd Q x,uP dd Q x->mj pK lO pN (bq [false,false,false] Q x) (ini [false,false,false] dd++List.replicate 5 none):=by
 rintro _ Q x ⟨m,es,k,n,rfl,W,ht,hk,q1,q2⟩;obtain ⟨nd,he⟩:=iH W ht (k:=k);have hsl:=jU W ht (k:=k);unfold mj;rfl';refine ⟨m,es,k,rfl,W,ht,?_⟩;rfl'
 by_cases c:0<=n
 ·rw [if_pos c];obtain ⟨j,rfl⟩:=Int.eq_ofNat_of_zero_le c;refine ⟨by lia,bM k m es,[],0,rfl,qi W ht hk,?_⟩
  rfl'
  by_cases c2:j < bO [] 0 (bM k m es)
  ·rw [if_neg (by lia)]
   have q:=q1 j rfl c2;generalize hgs:bM k m es=gs at *;refine ⟨by lia,gs,rfl,hsl,fun S pm up=>?_⟩
   have eS:=wW nd he pm up;subst eS;have hl2:=pm.length_eq;rfl';refine jc (fun i E=>∃ (L:VV) (a:Nat)(o6 o7:Va),E=[some (.sh,wD m es),some (.sh,.str k),some (.sh,iD j),some (.ow false,dS gs),some (.ow false,nD L),some (.sh,iD a),o6,o7]/\bu o6=true/\bu o7=true/\L.length<=i/\i7 gs ((spS m gs).drop i) L a=i7 gs (spS m gs) [] j) ⟨[],j,none,none,rfl,rfl,rfl,by simp,rfl⟩ ?_ ?_
   ·rintro J i s _ hi hJ ⟨L,a,o6,o7,rfl,h6,h7,hL,hu⟩;have li:=(RT.mp hi).1;have ed:(spS m gs).drop i=s::(spS m gs).drop (i + 1):=by
     rw [List.drop_eq_getElem_cons li,(RT.mp hi).2]
    rw [ed,i7] at hu;simp! [h6,h7];refine ⟨by lia,by lia,gs,L++[s],s + 1,by show _=[dS gs,PyData.list ((L++[s]).map iD),_];rw [QY];rfl,hgs ▸ qi W ht hk,?_⟩
    generalize hw:bO (L++[s]) (s + 1) gs=w at hu;simp! [h7]
    by_cases ca:a < w
    ·rw [if_pos ca] at hu ⊢;rfl';refine ⟨by lia,hJ _ ⟨L++[s],a,some (.sh,iD s),some (.sh,iD w),?_,rfl,rfl,by simp;lia,hu⟩⟩
     show _=[_,_,_,_,some (Kd.ow false,PyData.list ((L++[s]).map iD)),_,_,_];rw [QY];rfl
    ·rw [if_neg ca] at hu ⊢;rfl';rw [show (a:Int) - (w:Int)=((a - w:Nat):Int) by lia]
     exact hJ _ ⟨L,a - w,_,_,rfl,rfl,rfl,by lia,hu⟩
   ·rintro _ ⟨L,a,o6,o7,rfl,h6,h7,hL,hu⟩;rw [Uc,i7] at hu;rw [hu];rfl';exact q
  ·rw [if_pos (by lia)]
   exact q2 fun z=>c2 (by lia)
 ·rw [if_neg c];exact q2 fun z=>c z.1
def up_eq {a b:VW}(ha:a.Pairwise (· < ·))(hb:b.Pairwise (· < ·))(h:∀ x,x∈a↔x∈b):a=b :=
 List.Perm.eq_of_pairwise (le:=fun x y:Int=>x<=y) (fun x y _ _ h k=>by lia) (ha.imp fun h=>by lia) (hb.imp fun h=>by lia) ((V5 (ha.imp fun h=>by lia) (hb.imp fun h=>by lia)).mpr h)
def uO {T:VW}:dl 8 (.list (T.map .int))=true:=by
 show (T.map PyData.int).all (dl 7)=true;rw [SH];exact QK.mpr fun _ _=>rfl
def zh {a b:VW}:PyData.list (a.map .int)=PyData.list (b.map .int)↔a=b:=⟨fun h=>map_inj (fun _ _ h=>PyData.int.inj h) (PyData.list.inj h),fun h=>by rw [h]⟩
def Hl (gs:List (VG)) (m:Nat)(T:VW):Prop:=∃ L:VV,T=L.map (fun n:Nat=>(n:Int))/\jO gs m L
def Br:bD:=fun dd Q x=>∃ gs m,∃ T:VW,dd=[dS gs,.list (T.map .int),iD m]/\T.length<=63/\(aj gs).Nodup/\(∀ x∈aj gs,x < m)/\(aj gs).length<=60/\(∀ ls st,∀ g∈gs,(∀ sp∈g,sp.length<=60)/\(fN ls st g).2 < 2 ^ 64)/\(Hl gs m T->Q [] .sh (.bool true))/\(¬ Hl gs m T->Q [] .sh (.bool false))
def Kw:∀ dd Q x,Br dd Q x->lZ pN lO (bq [false,false,false] Q x) (ini [false,false,false] dd++List.replicate 2 none):=by
 rintro _ Q x ⟨gs,m,T,rfl,hT,nd,he,hsl,hw,q1,q2⟩;unfold lZ;rfl';refine ⟨gs,rfl,hsl,fun S pm up=>?_⟩
 have eS:=wW nd he pm up;subst eS;rfl';refine ⟨T,rfl,hT,fun ms h1 h2=>?_⟩
 rfl';refine ⟨⟨uO,uO⟩,?_⟩
 by_cases c:T=ms
 ·rw [if_neg fun z=>z (zh.mpr c)]
  refine eW (fun t=>.bool (decide (PyData.int t∈(spS m gs).map iD))) rfl (fun t htm I hI=>?_) ?_ (by lia)
  ·rfl';exact ⟨⟨nj,rfl⟩,hI _ rfl⟩
  ·rw [show T.map (fun t=>PyData.bool (decide (PyData.int t∈(spS m gs).map iD)))=(T.map fun t=>decide (PyData.int t∈(spS m gs).map iD)).map PyData.bool by rw [Qt];rfl]
   rfl';refine Mm ?_;rfl';have key:∀ t:Int,PyData.int t∈(spS m gs).map iD↔∃ s∈spS m gs,(s:Int)=t:=fun t=>by
    rw [QB];exact ⟨fun ⟨s,h1,h2⟩=>⟨s,h1,PyData.int.inj h2⟩,fun ⟨s,h1,h2⟩=>⟨s,h1,by rw [<- h2]⟩⟩
   by_cases ca:(T.all fun a=>id (decide (PyData.int a∈(spS m gs).map iD)))=true
   ·rw [ca,if_neg (by decide)]
    have hin:∀ t∈T,∃ s∈spS m gs,(s:Int)=t:=fun t ht=>by
     exact (key t).mp (QS (QK.mp ca t ht))
    have eT:T=(T.map Int.toNat).map (fun n:Nat=>(n:Int)):=by
     rw [Qt]
     conv=>lhs;rw [<- List.map_id T]
     refine Rj fun t ht=>?_
     obtain ⟨s,_,rfl⟩:=hin t ht;rfl
    generalize hTn:T.map Int.toNat=L at eT;have hL:∀ s∈L,s∈aj gs:=fun s hs=>by
     obtain ⟨s',h1,h2⟩:=hin s (by rw [eT];exact QB.mpr ⟨s,hs,rfl⟩)
     have:s'=s:=by lia
     subst this;exact (kC he).mp h1
    have uL:L.Pairwise (· < ·):=by
     rw [<- c,eT,Ud] at h2;exact h2.imp fun h=>by lia
    have eD:PyData.list (T.map PyData.int)=nD L:=by rw [eT,Qt];rfl
    rw [eD];refine ⟨gs,L,m,rfl,hw L m,?_⟩;rfl'
    by_cases co:bO L m gs=1
    ·have:=q1 ⟨L,eT,uL,hL,co⟩;rw [co];exact this
    ·have:=q2 fun ⟨L',e',C⟩=>co (by
      have:L'=L:=map_inj (fun a b h=>by lia) (e'.symm.trans eT)
      rw [<- this];exact C.one)
     rw [Rf (by lia)]
     exact this
   ·rw [Bool.eq_false_iff.mpr ca,if_pos rfl];have:=q2 fun ⟨L,e,C⟩=>ca (QK.mpr fun t ht=>by
     rw [e] at ht;obtain ⟨s,hs,rfl⟩:=QB.mp ht;exact Qz ((key _).mpr ⟨s,(kC he).mpr (C.sub s hs),rfl⟩))
    exact this
 ·rw [if_pos fun z=>c (zh.mp z)]
  refine q2 fun ⟨L,e,C⟩=>c (up_eq ?_ h2 fun x=>(h1 x).symm)
  rw [e,Ud];exact C.up.imp fun h=>by lia
def Bt:bD:=fun dd Q x=>∃ m es k,∃ T:VW,dd=[wD m es,.str k,.list (T.map .int)]/\bW m es/\es.length + 1=m/\fK k/\T.length<=63/\(∀ L:VV,T=L.map (fun n:Nat=>(n:Int))->jO (bM k m es) m L->Q [] .sh (iD (fJ (bM k m es) L (spS m (bM k m es)) [] 0)))/\(¬ Hl (bM k m es) m T->x "NotOne" .none)
def KO:∀ dd Q x,Bt dd Q x->iO pK Br pN lO (bq [false,false,false] Q x) (ini [false,false,false] dd++List.replicate 4 none):=by
 rintro _ Q x ⟨m,es,k,T,rfl,W,ht,hk,hT,q1,q2⟩;obtain ⟨nd,he⟩:=iH W ht (k:=k);have hsl:=jU W ht (k:=k);unfold iO;rfl';refine ⟨m,es,k,rfl,W,ht,?_⟩;rfl';refine ⟨bM k m es,m,T,rfl,hT,nd,he,hsl,fun ls st=>qi W ht hk,fun hC=>?_,fun hC=>?_⟩
 ·obtain ⟨L,rfl,C⟩:=id hC;have q:=q1 L rfl C;generalize hgs:bM k m es=gs at *;rfl';rw [show PyData.list (List.map PyData.int (L.map fun n:Nat=>(n:Int)))=nD L by rw [Qt];rfl]
  rw [Q8] at hT;refine ⟨by lia,gs,rfl,hsl,fun S pm up=>?_⟩
  have eS:=wW nd he pm up;subst eS;have hl2:=pm.length_eq;rfl';refine jc (fun i E=>∃ (sh:VV) (a:Nat)(o6:Va),E=[some (.sh,wD m es),some (.sh,.str k),some (.sh,nD L),some (.ow false,dS gs),some (.sh,iD a),some (.ow false,nD sh),o6]/\bu o6=true/\sh.length<=i/\fJ gs L ((spS m gs).drop i) sh a=fJ gs L (spS m gs) [] 0) ⟨[],0,none,rfl,rfl,by simp,rfl⟩ ?_ ?_
  ·rintro J i s _ hi hJ ⟨sh,a,o6,rfl,h6,hL,hu⟩;have li:=(RT.mp hi).1;have ed:(spS m gs).drop i=s::(spS m gs).drop (i + 1):=by
    rw [List.drop_eq_getElem_cons li,(RT.mp hi).2]
   rw [ed,fJ] at hu;simp! [h6];refine ⟨⟨nj,rfl⟩,?_⟩
   by_cases cs:s∈L
   ·rw [if_pos cs] at hu;rw [if_pos (ki.mpr cs)];rfl';refine ⟨by lia,hJ _ ⟨sh++[s],a,some (.sh,iD s),?_,rfl,by simp;lia,hu⟩⟩
    show _=[_,_,_,_,_,some (Kd.ow false,PyData.list ((sh++[s]).map iD)),_];rw [QY];rfl
   ·rw [if_neg cs] at hu;rw [if_neg fun z=>cs (ki.mp z)]
    rfl';refine ⟨by lia,by lia,gs,sh++[s],s + 1,by show _=[dS gs,PyData.list ((sh++[s]).map iD),_];rw [QY];rfl,hgs ▸ qi W ht hk,?_⟩
    generalize hw:bO (sh++[s]) (s + 1) gs=w at hu;rfl';exact hJ _ ⟨sh,a + w,some (.sh,iD s),rfl,rfl,by lia,hu⟩
  ·rintro _ ⟨sh,a,o6,rfl,h6,hL,hu⟩;rw [Uc,fJ] at hu;rw [hu];rfl';exact q
 ·rfl';exact q2 hC
section
variable {gs:List (VG)}{T:VV}{m:Nat}
theorem Aw:∀ {g:VG},(∀ s∈g,hl T s<=1)->(g.map (hl T)).sum<=g.length/\((g.map (hl T)).sum=g.length->∀ s∈g,hl T s=1)
 | [],_=>⟨Q6 _,fun _ s h=>absurd h QZ⟩
 | s::g,h=>by
  obtain ⟨i,j⟩:=Aw (g:=g) fun x hx=>h x (Q7 _ hx)
  have hs:=h s Q2;rw [QO,Rk,QH];refine ⟨by lia,fun e x hx=>?_⟩
  rcases Q9.mp hx with rfl | z
  ·lia
  ·exact j (by lia) x z
theorem uT:∀ {g:VG},(∀ s∈g,hl T s=1)->(g.map (hl T)).sum=g.length
 | [],_=>rfl
 | s::g,h=>by
  rw [QO,Rk,QH,uT fun x hx=>h x (Q7 _ hx),h s Q2]
  lia
def uo:∀ {g:VG},qP T g↔(∀ s∈g,hl T s<=1)/\(g.map (hl T)).sum + 1=g.length:=by
 intro g;constructor
 ·rintro ⟨a,sp,b,rfl,h0,h1⟩;refine ⟨fun s hs=>?_,?_⟩
  ·rcases QA.mp hs with z | z
   ·exact Sg (h1 s (QA.mpr (.inl z)))
   ·rcases Q9.mp z with rfl | z
    ·lia
    ·exact Sg (h1 s (QA.mpr (.inr z)))
  ·rw [QY,QO,List.sum_append,Rk,QE,QH,h0,uT fun s hs=>h1 s (QA.mpr (.inl hs)),uT fun s hs=>h1 s (QA.mpr (.inr hs))]
   lia
 ·induction g with
  | nil=>rintro ⟨_,e⟩;cases e
  | cons s g ih =>
   rintro ⟨h,e⟩;have hs:=h s Q2;have hg:∀ x∈g,hl T x<=1:=fun x hx=>h x (Q7 _ hx)
   rw [QO,Rk,QH] at e
   by_cases c:hl T s=0
   ·exact ⟨[],s,g,rfl,c,(Aw hg).2 (by lia)⟩
   ·obtain ⟨a,sp,b,rfl,h0,h1⟩:=ih ⟨hg,by lia⟩
    refine ⟨s::a,sp,b,rfl,h0,fun x hx=>?_⟩
    rcases Q9.mp hx with rfl | z
    ·lia
    ·exact h1 x z
def qP.perm (h:qP T g)(p:g.Perm g'):qP T g':=by
 rw [uo] at h ⊢;exact ⟨fun s hs=>h.1 s (p.mem_iff.mpr hs),by rw [<- p.length_eq,<- (p.map (hl T)).sum_nat];exact h.2⟩
def jO.OO (C:jO gs m T)(he:∀ x∈aj gs,x < m):∀ g∈gs,qP T g:=by
 rcases pX (T:=T) he with ⟨_,h⟩ | ⟨z,_⟩
 ·exact h
 ·have:=C.one;lia
def jO.of (he:∀ x∈aj gs,x < m)(up:T.Pairwise (· < ·))(sub:∀ x∈T,x∈aj gs)(h:∀ g∈gs,qP T g):jO gs m T:=by
 rcases pX (T:=T) he with ⟨z,_⟩ | ⟨_,g,hg,n⟩
 ·exact ⟨up,sub,z⟩
 ·exact absurd (h g hg) n
def CG {l p:Nat}(nd:sp.Nodup)(T':VV)(hT:∀ x,x∈T'↔(x∈T/\x≠l)\/x=p)(hl1:l∈T)(hp:p∉T):hl T' sp + (if l∈sp then 1 else 0)=hl T sp + (if p∈sp then 1 else 0):=by
 have ne:l≠p:=fun z=>hp (z ▸ hl1)
 induction sp with
 | nil=>simp [hl]
 | cons a sp ih =>
  obtain ⟨n1,n2⟩:=R8.mp nd;have ih:=ih n2;have hc:∀ T:VV,hl T (a::sp)=(if a∈T then 1 else 0) + hl T sp:=fun T=>by
   unfold hl
   by_cases c:a∈T
   ·rw [S3 (by simpa using c),QH,if_pos c];lia
   ·rw [SO (by simpa using c),if_neg c];lia
  rw [hc,hc]
  by_cases al:a=l
  ·subst al;have e1:¬ a∈T':=fun z=>by
    rcases (hT a).mp z with y | y
    ·exact y.2 rfl
    ·exact ne y
   rw [if_neg e1,if_pos hl1,if_pos Q2];rw [if_neg n1] at ih;have:(p∈a::sp)↔p∈sp:=by rw [Q9];exact ⟨fun z=>z.resolve_left fun y=>ne y.symm,.inr⟩
   simp only [this];lia
  ·by_cases ap:a=p
   ·subst ap;rw [if_pos ((hT a).mpr (.inr rfl)),if_neg hp,if_pos (Q2 (a:=a))];rw [if_neg n1] at ih;have:(l∈a::sp)↔l∈sp:=by rw [Q9];exact ⟨fun z=>z.resolve_left fun y=>al y.symm,.inr⟩
    simp only [this];lia
   ·have e1:a∈T'↔a∈T:=by rw [hT a];exact ⟨fun z=>(z.resolve_right ap).1,fun z=>.inl ⟨z,al⟩⟩
    have e2:(l∈a::sp)↔l∈sp:=by rw [Q9];exact ⟨fun z=>z.resolve_left fun y=>al y.symm,.inr⟩
    have e3:(p∈a::sp)↔p∈sp:=by rw [Q9];exact ⟨fun z=>z.resolve_left fun y=>ap y.symm,.inr⟩
    simp only [e1,e2,e3];lia
def sum_in {g:VG}{x:Nat}(nd:g.flatten.Nodup):(g.map fun s=>if x∈s then 1 else 0).sum=if x∈g.flatten then 1 else 0:=by
 induction g with
 | nil=>simp
 | cons s g ih =>
  rw [RO] at nd ⊢;obtain ⟨n1,n2,n3⟩:=Qy.mp nd;rw [QO,Rk,ih n2]
  by_cases c:x∈s
  ·rw [if_pos c,if_neg fun z=>n3 x c x z rfl,if_pos (QA.mpr (.inl c))]
  ·rw [if_neg c]
   by_cases d:x∈g.flatten
   ·rw [if_pos d,if_pos (QA.mpr (.inr d))]
   ·rw [if_neg d,if_neg fun z=>(QA.mp z).elim c d]
theorem rD {α:Type}{f g:α->Nat}:∀ {l:List α},(l.map fun x=>f x + g x).sum=(l.map f).sum + (l.map g).sum
 | []=>rfl
 | a::l=>by rw [QO,QO,QO,Rk,Rk,Rk,rD];lia
def vm (nd:(aj gs).Nodup)(hg:g∈gs):g.flatten.Nodup:=by
 obtain ⟨A,B,rfl⟩:=TQ hg;unfold aj at nd;rw [RE,RO,RE,RE] at nd;exact (Qy.mp (Qy.mp nd).2.1).1
def uI (nd:(aj gs).Nodup)(hg:g∈gs)(hg':g'∈gs){x:Nat}(h:x∈g.flatten)(h':x∈g'.flatten):g=g':=by
 obtain ⟨A,B,rfl⟩:=TQ hg;unfold aj at nd;rw [RE,RO,RE,RE] at nd;obtain ⟨_,n2,n3⟩:=Qy.mp nd;obtain ⟨_,_,n4⟩:=Qy.mp n2;have fl:∀ D:List (VG),g'∈D->x∈D.flatten.flatten:=fun D hD=>by
  obtain ⟨s,hs,xs⟩:=RQ.mp h';exact cu.mpr ⟨g',hD,s,hs,xs⟩
 rcases QA.mp hg' with z | z
 ·exact absurd rfl (n3 x (fl A z) x (QA.mpr (.inl h)))
 ·rcases Q9.mp z with rfl | z
  ·rfl
  ·exact absurd rfl (n4 x h x (fl B z))
def jO.move (nd:(aj gs).Nodup)(he:∀ x∈aj gs,x < m)(C:jO gs m T){T':VV}{l p:Nat}(hT:∀ x,x∈T'↔(x∈T/\x≠l)\/x=p)(up:T'.Pairwise (· < ·))(hl1:l∈T)(hp:p∉T)(hg:g∈gs)(hs:s∈g)(ht:t∈g)(ls:l∈s)(pt:p∈t)(ok:t=s\/hl T t=0):jO gs m T':=by
 refine .of he up (fun x hx=>?_) fun g' hg'=>?_
 ·rcases (hT x).mp hx with ⟨z,_⟩ | rfl
  ·exact C.sub x z
  ·exact cu.mpr ⟨g,hg,t,ht,pt⟩
 ·have h:=uo.mp (C.OO he g' hg');have nd':=vm nd hg';have leaf:∀ u∈g',u.Nodup:=fun u hu=>by
   obtain ⟨a,b,rfl⟩:=TQ hu;rw [RE,RO] at nd';exact (Qy.mp (Qy.mp nd').2.1).1
  have e:(g'.map (hl T')).sum + (g'.map fun s=>if l∈s then 1 else 0).sum=(g'.map (hl T)).sum + (g'.map fun s=>if p∈s then 1 else 0).sum:=by
   rw [<- rD,<- rD];congr 1;exact Rj fun u hu=>CG (leaf u hu) T' hT hl1 hp
  rw [sum_in nd',sum_in nd'] at e;have lf:l∈g.flatten:=RQ.mpr ⟨s,hs,ls⟩;have pf:p∈g.flatten:=RQ.mpr ⟨t,ht,pt⟩;have ee:(if l∈g'.flatten then 1 else 0)=if p∈g'.flatten then 1 else 0:=by
   by_cases c:g'=g
   ·rw [c,if_pos lf,if_pos pf]
   ·rw [if_neg fun z=>c (uI nd hg' hg z lf),if_neg fun z=>c (uI nd hg' hg z pf)]
  refine uo.mpr ⟨fun u hu=>?_,by lia⟩
  have o:=CG (leaf u hu) T' hT hl1 hp;have h1:=h.1 u hu
  by_cases pu:p∈u
  ·have eg:g'=g:=uI nd hg' hg (RQ.mpr ⟨u,hu,pu⟩) pf;subst eg;have eu:u=t:=by
    obtain ⟨a,b,rfl⟩:=TQ hu;rw [RE,RO] at nd';obtain ⟨_,n2,n3⟩:=Qy.mp nd';obtain ⟨_,_,n4⟩:=Qy.mp n2;rcases QA.mp ht with z | z
    ·exact absurd rfl (n3 p (RQ.mpr ⟨t,z,pt⟩) p (QA.mpr (.inl pu)))
    ·rcases Q9.mp z with rfl | z
     ·rfl
     ·exact absurd rfl (n4 p pu p (RQ.mpr ⟨t,z,pt⟩))
   subst eu;rcases ok with rfl | z
   ·rw [if_pos ls,if_pos pu] at o;lia
   ·rw [if_pos pu] at o;split at o <;> lia
  ·rw [if_neg pu] at o;split at o <;> lia
theorem ux:∀ {l:VV},(∀ a∈l,0 < a)->0 < dJ l
 | [],_=>Nat.one_pos
 | a::l,h=>Nat.mul_pos (h a Q2) (ux fun x hx=>h x (Q7 _ hx))
def Ka {a:Nat}(h:∀ x∈l,0 < x):0 < but (a::l):=QT (ux h) (by show dJ l<=dJ l + a * but l;lia)
theorem Af:∀ {gs:List (VG)},bO [] 0 gs<=2 ^ (aj gs).length
 | []=>Q6 1
 | g::gs=>by
  have i:=Af (gs:=gs);have ew:bO [] 0 (g::gs)=(fN [] 0 g).2 * bO [] 0 gs:=rfl;rw [ew,gB,QE,Nat.pow_add,yj];refine SN (QW uK ?_) i;rw [List.length_flatten];exact Q6 _
def JF (W:bW m es)(ht:es.length + 1=m)(hk:fK k):0 < bO [] 0 (bM k m es):=by
 have Tr:Tree m es:=⟨W.gd,W.cn,ht⟩;unfold bO;refine ux fun x hx=>?_
 obtain ⟨g,hg,rfl⟩:=QB.mp hx;rw [yj];have hne:=(tX W ht hk).2.1 g hg;unfold bM at hg;split at hg
 ·exact absurd hg QZ
 split at hg
 ·obtain ⟨e,_,rfl⟩:=QB.mp hg;show 0 < but [1,0];decide
 have pos:∀ c∈g,0 < c.length:=by
  split at hg
  ·rw [QF.mp hg];intro c hc;obtain ⟨e,_,rfl⟩:=QB.mp hc;exact Nat.one_pos
  ·obtain ⟨p,hp,rfl⟩:=QB.mp (QU.mp hg).1;exact (ye W Tr (Qv.mp (QU.mp hp).1)).pos
 cases g with
 | nil=>exact absurd rfl hne
 | cons s g =>
  refine Ka fun x hx=>?_
  obtain ⟨c,hc,rfl⟩:=QB.mp hx;exact pos c (Q7 _ hc)
end
abbrev zI (L:VV):VW:=L.map fun n:Nat=>(n:Int)
def Lw:PyData.list ((zI L).map .int)=nD L:=by unfold zI;rw [Qt];rfl
def Eo (h:zI L=zI T):L=T:=map_inj (fun a b h=>by lia) h
def Oj {m:Nat}:Hl gs m (zI L)↔jO gs m L:=⟨fun ⟨T,e,C⟩=>Eo e ▸ C,fun C=>⟨L,rfl,C⟩⟩
def qe:bD:=fun dd Q x=>∃ m es k L,dd=[wD m es,.str k,nD L]/\bW m es/\es.length + 1=m/\fK k/\L.length<=63/\(jO (bM k m es) m L->Q [] .sh (iD (fJ (bM k m es) L (spS m (bM k m es)) [] 0)))/\(¬ jO (bM k m es) m L->Q [] .sh .none)
def JA:∀ dd Q x,qe dd Q x->jf Bt (bq [false,false,false] Q x) (ini [false,false,false] dd++List.replicate 1 none):=by
 rintro _ Q x ⟨m,es,k,L,rfl,W,ht,hk,hL,q1,q2⟩;unfold jf;rfl';refine ⟨m,es,k,zI L,by rw [Lw],W,ht,hk,by unfold zI;rw [Q8];exact hL,fun T e C=>?_,fun nC=>?_⟩
 ·have:=Eo e;subst this;have q:=q1 C;rfl';exact q
 ·have q:=q2 fun C=>nC (Oj.mpr C)
  rfl';exact ⟨by decide,q⟩
def nu:dl 8 (nD L)=true:=by rw [<- Lw];exact uO
def Be:bD:=fun dd Q x=>∃ m es k T l p,dd=[wD m es,.str k,nD T,iD l,iD p]/\bW m es/\es.length + 1=m/\fK k/\T.length<=60/\(∀ T':VV,T'.Perm (T.filter (fun x=>decide (¬ x=l))++[p])->T'.Pairwise (·<=·)->jO (bM k m es) m T')/\Q [] .sh (.bool true)
def KL:∀ dd Q x,Be dd Q x->ef qe uP (bq [false,false,false,false,false] Q x) (ini [false,false,false,false,false] dd++List.replicate 3 none):=by
 rintro _ Q x ⟨m,es,k,T,l,p,rfl,W,ht,hk,hT,hC,q⟩;obtain ⟨nd,he⟩:=iH W ht (k:=k);have hf:=Rb (fun x=>decide (¬ x=l)) T
 unfold ef;rfl';refine cM (fun x=>if decide (¬ x=l)=true then some (iD x) else none) rfl (fun x hx I hI=>?_) ?_ (by lia)
 ·simp only [dv,dw,dx,dy,dz,Nat.reduceBEq] at hI ⊢;split
  ·rename_i c;rw [if_pos c] at hI;exact hI _ rfl
  ·rename_i c;rw [if_neg c] at hI;exact hI _ rfl
 ·rw [bI];rfl';rw [<- u5];refine ⟨by lia,by lia,mV (by simp only [QE,Rm];lia) fun T' pm up=>?_⟩
  have C:=hC T' pm up;have hl':T'.length<=61:=by rw [pm.length_eq,QE,Rm];lia
  rfl';refine ⟨m,es,k,T',rfl,W,ht,hk,by lia,fun _=>?_,fun nC=>absurd C nC⟩
  obtain ⟨r1,r2⟩:=KA nd he C;generalize hr:fJ (bM k m es) T' (spS m (bM k m es)) [] 0=r at r1 r2;rfl';refine ⟨m,es,k,r,rfl,W,ht,hk,fun j e hj=>?_,fun z=>absurd ⟨by lia,by lia⟩ z⟩
  have ej:j=r:=by lia
  subst ej;rw [r2];rfl';exact ⟨⟨nu,nu⟩,q⟩
structure Rw (gs rs:List (VG)):Prop where
 to:∀ r∈rs,∃ g∈gs,r.Perm g
 all:∀ x,x∈aj rs↔x∈aj gs
 len:rs.length<=60
 few:(aj rs).length<=60
def wz:bD:=fun dd Q x=>∃ (a b:Int),∃ m es k rs T,dd=[jQ a b,wD m es,.str k,dS rs,nD T]/\bW m es/\es.length + 1=m/\fK k/\Rw (bM k m es) rs/\(∀ r∈rs,∀ s∈r,s≠[])/\jO (bM k m es) m T/\0<=b/\b < 2147483647/\∀ a' b',0<=b'->b' < 2147483647->Q [jQ a' b'] .sh (.bool true)
abbrev Ct (a b:Int) (m:Nat)(es:VI) (k:Str)(rs:List (VG))(T:VV)(r:En):En:=some (.ow true,jQ a b)::some (.sh,wD m es)::some (.sh,.str k)::some (.sh,dS rs)::some (.sh,nD T)::r
def JD:∀ dd Q x,wz dd Q x->iz jE Be qe (bq [true,false,false,false,false] Q x) (ini [true,false,false,false,false] dd++List.replicate 10 none):=by
 rintro _ Q x ⟨a,b,m,es,k,rs,T,rfl,W,ht,hk,R,hne,C,b0,b1,q⟩;obtain ⟨nd,he⟩:=iH W ht (k:=k);have hm:=W.le;have hT:T.length<=60:=by
  have h1:=sub_len' (C.up.imp fun h=>QG h) C.sub
  have:=jU W ht (k:=k);lia
 unfold iz;rfl';refine ⟨by lia,jc (fun i E=>∃ o6 o7:Va,E=Ct a b m es k rs T [some (.ow false,nD (aj (rs.take i))),o6,o7,none,none,none,none,none,none,none]/\bu o6=true/\bu o7=true) ⟨none,none,rfl,rfl,rfl⟩ ?_ ?_⟩
 ·rintro J i r _ hi hJ ⟨o6,o7,rfl,h6,h7⟩;have l1:=vQ (gs:=rs) (i:=i + 1);have l0:=R.few;rw [ko hi,QE] at l1;simp! [h6];refine jc (fun j E=>∃ o7:Va,E=Ct a b m es k rs T [some (.ow false,nD (aj (rs.take i)++(r.take j).flatten)),some (.sh,gD r),o7,none,none,none,none,none,none,none]/\bu o7=true) ⟨o7,by simp,h7⟩ ?_ ?_
  ·rintro J j s _ hj hJ ⟨o7,rfl,h7⟩;have e1:(r.take (j + 1)).flatten=(r.take j).flatten++s:=by rw [take_snoc hj,RE,Uh]
   have l2:(r.take (j + 1)).flatten.length<=r.flatten.length:=by
    have:r.flatten=(r.take (j + 1)).flatten++(r.drop (j + 1)).flatten:=by rw [<- RE,TH]
    rw [this,QE];lia
   rw [e1,QE] at l2;simp! [h7];refine ⟨by rw [QE];lia,hJ _ ⟨some (.sh,nD s),?_,rfl⟩⟩
   rw [e1,<- Qs,<- QY]
  ·rintro _ ⟨o7,rfl,h7⟩;refine hJ _ ⟨some (.sh,gD r),o7,?_,rfl,h7⟩;rw [RW,ko hi]
 ·rintro _ ⟨o6,o7,rfl,h6,h7⟩;rw [RW];rfl';rw [if_pos ⟨by lia,by lia⟩]
  refine fT rfl ?_;refine cM (fun p=>if decide (¬ p∈aj rs)=true then some (iD p) else none) rfl (fun p hp I hI=>?_) ?_ (by rw [QI];lia)
  ·simp only [dv,dw,dx,dy,dz,Nat.reduceBEq,h6,h7] at hI ⊢;refine ⟨⟨nj,rfl⟩,?_⟩
   by_cases c:p∈aj rs
   ·rw [if_neg fun z=>z (ki.mpr c)]
    rw [if_neg fun z=>z c] at hI
    exact hI _ rfl
   ·rw [if_pos fun z=>c (ki.mp z)]
    rw [if_pos c] at hI;exact hI _ rfl
  rw [bI];generalize hou:(List.range m).filter (fun p=>decide (¬ p∈aj rs))=ou
  have ho:∀ p∈ou,p∉aj rs:=fun p hp=>by
   rw [<- hou] at hp;exact QS (QU.mp hp).2
  have hol:ou.length<=60:=by
   have:=Rb (fun p=>decide (¬ p∈aj rs)) (List.range m)
   rw [hou,QI] at this;lia
  simp! [h6,h7];refine jc (fun i E=>∃ (a b:Int)(o6 o7 o9 o10 o11 o12:Va),E=Ct a b m es k rs T [some (.ow false,nD (aj rs)),o6,o7,some (.ow false,nD ou),o9,o10,o11,o12,none,none]/\bu o6=true/\bu o7=true/\bu o9=true/\bu o10=true/\bu o11=true/\bu o12=true/\0<=b/\b < 2147483647) ⟨a,b,o6,o7,none,none,none,none,rfl,h6,h7,rfl,rfl,rfl,rfl,b0,b1⟩ ?_ ?_
  ·clear h6 h7 b0 b1 a b o6 o7;rintro J i r _ hi hJ ⟨a,b,o6,o7,o9,o10,o11,o12,rfl,h6,h7,h9,h10,h11,h12,b0,b1⟩;have hr:=QX hi;obtain ⟨g,hg,pm⟩:=R.to r hr;have hrl:r.length<=60:=by
    rw [pm.length_eq];have h1:=vm nd hg;have h2:∀ s∈g,s≠[]:=fun s hs=>hne r hr s (pm.mem_iff.mpr hs)
    have h3:∀ l:VG,(∀ s∈l,s≠[])->l.length<=l.flatten.length:=fun l=>by
     induction l with
     | nil=>exact fun _=>Q6 _
     | cons s l ih =>
      intro h;have:=Sk.mpr (h s Q2);have:=ih fun x hx=>h x (Q7 _ hx)
      rw [RO,QE,QH];lia
    have h4:=Gr.dY m _ h1 fun x hx=>he x (by
     obtain ⟨s,hs,xs⟩:=RQ.mp hx;exact cu.mpr ⟨g,hg,s,hs,xs⟩)
    have:=h3 g h2;lia
   obtain ⟨A,sp0,B,er,h0,h1⟩:=(C.OO he g hg).perm pm.symm;have hz:∀ s:VV,hl T s=0↔¬ ∃ l∈T,l∈s:=fun s=>by
    unfold hl;rw [US,U8];exact ⟨fun h ⟨l,h1,h2⟩=>h l h2 (Qz h1),fun h x hx z=>h ⟨x,QS z,hx⟩⟩
   have eb:r.filter (fun s=>decide (¬ ∃ l∈T,l∈s))=[sp0]:=by
    rw [er,List.filter_append,S3 (p:=fun s=>decide (¬ ∃ l∈T,l∈s)) (Qz ((hz sp0).mp h0))]
    rw [U8.mpr fun s hs z=>by
     have:=h1 s (QA.mpr (.inl hs));have:=(hz s).mpr (QS z);lia,U8.mpr fun s hs z=>by
     have:=h1 s (QA.mpr (.inr hs));have:=(hz s).mpr (QS z);lia]
    rfl
   have hsp0:sp0∈r:=by rw [er];simp
   have sp0n:=Sk.mpr (hne r hr sp0 hsp0);have hleg:∀ s∈r,s≠sp0->hl T s=1:=fun s hs ne=>by
    rw [er] at hs;rcases QA.mp hs with z | z
    ·exact h1 s (QA.mpr (.inl z))
    ·rcases Q9.mp z with z | z
     ·exact absurd z ne
     ·exact h1 s (QA.mpr (.inr z))
   have hslen:∀ s∈r,s.length<=60:=fun s hs=>((tX W ht hk).2.2 g hg).1 s (pm.mem_iff.mp hs)
   simp! [h6];refine cM (fun s=>if decide (¬ ∃ l∈T,l∈s)=true then some (nD s) else none) rfl (fun s hs I hI=>?_) ?_ (by lia)
   ·simp only [dv,dw,dx,dy,dz,Nat.reduceBEq,h6,h7,h9] at hI ⊢;refine eW (fun l=>.bool (decide (l∈s))) rfl (fun l hl I hI=>?_) ?_ (by lia)
    ·rfl';refine ⟨⟨nj,rfl⟩,?_⟩;rw [show decide (iD l∈s.map iD)=decide (l∈s) from decide_eq_decide.mpr ki]
     exact hI _ rfl
    ·rw [show T.map (fun l=>PyData.bool (decide (l∈s)))=(T.map fun l=>decide (l∈s)).map PyData.bool by rw [Qt];rfl]
     rfl';refine ER ?_;rfl'
     by_cases c:∃ l∈T,l∈s
     ·have e:(T.map fun l=>decide (l∈s)).any id=true:=by
       obtain ⟨l,h1,h2⟩:=c;exact TJ.mpr ⟨true,QB.mpr ⟨l,h1,Qz h2⟩,rfl⟩
      rw [e,if_neg (by decide)]
      rw [if_neg fun z=>z c] at hI
      exact hI _ rfl
     ·have e:(T.map fun l=>decide (l∈s)).any id=false:=Bool.eq_false_iff.mpr fun z=>by
       obtain ⟨v,h1,h2⟩:=TJ.mp z;obtain ⟨l,h3,rfl⟩:=QB.mp h1;exact c ⟨l,h3,QS h2⟩
      rw [e,if_pos rfl];rw [if_pos c] at hI;exact hI _ rfl
   rw [bI,eb];simp! [h9];rw [if_neg (by decide)]
   refine cM (fun s=>if decide (¬ s=sp0)=true then some (nD s) else none) rfl (fun s hs I hI=>?_) ?_ (by lia)
   ·simp only [dv,dw,dx,dy,dz,Nat.reduceBEq,h7] at hI ⊢;refine ⟨⟨by rw [nu];rfl,nu⟩,?_⟩
    have e:nD s∈List.map nD [sp0]↔s=sp0:=by rw [U5,QF,Dr]
    by_cases c:s=sp0
    ·rw [if_neg fun z=>z (e.mpr c)]
     rw [if_neg fun z=>z c] at hI
     exact hI _ rfl
    ·rw [if_pos fun z=>c (e.mp z)]
     rw [if_pos c] at hI;exact hI _ rfl
   rw [bI];rfl';refine jc (fun i E=>∃ (kd:Kd) (a b:Int)(o7 o10 o11 o12:Va),(kd=.ow false\/kd=.sh)/\E=Ct a b m es k rs T [some (.ow false,nD (aj rs)),some (.sh,gD r),o7,some (.ow false,nD ou),some (kd,.list [nD sp0]),o10,o11,o12,none,none]/\bu o7=true/\bu o10=true/\bu o11=true/\bu o12=true/\0<=b/\b < 2147483647) ⟨.ow false,a,b,o7,o10,o11,o12,.inl rfl,rfl,h7,h10,h11,h12,b0,b1⟩ ?_ ?_
   ·clear h6 h7 h9 h10 h11 h12 b0 b1 a b o6 o7 o9 o10 o11 o12;rintro J' i s _ hi hJ' ⟨kd,a,b,o7,o10,o11,o12,hkd,rfl,h7,h10,h11,h12,b0,b1⟩;obtain ⟨hs,ns⟩:=QU.mp (QX hi);have ns:=QS ns;have hs1:=hleg s hs ns;have hsl:=hslen s hs;have snn:=Sk.mpr (hne r hr s hs);obtain ⟨l0,tl,el⟩:∃ l0 tl,T.filter (fun l=>decide (l∈s))=l0::tl:=by
     cases e:T.filter (fun l=>decide (l∈s)) with
     | cons a b=>exact ⟨a,b,rfl⟩
     | nil =>
      have:hl T s=0:=(hz s).mpr fun ⟨l,h1,h2⟩=>by
       have:l∈T.filter (fun l=>decide (l∈s)):=QU.mpr ⟨h1,Qz h2⟩
       rw [e] at this;exact absurd this QZ
      lia
    have ml:l0∈T/\l0∈s:=by
     have:l0∈T.filter (fun l=>decide (l∈s)):=by rw [el];exact Q2
     exact ⟨(QU.mp this).1,QS (QU.mp this).2⟩
    have uq:∀ x∈s,x∈T->x=l0:=fun x hx xT=>by
     unfold hl at hs1;obtain ⟨y,ey⟩:=List.length_eq_one_iff.mp hs1;have m1:x∈s.filter fun x=>decide (x∈T):=QU.mpr ⟨hx,Qz xT⟩
     have m2:l0∈s.filter fun x=>decide (x∈T):=QU.mpr ⟨ml.2,Qz ml.1⟩
     rw [ey] at m1 m2;rw [QF.mp m1,QF.mp m2]
    have hfl:=Rb (fun x=>decide (¬ x=l0)) T
    have mv:∀ p,(p∈s\/p∈sp0)->p≠l0->∀ T':VV,T'.Perm (T.filter (fun x=>decide (¬ x=l0))++[p])->T'.Pairwise (·<=·)->jO (bM k m es) m T':=fun p hp ne T' pm' up'=>by
     have pT:p∉T:=fun z=>by
      rcases hp with y | y
      ·exact ne (uq p y z)
      ·exact (hz sp0).mp h0 ⟨p,z,y⟩
     have mem:∀ x,x∈T'↔(x∈T/\x≠l0)\/x=p:=fun x=>by
      rw [pm'.mem_iff,QA,QU,QF,RS]
     have ndT:T'.Nodup:=pm'.nodup_iff.mpr (Qy.mpr ⟨SK Sl (C.up.imp fun h=>QG h),by simp,fun x hx y hy e=>by
      rw [QF.mp hy] at e;exact pT (e ▸ (QU.mp hx).1)⟩)
     have up2:T'.Pairwise (· < ·):=(up'.and ndT).imp fun ⟨h1,h2⟩=>Nat.lt_of_le_of_ne h1 h2
     rcases hp with y | y
     ·exact C.move nd he mem up2 ml.1 pT hg (pm.mem_iff.mp hs) (pm.mem_iff.mp hs) ml.2 y (.inl rfl)
     ·exact C.move nd he mem up2 ml.1 pT hg (pm.mem_iff.mp hs) (pm.mem_iff.mp hsp0) ml.2 y (.inr h0)
    rcases hkd with rfl | rfl
    all_goals
     simp! [h7];refine cM (fun l=>if decide (l∈s)=true then some (iD l) else none) rfl (fun l hl I hI=>?_) ?_ (by lia)
     ·simp only [dv,dw,dx,dy,dz,Nat.reduceBEq] at hI ⊢;refine ⟨⟨nj,rfl⟩,?_⟩
      by_cases c:l∈s
      ·rw [if_pos (ki.mpr c)];rw [if_pos c] at hI;exact hI _ rfl
      ·rw [if_neg fun z=>c (ki.mp z)]
       rw [if_neg c] at hI;exact hI _ rfl
     rw [bI,el];simp! [h10];refine ⟨a,b,s.length,rfl,snn,by lia,b0,b1,fun n1 a b hn1 b0 b1=>?_⟩
     rfl';refine fT (QV hn1) ?_;rfl';refine ⟨a,b,sp0.length,rfl,sp0n,by have:=hslen sp0 hsp0;lia,b0,b1,fun n2 a b hn2 b0 b1=>?_⟩
     rfl';refine fT (QV hn2) ?_;rfl';refine ⟨by lia,?_⟩
     rw [show [iD s[n1],iD sp0[n2]]=[s[n1],sp0[n2]].map iD from rfl]
     refine jc (fun i E=>∃ (o11:Va),E=Ct a b m es k rs T [some (.ow false,nD (aj rs)),some (.sh,gD r),some (.sh,nD s),some (.ow false,nD ou),some (.sh,.list [nD sp0]),some (.sh,iD l0),o11,o12,none,none]/\bu o11=true) ⟨o11,rfl,h11⟩ ?_ ?_
     ·clear h11 o11;rintro J i p _ hi hJ ⟨o11,rfl,h11⟩;have hpp:p=s[n1]\/p=sp0[n2]:=by
       have:=QX hi
       simpa using this
      simp! [h11]
      by_cases cp:p=l0
      ·rw [if_neg fun z=>z cp]
       exact hJ _ ⟨some (.sh,iD p),rfl,rfl⟩
      ·rw [if_pos cp];have hps:p∈s\/p∈sp0:=by
        rcases hpp with z | z
        ·exact .inl (z ▸ Rn _)
        ·exact .inr (z ▸ Rn _)
       refine ⟨m,es,k,T,l0,p,rfl,W,ht,hk,hT,mv p hps cp,?_⟩;rfl';exact hJ _ ⟨some (.sh,iD p),rfl,rfl⟩
     ·clear h11 o11;rintro _ ⟨o11,rfl,h11⟩;rfl';refine ⟨by lia,⟨nu,rfl⟩,?_⟩
      by_cases co:ou=[]
      ·rw [if_neg fun z=>z (by rw [co];rfl)]
       exact hJ' _ ⟨.sh,a,b,some (.sh,nD s),some (.sh,iD l0),o11,o12,.inr rfl,rfl,rfl,rfl,h11,h12,b0,b1⟩
      ·rw [if_pos (show ¬ PyData.list (ou.map iD)=PyData.list [] from fun z=>co (Dr.mp z))]
       refine cM (fun x=>if decide (¬ x=l0)=true then some (iD x) else none) rfl (fun x hx I hI=>?_) ?_ (by lia)
       ·simp only [dv,dw,dx,dy,dz,Nat.reduceBEq] at hI ⊢;split
        ·rename_i c;rw [if_pos c] at hI;exact hI _ rfl
        ·rename_i c;rw [if_neg c] at hI;exact hI _ rfl
       rw [bI];rfl';refine ⟨a,b,ou.length,rfl,Sk.mpr co,by lia,b0,b1,fun n3 a b hn3 b0 b1=>?_⟩
       rfl';refine fT (QV hn3) ?_;simp! [h12];rw [<- u5];refine ⟨by lia,by lia,mV (by simp only [QE,Rm];lia) fun T' pm' up'=>?_⟩
       have hl':T'.length<=61:=by rw [pm'.length_eq,QE,Rm];lia
       rfl';refine ⟨m,es,k,T',rfl,W,ht,hk,by lia,fun C'=>absurd ((R.all _).mpr (C'.sub ou[n3] (pm'.mem_iff.mpr (by simp)))) (ho _ (Rn _)),fun _=>?_⟩
       rfl'
       trace_state
       exact hJ' _ ⟨.sh,a,b,some (.sh,nD s),some (.sh,iD l0),o11,some (.ow false,nD (T.filter (fun x=>decide (¬ x=l0))++[ou[n3]])),.inr rfl,rfl,rfl,rfl,h11,rfl,b0,b1⟩
   ·rintro _ ⟨kd,a,b,o7,o10,o11,o12,hkd,rfl,h7,h10,h11,h12,b0,b1⟩;exact hJ _ ⟨a,b,some (.sh,gD r),o7,some (kd,.list [nD sp0]),o10,o11,o12,rfl,rfl,h7,by rcases hkd with rfl | rfl <;> rfl,h10,h11,h12,b0,b1⟩
  ·rintro _ ⟨a,b,o6,o7,o9,o10,o11,o12,rfl,h6,h7,h9,h10,h11,h12,b0,b1⟩;rfl';exact q a b b0 b1
section
variable {m:Nat}{es:VI}
def Al.Qc (A:Al m es ps gs):(aj gs).Perm (aj (ps.map (fM m es))):=by
 induction A with
 | nil=>exact List.Perm.refl _
 | snoc A pm ih =>
  have e:∀ (a:List (VG))(b:VG),aj (a++[b])=aj a++b.flatten:=fun a b=>by
   unfold aj;rw [RE,RE,Uh]
  rw [QY,U5,e,e];exact ih.append pm.flatten
def rW (W:bW m es)(ht:es.length + 1=m)(hk:fK k)(ka:k≠"all")(hf:cF m es≠[]):bM k m es=((cF m es).map (fM m es)).filter fun g=>decide (g≠[]):=by
 have h3:3<=m:=by
  obtain ⟨p,hp⟩:=List.exists_mem_of_ne_nil _ hf;have h1:=(mQ.mp hp).2;have h2:=W.gd.jy p;unfold cH at h1;lia
 unfold bM;rw [if_neg (by
  rw [kind_len W ht hk];rcases hk with rfl | rfl | rfl
  ·rw [if_pos rfl];lia
  ·rw [if_neg (by decide),if_pos rfl];lia
  ·exact absurd rfl ka),if_neg ka,if_neg hf]
def rw_of (W:bW m es)(ht:es.length + 1=m)(hk:fK k)(ka:k≠"all")(hf:cF m es≠[])(A:Al m es (cF m es) gs):Rw (bM k m es) (gs.filter fun g=>decide (g≠[]))/\∀ r∈gs.filter (fun g=>decide (g≠[])),∀ s∈r,s≠[]:=by
 have T:Tree m es:=⟨W.gd,W.cn,ht⟩;have pm:=A.Qc;have sl:=jU W ht (k:=k);rw [rW W ht hk ka hf] at sl ⊢;rw [fW] at sl;have tr:∀ r∈gs.filter (fun g=>decide (g≠[])),∃ p∈cF m es,r.Perm (fM m es p)/\r≠[]:=fun r hr=>by
  obtain ⟨h1,h2⟩:=QU.mp hr;obtain ⟨p,hp,h3⟩:=A.mem r h1;exact ⟨p,hp,h3,QS h2⟩
 refine ⟨⟨fun r hr=>?_,fun x=>?_,?_,?_⟩,fun r hr s hs=>?_⟩
 ·obtain ⟨p,hp,h3,h4⟩:=tr r hr;refine ⟨fM m es p,QU.mpr ⟨QB.mpr ⟨p,hp,rfl⟩,Qz fun z=>h4 ?_⟩,h3⟩
  rw [z] at h3;exact h3.eq_nil
 ·rw [fW,fW];exact pm.mem_iff
 ·have h1:=Rb (fun g=>decide (g≠[])) gs
  have h2:=A.len;have h3:=Rb (fun p=>decide (2 < cH es p)) (List.range m)
  rw [QI] at h3;have:=W.le;have h4:(cF m es).length<=m:=h3;lia
 ·rw [fW,pm.length_eq];exact sl
 ·obtain ⟨p,hp,h3,h4⟩:=tr r hr;exact Sk.mp ((ye W T (mQ.mp hp).1).pos s (h3.mem_iff.mp hs))
end
def Ob:dl 8 (dS gs)=true:=by
 show (gs.map gD).all (dl 7)=true;rw [SH];refine QK.mpr fun g _=>?_
 show (g.map nD).all (dl 6)=true;rw [SH];refine QK.mpr fun s _=>?_
 show (s.map iD).all (dl 5)=true;rw [SH];exact QK.mpr fun _ _=>rfl
def Ff:∀ dd Q x,uy dd Q x->nk sJ wA wu jE BD B7 uP wz (bq [false] Q x) (ini [false] dd++List.replicate 9 none):=by
 rintro _ Q x ⟨ns,rfl,hn,q⟩;unfold nk;rfl';refine ⟨ns,4,rfl,by lia,by lia,fun cs hcs=>?_⟩
 rfl';have e1:(if (cs.length:Int) > 1 then (cs.length:Int) else 1)=((max 1 cs.length:Nat):Int):=by split <;> lia
 rw [e1,if_pos (by lia)]
 refine fT rfl ?_;simp only [dz];refine Hs (fun i E=>∃ o2 o3 o4 o5 o6 o7 o8 o9:Va,E=[some (.sh,.list (ns.map .int)),some (.ow false,.list (cs.map .int)),o2,o3,o4,o5,o6,o7,o8,o9]/\bu o2=true/\bu o3=true/\bu o4=true/\bu o5=true/\bu o6=true/\bu o7=true/\bu o8=true/\bu o9=true) ⟨none,none,none,none,none,none,none,none,rfl,rfl,rfl,rfl,rfl,rfl,rfl,rfl,rfl⟩ ?_ ?_
 ·rintro J k _ hk hJ ⟨o2,o3,o4,o5,o6,o7,o8,o9,rfl,h2,h3,h4,h5,h6,h7,h8,h9⟩;simp! [h2];refine ⟨cs,k,rfl,by lia,by lia,fun a b b0 b1=>?_⟩
  simp! [h3];refine ⟨by lia,a,b,8,rfl,by lia,by lia,b0,b1,fun r a b hr b0 b1=>?_⟩
  rfl';have ⟨mo,h0,h60,em⟩:∃ mo:Nat,0 < mo/\mo<=60/\eE [PyData.int 24,PyData.int 40] (if (r:Int)=0 then 1 else 0)=some (iD mo):=by
   split
   ·exact ⟨40,by lia,by lia,rfl⟩
   ·exact ⟨24,by lia,by lia,rfl⟩
  refine fT em ?_;refine ⟨a,b,mo,rfl,h0,h60,b0,b1,fun m es a b hm W ht b0 b1=>?_⟩
  simp! [h4];refine ⟨m,es,rfl,W,ht,fun gs A=>?_⟩
  simp! [h5];refine ⟨by lia,⟨Ob,rfl⟩,?_⟩
  by_cases cr:gs.filter (fun g=>decide (g≠[]))=[]
  ·rw [if_neg fun z=>z (by rw [cr];rfl)]
   exact hJ _ ⟨some (.sh,iD k),some (.ow false,jQ a b),some (.sh,wD m es),some (.ow false,dS (gs.filter fun g=>decide (g≠[]))),o6,o7,o8,o9,rfl,rfl,rfl,rfl,rfl,h6,h7,h8,h9⟩
  rw [if_pos fun z=>cr (U3.mp (PyData.list.inj z))]
  have hf:cF m es≠[]:=fun z=>by
   have:=A.len;rw [z] at this;rw [US.mp this] at cr;exact cr rfl
  have eP:=rW W ht (k:="places") (.inl rfl) (by decide) hf
  have eT:=rW W ht (k:="ties") (.inr (.inl rfl)) (by decide) hf
  have rP:=rw_of W ht (k:="places") (.inl rfl) (by decide) hf A
  obtain ⟨nd,he⟩:=iH W ht (k:="places");have ok:=(tX W ht (k:="places") (.inl rfl)).2.2;have wp:=JF W ht (k:="places") (.inl rfl);have wb:=Af (gs:=bM "places" m es);have sl:=jU W ht (k:="places");have wc:bO [] 0 (bM "places" m es)<=2 ^ 60:=QW wb (Nat.pow_le_pow_right (by lia) sl)
  have eq:bM "ties" m es=bM "places" m es:=eT.trans eP.symm;have hl2:=rP.1.len;generalize hrs:gs.filter (fun g=>decide (g≠[]))=rs at rP hl2 ⊢
  refine ⟨m,es,"places",rfl,W,ht,ok,?_⟩;simp! [h6];refine ⟨a,b,bO [] 0 (bM "places" m es),rfl,wp,by lia,b0,b1,fun n a b hn b0 b1=>?_⟩
  simp! [h7];refine ⟨m,es,"places",n,rfl,W,ht,.inl rfl,fun j ej hj=>?_,fun z=>absurd ⟨by lia,by lia⟩ z⟩
  have ej:j=n:=by lia
  subst ej;have C:=(MH nd he hj).1;generalize hu:i7 (bM "places" m es) (spS m (bM "places" m es)) [] j=T at C;simp! [h8];refine ⟨m,es,"ties",rfl,W,ht,by rw [eq];exact ok,?_⟩
  rw [eq];generalize hw:bO [] 0 (bM "places" m es)=w at hj wp wc;rfl';refine ⟨m,es,"ties",j,rfl,W,ht,.inr (.inl rfl),fun i ei hi=>?_,fun z=>absurd ⟨by lia,by rw [eq,hw];lia⟩ z⟩
  have ei:i=j:=by lia
  subst ei;rw [eq,hu];rfl';refine ⟨⟨nu,nu⟩,by lia,?_⟩
  rw [show [PyData.str "places",PyData.str "ties"]=([("places":Str),"ties"]:VX).map PyData.str from rfl]
  refine jc (fun n E=>∃ (a b:Int)(o9:Va),E=[some (.sh,.list (ns.map .int)),some (.ow false,.list (cs.map .int)),some (.sh,iD k),some (.ow false,jQ a b),some (.sh,wD m es),some (.ow false,dS rs),some (.sh,iD w),some (.sh,iD i),some (.ow false,nD T),o9]/\bu o9=true/\0<=b/\b < 2147483647) ⟨a,b,o9,rfl,h9,b0,b1⟩ ?_ ?_
  ·clear h9 o9 b0 b1 a b;rintro J n kd _ hi hJ ⟨a,b,o9,rfl,h9,b0,b1⟩;have hkk:kd="places"\/kd="ties":=by
    have:=QX hi
    simpa using this
   have ek:bM kd m es=bM "places" m es:=by rcases hkk with rfl | rfl;rfl;exact eq
   have kk:fK kd:=hkk.imp id .inl;simp! [h9];refine ⟨a,b,m,es,kd,rs,T,rfl,W,ht,kk,by rw [ek];exact rP.1,rP.2,by rw [ek];exact C,b0,b1,fun a b b0 b1=>?_⟩
   rfl';exact hJ _ ⟨a,b,some (.sh,.str kd),rfl,rfl,b0,b1⟩
  ·rintro _ ⟨a,b,o9,rfl,h9,b0,b1⟩;exact hJ _ ⟨some (.sh,iD k),some (.ow false,jQ a b),some (.sh,wD m es),some (.ow false,dS rs),some (.sh,iD w),some (.sh,iD i),some (.ow false,nD T),o9,rfl,rfl,rfl,rfl,rfl,rfl,rfl,rfl,h9⟩
 ·rintro _ ⟨o2,o3,o4,o5,o6,o7,o8,o9,rfl,h2,h3,h4,h5,h6,h7,h8,h9⟩;rfl';exact q
end PB
namespace MP
open PySem L2 PySem.W Dv PB
def top (i:Nat):Stmt:=PySem.Challenge.pw_farhail_k28_whole_a_look_in_its_leg.main.body.getD i (.Pass ⟨0,0,0,0⟩)
structure Txt (K:Frag)(mg:VE):Prop where
 abs:mg "abs"=none
 all:mg "all"=none
 any:mg "any"=none
 enumerate:mg "enumerate"=none
 int:mg "int"=none
 len:mg "len"=none
 list:mg "list"=none
 max:mg "max"=none
 min:mg "min"=none
 range:mg "range"=none
 set:mg "set"=none
 sorted:mg "sorted"=none
 tuple:mg "tuple"=none
 IJ:∃ C,mg "NoPlace"=some (.ref C)/\gX K C vz "ValueError.__new__" none=true
 Lu:∃ C,mg "NoSuch"=some (.ref C)/\gX K C vz "ValueError.__new__" none=true
 Mj:∃ C,mg "NoTree"=some (.ref C)/\gX K C vz "ValueError.__new__" none=true
 MB:∃ C,mg "NotOne"=some (.ref C)/\gX K C vz "ValueError.__new__" none=true
 GQ:CV K ["NoPlace","NoTree","NotOne"] "NotOne"=true
 ns:∃ h:Heap,K.In h/\h.Ns mainGlobals mg
def uc {us:VQ}{n:Nat}(h:us.length=n + 1):∃ a t,t.length=n/\us=a::t:=by
 cases us with
 | nil=>cases h
 | cons a t=>exact ⟨a,t,Nat.succ.inj h,rfl⟩
def P6 {us:VQ}(h0:us.length=1):∃ a0,us=[a0]:=by
 obtain ⟨a0,t0,h1,rfl⟩:=uc h0;cases U7 h1;exact ⟨a0,rfl⟩
def PN {us:VQ}(h0:us.length=2):∃ a0 a1,us=[a0,a1]:=by
 obtain ⟨a0,t0,h1,rfl⟩:=uc h0;obtain ⟨a1,t1,h2,rfl⟩:=uc h1;cases U7 h2;exact ⟨a0,a1,rfl⟩
def PV {us:VQ}(h0:us.length=3):∃ a0 a1 a2,us=[a0,a1,a2]:=by
 obtain ⟨a0,t0,h1,rfl⟩:=uc h0;obtain ⟨a1,t1,h2,rfl⟩:=uc h1;obtain ⟨a2,t2,h3,rfl⟩:=uc h2;cases U7 h3;exact ⟨a0,a1,a2,rfl⟩
def P1 {us:VQ}(h0:us.length=5):∃ a0 a1 a2 a3 a4,us=[a0,a1,a2,a3,a4]:=by
 obtain ⟨a0,t0,h1,rfl⟩:=uc h0;obtain ⟨a1,t1,h2,rfl⟩:=uc h1;obtain ⟨a2,t2,h3,rfl⟩:=uc h2;obtain ⟨a3,t3,h4,rfl⟩:=uc h3;obtain ⟨a4,t4,h5,rfl⟩:=uc h4;cases U7 h5;exact ⟨a0,a1,a2,a3,a4,rfl⟩
local macro_rules | `(tactic| ac_nf) => `(tactic| (intro _ _ _ _ _ _ us hl; first | (obtain ⟨_, e⟩ := P6 hl; subst e; rfl) | (obtain ⟨_, _, e⟩ := PN hl; subst e; rfl) | (obtain ⟨_, _, _, e⟩ := PV hl; subst e; rfl) | (obtain ⟨_, _, _, _, _, e⟩ := P1 hl; subst e; rfl)))
section
variable (P:Program)(w:World)(K:Frag)(mg:VE)(base:Heap)
abbrev oU:Prop:=bV P w K mg base 1 "_law_cells" ["script","many"] (cB mg K [false,false] sJ)
abbrev qH:Prop:=bV P w K mg base 1 "_law_pool" ["cells","k"] (cB mg K [false,false] wA)
abbrev gZ:Prop:=bV P w K mg base 1 "_law_take" ["pool","many"] (cB mg K [true,false] jE)
abbrev qN:Prop:=bV P w K mg base 2 "_law_some" ["pool","menu","many"] (cB mg K [true,false,false] wo)
abbrev oV:Prop:=bV P w K mg base 3 "_law_named" ["pool","many","ties"] (cB mg K [true,false,false] tY)
abbrev qF:Prop:=bV P w K mg base 4 "_law_tree" ["pool","most"] (cB mg K [true,false] wu)
abbrev nZ:Prop:=bV P w K mg base 1 "_law_pieces" ["web","place"] (cB mg K [false,false] BJ)
abbrev qO:Prop:=bV P w K mg base 2 "_law_legs" ["web"] (cB mg K [false] BD)
abbrev pR:Prop:=bV P w K mg base 1 "spot_ways" ["spots","looks","start"] (cB mg K [false,false,false] BX)
abbrev nS:Prop:=bV P w K mg base 2 "group_ways" ["group","looks","start"] (cB mg K [false,false,false] Bw)
abbrev gq:Prop:=bV P w K mg base 3 "ways_from" ["groups","looks","start"] (cB mg K [false,false,false] lO)
abbrev tU:Prop:=bV P w K mg base 1 "is_tree" ["web"] (cB mg K [false] Ck)
abbrev gR:Prop:=bV P w K mg base 2 "refuse_no_tree" ["web"] (cB mg K [false] uX)
abbrev jX:Prop:=bV P w K mg base 1 "refuse_no_place" ["web","place"] (cB mg K [false,false] Cc)
abbrev gn:Prop:=bV P w K mg base 1 "neighbour_lists" ["web"] (cB mg K [false] uv)
abbrev lu:Prop:=bV P w K mg base 1 "piece_behind" ["lists","place","neighbour"] (cB mg K [false,false,false] BY)
abbrev pC:Prop:=bV P w K mg base 3 "pieces_at" ["web","place"] (cB mg K [false,false] BR)
abbrev tB:Prop:=bV P w K mg base 4 "legs_at" ["web","fork","forks"] (cB mg K [false,false,false] Bu)
abbrev pL:Prop:=bV P w K mg base 1 "things_of" ["web","kind"] (cB mg K [false,false] Bv)
abbrev gA:Prop:=bV P w K mg base 5 "spot_groups" ["web","kind"] (cB mg K [false,false] pK)
abbrev lN:Prop:=bV P w K mg base 6 "tree_choices" ["web","kind"] (cB mg K [false,false] B7)
abbrev jI:Prop:=bV P w K mg base 1 "spots_of" ["groups"] (cB mg K [false] pN)
abbrev kZ:Prop:=bV P w K mg base 6 "choice_by" ["web","kind","number"] (cB mg K [false,false,false] uP)
abbrev oG:Prop:=bV P w K mg base 4 "is_choice" ["groups","looks","many"] (cB mg K [false,false,false] Br)
abbrev kM:Prop:=bV P w K mg base 6 "choice_number" ["web","kind","looks"] (cB mg K [false,false,false] Bt)
abbrev lQ:Prop:=bV P w K mg base 7 "_law_told" ["web","kind","looks"] (cB mg K [false,false,false] qe)
abbrev jS:Prop:=bV P w K mg base 8 "_law_moved_right" ["web","kind","looks","look","place"] (cB mg K [false,false,false,false,false] Be)
abbrev pg:Prop:=bV P w K mg base 9 "_law_right" ["pool","web","kind","rows","looks"] (cB mg K [true,false,false,false,false] wz)
end
section
variable {P:Program}{w:World}{K:Frag}{mg:VE}{base:Heap}
abbrev kN:Stmt:=top 28
def kT:aM ["script","many","cells","k","cell"] ["script","many"] (av kN):=by ac_rfl
def yu (T:Txt K mg)(r:Rec K "_law_cells" kN):oU P w K mg base :=
 br T.ns r (by ac_nf) fun F=>bR (m:=3) F kT rfl (by decide) (d:=iw) (fun cdv A outer s H Ex hr=>have hu:=hr.units;af (aQ 2 kT.nd (v8 T.list (aE (Li (aP 0 (aP 1 a0))) a0))) (af (gP RK kT.nd (G8 T.enumerate (L1 (aP 0 (aP 1 (aE (xI) a0))))) (gT (gC 3 (gC 4 g0))) (ai (FL 2 hu (gg (aE (kJ (aE (cJ hu (aP 2 (aE (mC (aP 3 (aP 1 a0))) a0))) (aE (xI) a0))) (aP 4 a0))) (mC (aP 3 (aP 1 a0)))))) (ai (lK 2)))) PB.FA
abbrev lV:Stmt:=top 29
def gY:aM ["cells","k","cell","rest"] ["cells","k"] (av lV):=by ac_rfl
def zu (T:Txt K mg)(r:Rec K "_law_pool" lV):qH P w K mg base :=
 br T.ns r (by ac_nf) fun F=>bR (m:=2) F gY rfl (by decide) (d:=iN) (fun cdv A outer s H Ex hr=>have hu:=hr.units;af (aQ 2 gY.nd (xI)) (CW (fZ (aW.st (De (aE (iC T.len (aP 0 a0)) (aE (xI) a0)))) (ai (aQ 2 gY.nd (gg (aE (cJ hu (aP 0 (aE (mC (aP 1 (aE (iC T.len (aP 0 a0)) a0))) a0))) (aE (BG (aP 1 (aE (iC T.len (aP 0 a0)) a0))) a0))))) (b7)) (af (aQ 3 gY.nd (xI)) (CW (fZ (aW.st (pG.Aq (yc (IE (aP 2 (aE (xI) a0))) (p7 (OI (aP 2 (aE (O9 (aE (xI) (aE (xI) a0))) a0))))))) (ai (aQ 3 gY.nd (OR T.abs (aP 2 a0)))) (b7)) (ai (cz (b9 (aP 3 (aE (mC (aE (gg (aE (kJ (aE (mC (aP 2 (aE (xI) a0))) (aE (xI) a0))) (aE (kJ (aE (kJ (aE (xI) (aE (gg (aP 1 (aE (xI) a0))) a0))) (aE (gg (aP 1 (aE (xI) a0))) a0))) a0))) (aE (xI) a0))) a0))))))))) PB.J9
abbrev lX:Stmt:=top 30
def qK:aM ["pool","many","found"] ["pool","many"] (av lX):=by ac_rfl
def zJ (T:Txt K mg)(r:Rec K "_law_take" lX):gZ P w K mg base :=
 br T.ns r (by ac_nf) fun F=>bR (m:=1) F qK rfl (by decide) (d:=jd) (fun cdv A outer s H Ex hr=>have hu:=hr.units;af (fZ (aW.st (De (aE (cJ hu (aP 0 (aE (xI) a0))) (aE (xI) a0)))) (af (aQ 2 qK.nd (mC (aE (cJ hu (aP 0 (aE (xI) a0))) (aP 1 a0)))) (af (FL 0 hu (BG (aE (cJ hu (aP 0 (aE (xI) a0))) (aP 1 a0))) (xI)) (ai (lK 2)))) (b7)) (af (FL 0 hu (mC (aE (gg (aE (kJ (aE (cJ hu (aP 0 (aE (xI) a0))) (aE (xI) a0))) (aE (xI) a0))) (aE (xI) a0))) (xI)) (ai (cz (mC (aE (BG (aE (mC (aE (kJ (aE (mC (aE (kJ (aE (cJ hu (aP 0 (aE (xI) a0))) (aE (cJ hu (aP 0 (aE (xI) a0))) a0))) (aE (xI) a0))) (aE (xI) a0))) (aE (xI) a0))) (aE (xI) a0))) (aP 1 a0))))))) PB.Jh
abbrev mq:Stmt:=top 31
def qB:aM ["pool","menu","many","rest"] ["pool","menu","many"] (av mq):=by ac_rfl
def zC (T:Txt K mg)(h0:gZ P w K mg base)(r:Rec K "_law_some" mq):qN P w K mg base :=
 br T.ns r (by ac_nf) fun F=>bR (m:=2) F qB rfl (by decide) (d:=je jE) (fun cdv A outer s H Ex hr=>af (aQ 3 qB.nd (v8 T.list (aP 1 a0))) (ai (cz (cX (vs:=["k"]) (NB:=["k","rest","pool"]) (ix:=[3,0]) (by rfl) (wG T.range (aP 2 a0)) (fun _ _ _ _=>gN 0) (fun _ _ _ _=>.nil) (fun _ _ _ _ _=>bA (xM 1 zU zW PySem.F.slot_list_pop PySem.F.type_list_pop (eC (aJ h0 BP hr (aP 2 (aE (iC T.len (aP 1 a0)) a0))) e0))))))) PB.JC
abbrev kP:Stmt:=top 32
def oK:aM ["pool","many","ties","names"] ["pool","many","ties"] (av kP):=by ac_rfl
def wY (T:Txt K mg)(h0:qN P w K mg base)(r:Rec K "_law_named" kP):oV P w K mg base :=
 br T.ns r (by ac_nf) fun F=>bR (m:=3) F oK rfl (by decide) (d:=gK wo) (fun cdv A outer s H Ex hr=>have hu:=hr.units;af (aQ 3 oK.nd (aJ h0 aK hr (aP 0 (aE (ya T.list T.range (aP 1 a0)) (aP 1 a0))))) (ai (cz (ni (aP 1 (aE (Mi T.tuple (aE (Nd T.sorted (aE (cX (vs:=["a","b"]) (NB:=["a","b","names"]) (ix:=[3]) (by rfl) (bC (xV 2)) (fun _ _ _ _=>gT (gC 0 (gC 1 g0))) (fun _ _ _ _=>.nil) (fun _ _ _ _ _=>bA (ni (aE (Ll T.min (aE (cJ hu (aP 2 (aP 0 a0))) (aE (cJ hu (aP 2 (aP 1 a0))) a0))) (aE (Gw T.max (aE (cJ hu (aP 2 (aP 0 a0))) (aE (cJ hu (aP 2 (aP 1 a0))) a0))) a0))))) a0)) a0)) a0)))))) PB.Fy
abbrev mh:Stmt:=top 33
def fR:aM ["pool","most","many","shape","ties","k","ahead"] ["pool","most"] (av mh):=by ac_rfl
def zy (T:Txt K mg)(h0:gZ P w K mg base)(h1:oV P w K mg base)(r:Rec K "_law_tree" mh):qF P w K mg base :=
 br T.ns r (by ac_nf) fun F=>bR (m:=5) F fR rfl (by decide) (d:=i6 jE tY) (fun cdv A outer s H Ex hr=>have hu:=hr.units;af (aQ 2 fR.nd (gg (aE (xI) (aE (aJ h0 aK hr (aP 0 (aP 1 a0))) a0)))) (af (aQ 3 fR.nd (aJ h0 aK hr (aP 0 (aE (xI) a0)))) (af (aQ 4 fR.nd (b9 a0)) (af (gP RK fR.nd (Qo T.range (aE (xI) (aP 2 a0))) (gN 5) (af (aQ 6 fR.nd (b9 (aE (uz (aP 5 (aE (xI) a0))) (aE (xI) (aE (aJ h0 aK hr (aP 0 (aP 5 a0))) (aE (Gw T.max (aE (xI) (aE (uz (aE (uz (aP 5 (aE (xI) a0))) (aE (aJ h0 aK hr (aP 0 (aE (xI) a0))) a0))) a0))) (aE (aJ h0 aK hr (aP 0 (aE (Ll T.min (aP 5 (aE (xI) a0))) a0))) a0))))))) (ai (iU (xM 4 f7 fF Sn So (eC (ni (aE (cJ hu (aE (gg (aP 6 (aE (b9 (aE (BG (aE (uz (aP 5 (aE (xI) a0))) (aE (xI) a0))) a0)) a0))) (aP 3 a0))) (aP 5 a0))) e0)))))) (ai (cz (aJ h1 aK hr (aP 0 (aP 2 (aP 4 a0)))))))))) PB.JB
abbrev j4:Stmt:=top 34
def dU:aM ["web","place","label","a","b","gone","starts"] ["web","place"] (av j4):=by ac_rfl
def vX (T:Txt K mg)(r:Rec K "_law_pieces" j4):nZ P w K mg base :=
 br T.ns r (by ac_nf) fun F=>bR (m:=7) F dU rfl (by decide) (d:=gU) (fun cdv A outer s H Ex hr=>have hu:=hr.units;af (aQ 2 dU.nd (ya T.list T.range (aE (cJ hu (aP 0 (aE (xI) a0))) a0))) (af (gP RK dU.nd (bC (cJ hu (aP 0 (aE (xI) a0)))) (gT (gC 3 (gC 4 g0))) (ai (fZ (aW.st (G7 hu (aP 1 (aE (ni (aP 3 (aP 4 a0))) a0)))) (af (aQ 5 dU.nd (cJ hu (aP 2 (aP 4 a0)))) (ai (aQ 2 dU.nd (cX (vs:=["one"]) (NB:=["one","gone","label","a"]) (ix:=[5,2,3]) (by rfl) (bC (xV 2)) (fun _ _ _ _=>gN 0) (fun _ _ _ _=>.nil) (fun _ _ _ _ _=>bA (wk (aW.st (xJ hu (aP 0 (aP 1 a0)))) (cJ hu (aP 2 (aP 3 a0))) (xV 0))))))) (b7)))) (af (aQ 6 dU.nd (oJ T.sorted (aE (cX (vs:=["a","b"]) (NB:=["a","b","place"]) (ix:=[1]) (by rfl) (bC (cJ hu (aP 0 (aE (xI) a0)))) (fun _ _ _ _=>gT (gC 0 (gC 1 g0))) (fun _ _ _ _=>.one (aW.st (CQ hu (aP 2 (aE (ni (aP 0 (aP 1 a0))) a0))))) (fun _ _ _ _ _=>bA (uz (aE (gg (aP 0 (aP 1 a0))) (aP 2 a0))))) a0))) (ai (cz (FT (cx:="start") (vs:=["start"]) (NB:=["start","web","label"]) (ix:=[0,2]) (by rfl) (bC (xV 6)) (fun _ _ _ _ _=>gN 0) (fun _ _ _ _ _=>.nil) (fun _ _ _ _ _ _=>bA (cX (vs:=["one"]) (NB:=["one","label","start"]) (ix:=[2,0]) (by rfl) (wG T.range (aE (cJ hu (aP 1 (aE (xI) a0))) a0)) (fun _ _ _ _=>gN 0) (fun _ _ _ _=>.one (aW.st (xJ hu (aE (cJ hu (aP 1 (aP 0 a0))) (aE (cJ hu (aP 1 (aP 2 a0))) a0))))) (fun _ _ _ _ _=>bA (xV 0)))))))))) PB.Ni
abbrev l7:Stmt:=top 35
def g8:aM ["web","counts","found","place","legs"] ["web"] (av l7):=by ac_rfl
def zx (T:Txt K mg)(h0:nZ P w K mg base)(r:Rec K "_law_legs" l7):qO P w K mg base :=
 br T.ns r (by ac_nf) fun F=>bR (m:=6) F g8 rfl (by decide) (d:=iM BJ) (fun cdv A outer s H Ex hr=>have hu:=hr.units;af (aQ 1 g8.nd (FT (cx:="place") (vs:=["place"]) (NB:=["place","web"]) (ix:=[0]) (by rfl) (wG T.range (aE (cJ hu (aP 0 (aE (xI) a0))) a0)) (fun _ _ _ _ _=>gN 0) (fun _ _ _ _ _=>.nil) (fun _ _ _ _ _ _=>bA (iC T.len (aE (cX (vs:=["tie"]) (NB:=["tie","place"]) (ix:=[0]) (by rfl) (bC (cJ hu (aP 1 (aE (xI) a0)))) (fun _ _ _ _=>gN 0) (fun _ _ _ _=>.one (aW.st (CQ hu (aP 1 (aP 0 a0))))) (fun _ _ _ _ _=>bA (xV 0))) a0))))) (af (aQ 2 g8.nd (b9 a0)) (af (gP RK g8.nd (wG T.range (aE (cJ hu (aP 0 (aE (xI) a0))) a0)) (gN 3) (ai (fZ (aW.st (De (aE (cJ hu (aP 1 (aP 3 a0))) (aE (xI) a0)))) (af (w5 (j:=4) g8.nd (vs:=["some"]) (NB:=["some","counts"]) (ix:=[1]) (by rfl) (bC (aJ h0 aK hr (aP 0 (aP 3 a0)))) (fun _ _ _ _=>gN 0) (fun _ _ _ _=>.one (aW.st (IE (aE (Nt T.max (aE (cX (vs:=["one"]) (NB:=["one","counts"]) (ix:=[1]) (by rfl) (bC (xV 0)) (fun _ _ _ _=>gN 0) (fun _ _ _ _=>.nil) (fun _ _ _ _ _=>bA (cJ hu (aP 1 (aP 0 a0))))) a0)) (aE (xI) a0))))) (fun _ _ _ _ _=>bA (xV 0))) (ai (iU (xM 2 f7 fF Sn So (eC (xV 4) e0))))) (b7)))) (ai (cz (cX (vs:=["legs"]) (NB:=["legs"]) (ix:=[]) (by rfl) (bC (xV 2)) (fun _ _ _ _=>gN 0) (fun _ _ _ _=>.one (aW.st (oW hu (aP 0 (aE (b9 a0) a0))))) (fun _ _ _ _ _=>bA (xV 0)))))))) PB.Mw
abbrev kQ:Stmt:=top 19
def oZ:aM ["spots","looks","start","held"] ["spots","looks","start"] (av kQ):=by ac_rfl
def xo (T:Txt K mg)(r:Rec K "spot_ways" kQ):pR P w K mg base :=
 br T.ns r (by ac_nf) fun F=>bR (m:=2) F oZ rfl (by decide) (d:=mw) (fun cdv A outer s H Ex hr=>have hu:=hr.units;af (aQ 3 oZ.nd (iC T.len (aE (cX (vs:=["spot"]) (NB:=["spot","looks"]) (ix:=[1]) (by rfl) (bC (xV 0)) (fun _ _ _ _=>gN 0) (fun _ _ _ _=>.one (aW.st (CQ hu (aP 0 (aP 1 a0))))) (fun _ _ _ _ _=>bA (xV 0))) a0))) (af (fZ (aW.st (De (aP 3 (aE (xI) a0)))) (ai (cz (ni (aE (wk (aW.st (xJ hu (aP 3 (aE (xI) a0)))) (xI) (xI)) (aE (xI) a0))))) (b7)) (ai (cz (ni (aE (iC T.len (aE (cX (vs:=["spot"]) (NB:=["spot","start"]) (ix:=[2]) (by rfl) (bC (xV 0)) (fun _ _ _ _=>gN 0) (fun _ _ _ _=>.one (aW.st (OI (aP 0 (aP 1 a0))))) (fun _ _ _ _ _=>bA (xV 0))) a0)) (aE (xI) a0))))))) PB.LZ
abbrev j5:Stmt:=top 20
def c9:aM ["group","looks","start","ways_full","ways_but_one","spots","one","none"] ["group","looks","start"] (av j5):=by ac_rfl
def vZ (T:Txt K mg)(h0:pR P w K mg base)(r:Rec K "group_ways" j5):nS P w K mg base :=
 br T.ns r (by ac_nf) fun F=>bR (m:=5) F c9 rfl (by decide) (d:=k8 BX) (fun cdv A outer s H Ex hr=>af (aQ 3 c9.nd (xI)) (af (aQ 4 c9.nd (xI)) (af (gP RK c9.nd (bC (xV 0)) (gN 5) (af (yX c9.nd (gC 6 (gC 7 g0)) (aJ h0 aK hr (aP 5 (aP 1 (aP 2 a0))))) (af (aQ 4 c9.nd (gg (aE (kJ (aP 4 (aP 6 a0))) (aE (kJ (aP 3 (aP 7 a0))) a0)))) (ai (aQ 3 c9.nd (kJ (aP 3 (aP 6 a0)))))))) (ai (lK 4))))) PB.LR
abbrev kW:Stmt:=top 21
def jb:aM ["groups","looks","start","ways","group"] ["groups","looks","start"] (av kW):=by ac_rfl
def xC (T:Txt K mg)(h0:nS P w K mg base)(r:Rec K "ways_from" kW):gq P w K mg base :=
 br T.ns r (by ac_nf) fun F=>bR (m:=2) F jb rfl (by decide) (d:=lU Bw) (fun cdv A outer s H Ex hr=>af (aQ 3 jb.nd (xI)) (af (gP RK jb.nd (bC (xV 0)) (gN 4) (ai (aQ 3 jb.nd (kJ (aP 3 (aE (aJ h0 aK hr (aP 4 (aP 1 (aP 2 a0)))) a0)))))) (ai (lK 3)))) PB.M9
abbrev nG:Stmt:=top 12
def tM:aM ["web","many","ties"] ["web"] (av nG):=by ac_rfl
def AX (T:Txt K mg)(r:Rec K "is_tree" nG):tU P w K mg base :=
 br T.ns r (by ac_nf) fun F=>bR (m:=2) F tM rfl (by decide) (d:=pJ) (fun cdv A outer s H Ex hr=>have hu:=hr.units;af (yX tM.nd (gC 1 (gC 2 g0)) (xV 0)) (ai (cz (IA hu (aE (iC T.len (aP 2 a0)) (aE (uz (aP 1 (aE (xI) a0))) a0)))))) PB.Lo
abbrev gI:Stmt:=top 13
def qx:aM ["web"] ["web"] (av gI):=by ac_rfl
def qw (T:Txt K mg)(h0:tU P w K mg base)(r:Rec K "refuse_no_tree" gI):gR P w K mg base :=
 br T.ns r (by ac_nf) fun F=>bR (m:=0) F qx rfl (by decide) (d:=iA Ck) (fun cdv A outer s H Ex hr=>ai (fZ (oH (aW.st (yR (aJ h0 aK hr (aP 0 a0))))) (ai (qt T.Mj)) (b7))) PB.L8
abbrev gi:Stmt:=top 8
def oF:aM ["web","place"] ["web","place"] (av gi):=by ac_rfl
def pA (T:Txt K mg)(r:Rec K "refuse_no_place" gi):jX P w K mg base :=
 br T.ns r (by ac_nf) fun F=>bR (m:=0) F oF rfl (by decide) (d:=gJ) (fun cdv A outer s H Ex hr=>have hu:=hr.units;ai (fZ (oH (aW.st (ve HZ BL rfl (xI) (xV 1) (cJ hu (aP 0 (aE (xI) a0)))))) (ai (qt T.IJ)) (b7))) PB.MS
abbrev fY:Stmt:=top 7
def d7:aM ["web","many","ties","lists","one","other"] ["web"] (av fY):=by ac_rfl
def oR (T:Txt K mg)(r:Rec K "neighbour_lists" fY):gn P w K mg base :=
 br T.ns r (by ac_nf) fun F=>bR (m:=6) F d7 rfl (by decide) (d:=gW) (fun cdv A outer s H Ex hr=>af (yX d7.nd (gC 1 (gC 2 g0)) (xV 0)) (af (O1 (j:=3) d7.nd (vs:=["place"]) (NB:=["place"]) (ix:=[]) (by rfl) (wG T.range (aP 1 a0)) (fun _ _ _ _=>gN 0) (fun _ _ _ _=>.nil) (fun _ _ _ _=>b9 a0)) (af (gP RK d7.nd (bC (xV 2)) (gT (gC 4 (gC 5 g0))) (af (iU (OA 3 5 f7 fF Sn So (xV 4))) (ai (iU (OA 3 4 f7 fF Sn So (xV 5)))))) (ai (lK 3))))) PB.K6
abbrev iX:Stmt:=top 14
def dZ:aM ["lists","place","neighbour","piece","steps","last","here"] ["lists","place","neighbour"] (av iX):=by ac_rfl
def tK (T:Txt K mg)(r:Rec K "piece_behind" iX):lu P w K mg base :=
 br T.ns r (by ac_nf) fun F=>bR (m:=5) F dZ rfl (by decide) (d:=jt) (fun cdv A outer s H Ex hr=>have hu:=hr.units;af (aQ 3 dZ.nd (b9 a0)) (af (aQ 4 dZ.nd (b9 (aE (ni (aP 1 (aP 2 a0))) a0))) (af (K0 RK (tV 4) (af (yX dZ.nd (gC 5 (gC 6 g0)) (xM 4 zU zW PySem.F.slot_list_pop PySem.F.type_list_pop (e0))) (af (iU (xM 3 f7 fF Sn So (eC (xV 6) e0))) (ai (OV 4 dZ.nd (cX (vs:=["there"]) (NB:=["there","here","last"]) (ix:=[6,5]) (by rfl) (bC (cJ hu (aP 0 (aP 6 a0)))) (fun _ _ _ _=>gN 0) (fun _ _ _ _=>.one (aW.st (oW hu (aP 0 (aP 2 a0))))) (fun _ _ _ _ _=>bA (ni (aP 1 (aP 0 a0)))))))))) (ai (cz (oJ T.sorted (aP 3 a0))))))) PB.LQ
abbrev kL:Stmt:=top 15
def pV:aM ["web","place","lists"] ["web","place"] (av kL):=by ac_rfl
def wX (T:Txt K mg)(h0:gR P w K mg base)(h1:jX P w K mg base)(h2:gn P w K mg base)(h3:lu P w K mg base)(r:Rec K "pieces_at" kL):pC P w K mg base :=
 br T.ns r (by ac_nf) fun F=>bR (m:=2) F pV rfl (by decide) (d:=lS uX Cc uv BY) (fun cdv A outer s H Ex hr=>have hu:=hr.units;af (iU (aJ h0 aK hr (aP 0 a0))) (af (iU (aJ h1 aK hr (aP 0 (aP 1 a0)))) (af (aQ 2 pV.nd (aJ h2 aK hr (aP 0 a0))) (ai (cz (cX (vs:=["neighbour"]) (NB:=["neighbour","lists","place"]) (ix:=[2,1]) (by rfl) (bC (cJ hu (aP 2 (aP 1 a0)))) (fun _ _ _ _=>gN 0) (fun _ _ _ _=>.nil) (fun _ _ _ _ _=>bA (aJ h3 BP hr (aP 1 (aP 2 (aP 0 a0))))))))))) PB.KG
abbrev nP:Stmt:=top 17
def Bo:aM ["web","fork","forks"] ["web","fork","forks"] (av nP):=by ac_rfl
def Bg (T:Txt K mg)(h0:pC P w K mg base)(r:Rec K "legs_at" nP):tB P w K mg base :=
 br T.ns r (by ac_nf) fun F=>bR (m:=2) F Bo rfl (by decide) (d:=oq BR) (fun cdv A outer s H Ex hr=>have hu:=hr.units;ai (cz (cX (vs:=["piece"]) (NB:=["piece","forks"]) (ix:=[2]) (by rfl) (bC (aJ h0 aK hr (aP 0 (aP 1 a0)))) (fun _ _ _ _=>gN 0) (fun _ _ _ _=>.one (oH (aW.st (yR (Na T.any (aE (cX (vs:=["place"]) (NB:=["place","forks"]) (ix:=[1]) (by rfl) (bC (xV 0)) (fun _ _ _ _=>gN 0) (fun _ _ _ _=>.nil) (fun _ _ _ _ _=>bA (Ln hu (aP 0 (aP 1 a0))))) a0)))))) (fun _ _ _ _ _=>bA (xV 0))))) PB.MW
abbrev kY:Stmt:=top 10
def iT:aM ["web","kind","many","ties","places","joins"] ["web","kind"] (av kY):=by ac_rfl
def xQ (T:Txt K mg)(r:Rec K "things_of" kY):pL P w K mg base :=
 br T.ns r (by ac_nf) fun F=>bR (m:=4) F iT rfl (by decide) (d:=l8) (fun cdv A outer s H Ex hr=>have hu:=hr.units;af (yX iT.nd (gC 2 (gC 3 g0)) (xV 0)) (af (aQ 4 iT.nd (wk (aW.st (xJ hu (aP 1 (aE (xS) a0)))) (b9 a0) (ya T.list T.range (aP 2 a0)))) (af (aQ 5 iT.nd (wk (aW.st (xJ hu (aP 1 (aE (xS) a0)))) (b9 a0) (v8 T.list (aP 3 a0)))) (ai (cz (gg (aP 4 (aP 5 a0)))))))) PB.MO
abbrev jm:Stmt:=top 18
def eU:aM ["web","kind","degrees","ends","forks","groups"] ["web","kind"] (av jm):=by ac_rfl
def uC (T:Txt K mg)(h0:gR P w K mg base)(h1:pL P w K mg base)(h2:gn P w K mg base)(h3:tB P w K mg base)(r:Rec K "spot_groups" jm):gA P w K mg base :=
 br T.ns r (by ac_nf) fun F=>bR (m:=6) F eU rfl (by decide) (d:=j6 uX Bv uv Bu) (fun cdv A outer s H Ex hr=>have hu:=hr.units;af (iU (aJ h0 aK hr (aP 0 a0))) (af (fZ (aW.st (IE (aE (iC T.len (aE (aJ h1 aK hr (aP 0 (aP 1 a0))) a0)) (aE (xI) a0)))) (ai (cz (b9 a0))) (b7)) (af (w5 (j:=2) eU.nd (vs:=["places"]) (NB:=["places"]) (ix:=[]) (by rfl) (bC (aJ h2 aK hr (aP 0 a0))) (fun _ _ _ _=>gN 0) (fun _ _ _ _=>.nil) (fun _ _ _ _ _=>bA (iC T.len (aP 0 a0)))) (af (w5 (j:=3) eU.nd (vs:=["place","degree"]) (NB:=["place","degree"]) (ix:=[]) (by rfl) (G8 T.enumerate (xV 2)) (fun _ _ _ _=>gT (gC 0 (gC 1 g0))) (fun _ _ _ _=>.one (aW.st (xJ hu (aP 1 (aE (xI) a0))))) (fun _ _ _ _ _=>bA (xV 0))) (af (fZ (aW.st (xJ hu (aP 1 (aE (xS) a0)))) (ai (cz (cX (vs:=["end"]) (NB:=["end"]) (ix:=[]) (by rfl) (bC (xV 3)) (fun _ _ _ _=>gN 0) (fun _ _ _ _=>.nil) (fun _ _ _ _ _=>bA (b9 (aE (b9 (aP 0 a0)) (aE (b9 a0) a0))))))) (b7)) (af (aQ 4 eU.nd (cX (vs:=["place","degree"]) (NB:=["place","degree"]) (ix:=[]) (by rfl) (G8 T.enumerate (xV 2)) (fun _ _ _ _=>gT (gC 0 (gC 1 g0))) (fun _ _ _ _=>.one (aW.st (De (aP 1 (aE (xI) a0))))) (fun _ _ _ _ _=>bA (xV 0)))) (af (fZ (oH (tV 4)) (ai (cz (b9 (aE (cX (vs:=["end"]) (NB:=["end"]) (ix:=[]) (by rfl) (bC (xV 3)) (fun _ _ _ _=>gN 0) (fun _ _ _ _=>.nil) (fun _ _ _ _ _=>bA (b9 (aP 0 a0)))) a0)))) (b7)) (af (w5 (j:=5) eU.nd (vs:=["fork"]) (NB:=["fork","web","forks"]) (ix:=[0,4]) (by rfl) (bC (xV 4)) (fun _ _ _ _=>gN 0) (fun _ _ _ _=>.nil) (fun _ _ _ _ _=>bA (aJ h3 BP hr (aP 1 (aP 0 (aP 2 a0)))))) (ai (cz (cX (vs:=["legs"]) (NB:=["legs"]) (ix:=[]) (by rfl) (bC (xV 5)) (fun _ _ _ _=>gN 0) (fun _ _ _ _=>.one (tV 0)) (fun _ _ _ _ _=>bA (xV 0))))))))))))) PB.Mt
abbrev iV:Stmt:=top 23
def sZ:aM ["web","kind"] ["web","kind"] (av iV):=by ac_rfl
def sQ (T:Txt K mg)(h0:gq P w K mg base)(h1:gA P w K mg base)(r:Rec K "tree_choices" iV):lN P w K mg base :=
 br T.ns r (by ac_nf) fun F=>bR (m:=0) F sZ rfl (by decide) (d:=ju lO pK) (fun cdv A outer s H Ex hr=>ai (cz (aJ h0 aK hr (aE (aJ h1 aK hr (aP 0 (aP 1 a0))) (aE (b9 a0) (aE (xI) a0)))))) PB.MG
abbrev l9:Stmt:=top 22
def zE:aM ["groups"] ["groups"] (av l9):=by ac_rfl
def zK (T:Txt K mg)(r:Rec K "spots_of" l9):jI P w K mg base :=
 br T.ns r (by ac_nf) fun F=>bR (m:=3) F zE rfl (by decide) (d:=nO) (fun cdv A outer s H Ex hr=>ai (cz (oJ T.sorted (aE (cX (vs:=["group","spots","spot"]) (NB:=["group","spots","spot"]) (ix:=[]) (by rfl) (bC (xV 0)) (fun _ _ _ _=>gN 0) (fun _ _ _ _=>.nil) (fun _ _ _ _ _=>L0 (bC (xV 0)) (gN 1) (.nil) (L0 (bC (xV 1)) (gN 2) (.nil) (bA (xV 2))))) a0)))) PB.Lq
abbrev kK:Stmt:=top 24
def dM:aM ["web","kind","number","groups","looks","ahead","spot","ways"] ["web","kind","number"] (av kK):=by ac_rfl
def yK (T:Txt K mg)(h0:gA P w K mg base)(h1:gq P w K mg base)(h2:jI P w K mg base)(r:Rec K "choice_by" kK):kZ P w K mg base :=
 br T.ns r (by ac_nf) fun F=>bR (m:=5) F dM rfl (by decide) (d:=mj pK lO pN) (fun cdv A outer s H Ex hr=>af (aQ 3 dM.nd (aJ h0 aK hr (aP 0 (aP 1 a0)))) (af (fZ (oH (aW.st (ve HZ BL rfl (xI) (xV 2) (aJ h1 aK hr (aP 3 (aE (b9 a0) (aE (xI) a0))))))) (ai (qt T.Lu)) (b7)) (af (aQ 4 dM.nd (b9 a0)) (af (aQ 5 dM.nd (xV 2)) (af (gP RK dM.nd (bC (aJ h2 aK hr (aP 3 a0))) (gN 6) (af (aQ 7 dM.nd (aJ h1 aK hr (aP 3 (aE (gg (aP 4 (aE (b9 (aP 6 a0)) a0))) (aE (gg (aP 6 (aE (xI) a0))) a0))))) (ai (fZ (aW.st (IE (aP 5 (aP 7 a0)))) (ai (iU (xM 4 f7 fF Sn So (eC (xV 6) e0)))) (ai (J6 5 dM.nd (xV 7))))))) (ai (lK 4))))))) PB.M6
abbrev kE:Stmt:=top 25
def n6:aM ["groups","looks","many","spots"] ["groups","looks","many"] (av kE):=by ac_rfl
def yy (T:Txt K mg)(h0:jI P w K mg base)(h1:gq P w K mg base)(r:Rec K "is_choice" kE):oG P w K mg base :=
 br T.ns r (by ac_nf) fun F=>bR (m:=2) F n6 rfl (by decide) (d:=lZ pN lO) (fun cdv A outer s H Ex hr=>have hu:=hr.units;af (aQ 3 n6.nd (aJ h0 aK hr (aP 0 a0))) (af (fZ (aW.st (pG.Aq (yc (oW hu (aP 1 (aE (Lk T.sorted T.set (aP 1 a0)) a0))) (p7 (AW (yR (O5 T.all (aE (cX (vs:=["look"]) (NB:=["look","spots"]) (ix:=[3]) (by rfl) (bC (xV 1)) (fun _ _ _ _=>gN 0) (fun _ _ _ _=>.nil) (fun _ _ _ _ _=>bA (Ln hu (aP 0 (aP 1 a0))))) a0)))))))) (ai (cz (xB))) (b7)) (ai (cz (IA hu (aE (aJ h1 aK hr (aP 0 (aP 1 (aP 2 a0)))) (aE (xI) a0))))))) PB.Kw
abbrev ir:Stmt:=top 26
def cN:aM ["web","kind","looks","groups","number","shared","spot"] ["web","kind","looks"] (av ir):=by ac_rfl
def qV (T:Txt K mg)(h0:gA P w K mg base)(h1:oG P w K mg base)(h2:jI P w K mg base)(h3:gq P w K mg base)(r:Rec K "choice_number" ir):kM P w K mg base :=
 br T.ns r (by ac_nf) fun F=>bR (m:=4) F cN rfl (by decide) (d:=iO pK Br pN lO) (fun cdv A outer s H Ex hr=>have hu:=hr.units;af (aQ 3 cN.nd (aJ h0 aK hr (aP 0 (aP 1 a0)))) (af (fZ (oH (aW.st (yR (aJ h1 aK hr (aP 3 (aP 2 (aE (cJ hu (aP 0 (aE (xI) a0))) a0))))))) (ai (qt T.MB)) (b7)) (af (aQ 4 cN.nd (xI)) (af (aQ 5 cN.nd (b9 a0)) (af (gP RK cN.nd (bC (aJ h2 aK hr (aP 3 a0))) (gN 6) (ai (fZ (aW.st (CQ hu (aP 6 (aP 2 a0)))) (ai (iU (xM 5 f7 fF Sn So (eC (xV 6) e0)))) (ai (JW 4 cN.nd (aJ h3 aK hr (aP 3 (aE (gg (aP 5 (aE (b9 (aP 6 a0)) a0))) (aE (gg (aP 6 (aE (xI) a0))) a0))))))))) (ai (lK 4))))))) PB.KO
abbrev l5:Stmt:=top 36
def jH:aM ["web","kind","looks","found"] ["web","kind","looks"] (av l5):=by ac_rfl
def zB (T:Txt K mg)(h0:kM P w K mg base)(r:Rec K "_law_told" l5):lQ P w K mg base :=
 br T.ns r (by ac_nf) fun F=>bR (m:=1) F jH rfl (by decide) (d:=jf Bt) (fun cdv A outer s H Ex hr=>af (aQ 3 jH.nd (xN)) (af (Mh T.ns T.GQ (L3 3 jH.nd h0 hr (fun _ _=>aP 0 (aP 1 (aP 2 a0)))) (fun _=>ai (aQ 3 jH.nd (xN)))) (ai (lK 3)))) PB.JA
abbrev gr:Stmt:=top 37
def f9:aM ["web","kind","looks","look","place","moved","number"] ["web","kind","looks","look","place"] (av gr):=by ac_rfl
def pM (T:Txt K mg)(h0:lQ P w K mg base)(h1:kZ P w K mg base)(r:Rec K "_law_moved_right" gr):jS P w K mg base :=
 br T.ns r (by ac_nf) fun F=>bR (m:=3) F f9 rfl (by decide) (d:=ef qe uP) (fun cdv A outer s H Ex hr=>have hu:=hr.units;af (aQ 5 f9.nd (oJ T.sorted (aE (gg (aE (cX (vs:=["one"]) (NB:=["one","look"]) (ix:=[3]) (by rfl) (bC (xV 2)) (fun _ _ _ _=>gN 0) (fun _ _ _ _=>.one (aW.st (oW hu (aP 0 (aP 1 a0))))) (fun _ _ _ _ _=>bA (xV 0))) (aE (b9 (aP 4 a0)) a0))) a0))) (af (aQ 6 f9.nd (aJ h0 aK hr (aP 0 (aP 1 (aE (v8 T.list (aP 5 a0)) a0))))) (ai (cz (K8 (Pq (aP 6 (aE (xN) a0))) (ME (IA hu (aE (aJ h1 aK hr (aP 0 (aP 1 (aP 6 a0)))) (aP 5 a0))))))))) PB.KL
abbrev kX:Stmt:=top 38
def bT:aM ["pool","web","kind","rows","looks","inside","legs","leg","outside","bare","look","place","moved"] ["pool","web","kind","rows","looks"] (av kX):=by ac_rfl
def wL (T:Txt K mg)(h0:gZ P w K mg base)(h1:jS P w K mg base)(h2:lQ P w K mg base)(r:Rec K "_law_right" kX):pg P w K mg base :=
 br T.ns r (by ac_nf) fun F=>bR (m:=10) F bT rfl (by decide) (d:=iz jE Be qe) (fun cdv A outer s H Ex hr=>have hu:=hr.units;af (aQ 5 bT.nd (b9 a0)) (af (gP RK bT.nd (bC (xV 3)) (gN 6) (ai (gP RK bT.nd (bC (xV 6)) (gN 7) (ai (iU (xM 5 Cb Ce PySem.F.slot_list_extend PySem.F.type_list_extend (eC (xV 7) e0))))))) (af (w5 (j:=8) bT.nd (vs:=["place"]) (NB:=["place","inside"]) (ix:=[5]) (by rfl) (wG T.range (aE (cJ hu (aP 1 (aE (xI) a0))) a0)) (fun _ _ _ _=>gN 0) (fun _ _ _ _=>.one (aW.st (G7 hu (aP 0 (aP 1 a0))))) (fun _ _ _ _ _=>bA (xV 0))) (af (gP RK bT.nd (bC (xV 3)) (gN 6) (af (aQ 9 bT.nd (FT (cx:="leg") (vs:=["leg"]) (NB:=["leg","looks"]) (ix:=[4]) (by rfl) (bC (xV 6)) (fun _ _ _ _ _=>gN 0) (fun _ _ _ _ _=>.one (oH (aW.st (yR (Na T.any (aE (cX (vs:=["look"]) (NB:=["look","leg"]) (ix:=[0]) (by rfl) (bC (xV 1)) (fun _ _ _ _=>gN 0) (fun _ _ _ _=>.nil) (fun _ _ _ _ _=>bA (Ln hu (aP 0 (aP 1 a0))))) a0)))))) (fun _ _ _ _ _ _=>bA (xV 0)))) (af (fZ (aW.st (oW hu (aE (iC T.len (aP 9 a0)) (aE (xI) a0)))) (ai (cz (xB))) (b7)) (ai (gP RK bT.nd (bC (cX (vs:=["some"]) (NB:=["some","bare"]) (ix:=[9]) (by rfl) (bC (xV 6)) (fun _ _ _ _=>gN 0) (fun _ _ _ _=>.one (aW.st (G7 hu (aP 0 (aP 1 a0))))) (fun _ _ _ _ _=>bA (xV 0)))) (gN 7) (af (aQ 10 bT.nd (cJ hu (aE (cX (vs:=["one"]) (NB:=["one","leg"]) (ix:=[7]) (by rfl) (bC (xV 4)) (fun _ _ _ _=>gN 0) (fun _ _ _ _=>.one (aW.st (CQ hu (aP 0 (aP 1 a0))))) (fun _ _ _ _ _=>bA (xV 0))) (aE (xI) a0)))) (af (gP RK bT.nd (bC (b9 (aE (cJ hu (aP 7 (aE (aJ h0 aK hr (aP 0 (aE (iC T.len (aP 7 a0)) a0))) a0))) (aE (cJ hu (aE (cJ hu (aP 9 (aE (xI) a0))) (aE (aJ h0 aK hr (aP 0 (aE (iC T.len (aE (cJ hu (aP 9 (aE (xI) a0))) a0)) a0))) a0))) a0)))) (gN 11) (ai (fZ (aW.st (pG.Aq (Jo (oW hu (aP 11 (aP 10 a0))) (p7 (AW (yR (aJ h1 aK hr (aP 1 (aP 2 (aP 4 (aP 10 (aP 11 a0)))))))))))) (ai (cz (xB))) (b7)))) (ai (fZ (aW.st (oW hu (aP 8 (aE (b9 a0) a0)))) (af (aQ 12 bT.nd (gg (aE (cX (vs:=["one"]) (NB:=["one","look"]) (ix:=[10]) (by rfl) (bC (xV 4)) (fun _ _ _ _=>gN 0) (fun _ _ _ _=>.one (aW.st (oW hu (aP 0 (aP 1 a0))))) (fun _ _ _ _ _=>bA (xV 0))) (aE (b9 (aE (cJ hu (aP 8 (aE (aJ h0 aK hr (aP 0 (aE (iC T.len (aP 8 a0)) a0))) a0))) a0)) a0)))) (ai (fZ (aW.st (Pg (aE (aJ h2 aK hr (aP 1 (aP 2 (aE (oJ T.sorted (aP 12 a0)) a0)))) (aE (xN) a0)))) (ai (cz (xB))) (b7)))) (b7)))))))))) (ai (cz (xB))))))) PB.JD
abbrev yD:Stmt:=top 39
def g9:aM ["script","cells","k","pool","web","rows","count","number","looks","kind"] ["script"] (av yD):=by ac_rfl
def MC (T:Txt K mg)(h0:oU P w K mg base)(h1:qH P w K mg base)(h2:qF P w K mg base)(h3:gZ P w K mg base)(h4:qO P w K mg base)(h5:lN P w K mg base)(h6:kZ P w K mg base)(h7:pg P w K mg base){f:Addr}{fd:FuncData}(F:sI K "law" "law" yD f fd):gj P w K mg base (fh P w) 10 f fd ["script"] (cB mg K [false] uy) :=
 bR (m:=9) F g9 rfl (by decide) (d:=nk sJ wA wu jE BD B7 uP wz) (fun cdv A outer s H Ex hr=>have hu:=hr.units;af (aQ 1 g9.nd (aJ h0 aK hr (aP 0 (aE (xI) a0)))) (af (gP RK g9.nd (wG T.range (aE (Gw T.max (aE (xI) (aE (iC T.len (aP 1 a0)) a0))) a0)) (gN 2) (af (aQ 3 g9.nd (aJ h1 aK hr (aP 1 (aP 2 a0)))) (af (aQ 4 g9.nd (aJ h2 aK hr (aP 3 (aE (cJ hu (aE (b9 (aE (xI) (aE (xI) a0))) (aE (OW T.int (aE (IA hu (aE (aJ h3 aK hr (aP 3 (aE (xI) a0))) (aE (xI) a0))) a0)) a0))) a0)))) (af (aQ 5 g9.nd (aJ h4 aK hr (aP 4 a0))) (ai (fZ (aW.st (oW hu (aP 5 (aE (b9 a0) a0)))) (af (aQ 6 g9.nd (aJ h5 aK hr (aP 4 (aE (xS) a0)))) (af (aQ 7 g9.nd (aJ h3 aK hr (aP 3 (aP 6 a0)))) (af (aQ 8 g9.nd (aJ h6 aK hr (aP 4 (aE (xS) (aP 7 a0))))) (af (fZ (aW.st (pG.Aq (yc (oW hu (aE (aJ h5 aK hr (aP 4 (aE (xS) a0))) (aP 6 a0))) (p7 (oW hu (aE (aJ h6 aK hr (aP 4 (aE (xS) (aP 7 a0)))) (aP 8 a0))))))) (ai (cz (xB))) (b7)) (ai (gP RK g9.nd (bC (b9 (aE (xS) (aE (xS) a0)))) (gN 9) (ai (fZ (oH (aW.st (yR (aJ h7 aK hr (aP 3 (aP 4 (aP 9 (aP 5 (aP 8 a0))))))))) (ai (cz (xB))) (b7))))))))) (b7))))))) (ai (cz (xB))))) PB.Ff
end
def all_mk {l:OpenLaw}{w:World}{K:Frag}{h:Heap}{mg:VE}{fa:Addr}(X:K.In h)(G:h.Ns mainGlobals mg)(hfa:mg "law"=some (.ref fa))
  (qd00:Rec K "_law_cells" kN)
  (qd01:Rec K "_law_pool" lV)
  (qd02:Rec K "_law_take" lX)
  (qd03:Rec K "_law_some" mq)
  (qd04:Rec K "_law_named" kP)
  (qd05:Rec K "_law_tree" mh)
  (qd06:Rec K "_law_pieces" j4)
  (qd07:Rec K "_law_legs" l7)
  (qd08:Rec K "spot_ways" kQ)
  (qd09:Rec K "group_ways" j5)
  (qd10:Rec K "ways_from" kW)
  (qd11:Rec K "is_tree" nG)
  (qd12:Rec K "refuse_no_tree" gI)
  (qd13:Rec K "refuse_no_place" gi)
  (qd14:Rec K "neighbour_lists" fY)
  (qd15:Rec K "piece_behind" iX)
  (qd16:Rec K "pieces_at" kL)
  (qd17:Rec K "legs_at" nP)
  (qd18:Rec K "things_of" kY)
  (qd19:Rec K "spot_groups" jm)
  (qd20:Rec K "tree_choices" iV)
  (qd21:Rec K "spots_of" l9)
  (qd22:Rec K "choice_by" kK)
  (qd23:Rec K "is_choice" kE)
  (qd24:Rec K "choice_number" ir)
  (qd25:Rec K "_law_told" l5)
  (qd26:Rec K "_law_moved_right" gr)
  (qd27:Rec K "_law_right" kX)
  (qd28:Rec K "law" yD)
  (zabs:nsIn K mainGlobals "abs"=some none)
  (zall:nsIn K mainGlobals "all"=some none)
  (zany:nsIn K mainGlobals "any"=some none)
  (zenumerate:nsIn K mainGlobals "enumerate"=some none)
  (zint:nsIn K mainGlobals "int"=some none)
  (zlen:nsIn K mainGlobals "len"=some none)
  (zlist:nsIn K mainGlobals "list"=some none)
  (zmax:nsIn K mainGlobals "max"=some none)
  (zmin:nsIn K mainGlobals "min"=some none)
  (zrange:nsIn K mainGlobals "range"=some none)
  (zset:nsIn K mainGlobals "set"=some none)
  (zsorted:nsIn K mainGlobals "sorted"=some none)
  (ztuple:nsIn K mainGlobals "tuple"=some none)
  (xNoPlace:wK K "NoPlace")
  (xNoSuch:wK K "NoSuch")
  (xNoTree:wK K "NoTree")
  (xNotOne:wK K "NotOne")
  (yexNotOne:CV K ["NoPlace","NoTree","NotOne"] "NotOne"=true) :
  ∃ fd:FuncData,(∀ (s:Shared)(v:Value),BindsTo s fd ⟨[v],[]⟩ [("script",v)])/\∀ base:Heap,K.In base->base.Ns mainGlobals mg->gj l.prog w K mg base (fh l.prog w) 10 fa fd ["script"] (cB mg K [false] uy):=by
 have T:Txt K mg:=⟨Rc X G zabs,Rc X G zall,Rc X G zany,Rc X G zenumerate,Rc X G zint,Rc X G zlen,Rc X G zlist,Rc X G zmax,Rc X G zmin,Rc X G zrange,Rc X G zset,Rc X G zsorted,Rc X G ztuple,(let ⟨C,h1,h2⟩:=xNoPlace;⟨C,mg_of X G h1,h2⟩),(let ⟨C,h1,h2⟩:=xNoSuch;⟨C,mg_of X G h1,h2⟩),(let ⟨C,h1,h2⟩:=xNoTree;⟨C,mg_of X G h1,h2⟩),(let ⟨C,h1,h2⟩:=xNotOne;⟨C,mg_of X G h1,h2⟩),yexNotOne,⟨h,X,G⟩⟩
 obtain ⟨fl,fdl,nl,Fl⟩:=qd28;have e:=hfa.symm.trans (mg_of X G nl);cases e;refine ⟨fdl,?_,fun base _ _=>?_⟩
 ·obtain ⟨_,_,_,_,_,_,_,_,_,rfl,_,_⟩:=Fl.ex;exact fun s v=>.of_eq rfl
 have Hd00:=yu (P:=l.prog) (w:=w) (base:=base) T qd00;have Hd01:=zu (P:=l.prog) (w:=w) (base:=base) T qd01;have Hd02:=zJ (P:=l.prog) (w:=w) (base:=base) T qd02;have Hd03:=zC T Hd02 qd03;have Hd04:=wY T Hd03 qd04;have Hd05:=zy T Hd02 Hd04 qd05;have Hd06:=vX (P:=l.prog) (w:=w) (base:=base) T qd06;have Hd07:=zx T Hd06 qd07;have Hd08:=xo (P:=l.prog) (w:=w) (base:=base) T qd08;have Hd09:=vZ T Hd08 qd09;have Hd10:=xC T Hd09 qd10;have Hd11:=AX (P:=l.prog) (w:=w) (base:=base) T qd11;have Hd12:=qw T Hd11 qd12;have Hd13:=pA (P:=l.prog) (w:=w) (base:=base) T qd13;have Hd14:=oR (P:=l.prog) (w:=w) (base:=base) T qd14;have Hd15:=tK (P:=l.prog) (w:=w) (base:=base) T qd15;have Hd16:=wX T Hd12 Hd13 Hd14 Hd15 qd16;have Hd17:=Bg T Hd16 qd17;have Hd18:=xQ (P:=l.prog) (w:=w) (base:=base) T qd18;have Hd19:=uC T Hd12 Hd18 Hd14 Hd17 qd19;have Hd20:=sQ T Hd10 Hd19 qd20;have Hd21:=zK (P:=l.prog) (w:=w) (base:=base) T qd21;have Hd22:=yK T Hd19 Hd10 Hd21 qd22;have Hd23:=yy T Hd21 Hd10 qd23;have Hd24:=qV T Hd19 Hd23 Hd21 Hd10 qd24;have Hd25:=zB T Hd24 qd25;have Hd26:=pM T Hd25 Hd22 qd26;have Hd27:=wL T Hd02 Hd26 Hd25 qd27;exact MC T Hd00 Hd01 Hd05 Hd02 Hd07 Hd20 Hd22 Hd27 Fl
def walk {l:OpenLaw}{q:Program}{loose:VX}{XP:(VE)->Heap->Prop}{YP:World->Heap->Prop}{d:DefRec}{K:Params->Frag}(hn:l.most=some 63)(hdf:d.params.defaults=[])
  (hY:∀ (w:World)(h:Heap),YP w h->(K w.params).In h)
  (F:∀ (w:World)(mg:VE)(fa:Addr)(h:Heap),(K w.params).In h->h.Ns mainGlobals mg->mg d.name=some (.ref fa) ->
   ∃ fd:FuncData,(∀ (s:Shared)(u:Value),BindsTo s fd ⟨[u],[]⟩ [("script",u)])/\∀ base:Heap,(K w.params).In base->base.Ns mainGlobals mg->gj l.prog w (K w.params) mg base (fh l.prog w) 10 fa fd ["script"] (cB mg (K w.params) [false] uy)) :
  WalkO q loose XP YP l.row.toRowW d [] (fun f vs=>PySem.call f vs):=Cu hn hdf ⟨rfl,by decide,by decide⟩ hY F
end MP
open PySem PySem.W PyProof.Rows Dv
set_option maxRecDepth 100000 in
set_option maxHeartbeats 0 in
theorem PySem.Challenge.cw_farhail_k28_whole_a_look_in_its_leg_holds : PySem.Challenge.rw_farhail_k28_whole_a_look_in_its_leg.Holds := by
 w_on;o_law;k_head;(case hw=>w_witness2)
 k_fill
 refine MP.walk (l:=PySem.Challenge.rw_farhail_k28_whole_a_look_in_its_leg) rfl rfl (fun w h Vf=>PySem.W.kIn_of Vf) ?F
 case F =>
  intro w mg fa h KX G hmg
  refine' MP.all_mk KX G hmg ?_ ?_ ?_ ?_ ?_ ?_ ?_ ?_ ?_ ?_ ?_ ?_ ?_ ?_ ?_ ?_ ?_ ?_ ?_ ?_ ?_ ?_ ?_ ?_ ?_ ?_ ?_ ?_ ?_ ?_ ?_ ?_ ?_ ?_ ?_ ?_ ?_ ?_ ?_ ?_ ?_ ?_ ?_ ?_ ?_ ?_ ?_
  iterate 29
   apply Mn
   iterate 4 (first | k_is | kernel_rfl)
  iterate 13
   first | k_is | kernel_rfl
  iterate 4
   apply Jy
   iterate 2 (first | k_is | kernel_rfl)
  all_goals first | kernel_rfl | k_is
