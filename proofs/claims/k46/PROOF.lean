import PyProof.Rows.All
import PySem.PyData
import Wide.All
import OpenK.AllK
import Wide.FinOn
import Lean
import PyProof.EqAt
import PyProof.EqKinds
import PyProof.TupleCall
import PyProof.SetKind
import PyProof.TupleKey
import PyProof.IsRules
import PyProof.SetRoads
import PyProof.RaisesMany
import PyProof.RulesTry
import PyProof.ExcClass2
import KE.KTryMore
import PyProof.RulesAs
import PyProof.NsDelKeeps
import KE.KDictList
import PyProof.P3In
import PyProof.Rows.SortShellK
import PyProof.TupleOfSeq
import PyProof.WalkInts
import PyProof.SeqI3
import PyProof.SumAnyB
import PyProof.Rows.SeqWords
import PyProof.ListRange
import PyProof.DictValues
import PyProof.DictWalks
import PySem.Challenge.RW_farhail_k46_whole_strengths_by_parters
set_option linter.all false
local macro_rules | `(tactic| ac_rfl) => `(tactic| exact ⟨rfl,rfl,rfl,by decide +kernel,rfl,by decide +kernel,by decide +kernel⟩)
local macro_rules | `(tactic| omega) => `(tactic| lia)
set_option genSizeOf false
set_option genInjectivity false
section
open PySem
abbrev TH:=List (PyData×PyData)
abbrev TN:=Array (Option Value)
abbrev Tn:=Value->Shared->Prop
abbrev Tp:=List Comprehension
abbrev UE:=Str->Option Value
abbrev UG:=List (Addr×Obj)
abbrev UJ:=List (List Nat)
abbrev UL:=Array DictEntry
abbrev UM:=Int->Int->Bool
abbrev UQ:=List (Nat×Nat)
abbrev UT:=List (Int×Int)
abbrev UU:=PySem.W.Frag
abbrev UZ:=Option Value
abbrev Ua:=Array Value
abbrev Ub:=List PyData
abbrev Ue:=Option Addr
abbrev Ug:=List Value
abbrev Uh:=List Addr
abbrev Uk:=List Bool
abbrev Ul:=List Expr
abbrev Up:=List Stmt
abbrev Uq:=List Nat
abbrev Ur:=List Int
abbrev Us:=List Str
end
section
open PySem PySem.Spec PyProof.Rows PySem.W
def R8:=@wpAny_bind
def R9:=@wpAny_pure
def RA:=@List.mem_cons_self
def RB:=@wpS_bind
def RC:=@wpS_pure
def RD:=@List.length_map
def RE:=@Nat.le_refl
def RG:=@List.mem_cons_of_mem
def RH:=@List.mem_singleton
def RI:=@List.mem_map
def RJ:=@List.mem_cons
def RK:=@Bool.and_eq_true
def RL:=@Heap.lt_size
def RM:=@List.mem_append
def RN:=@List.getElem?_map
def RO:=@Heap.get?_push_of_some
def RP:=@List.all_eq_true
def RQ:=@Nat.ne_of_lt
def RS:=@List.getElem?_eq_getElem
def RT:=@List.map_map
def RU:=@List.all_cons
def RV:=@List.size_toArray
def RW:=@List.length_append
def RX:=@Bool.false_ne_true
def RY:=@Nat.lt_of_lt_of_le
def RZ:=@List.map_cons
def Rm:=@List.length_range
def Rn:=@of_decide_eq_true
def Ro:=@List.mem_range
def Rq:=@decide_eq_true
def Rr:=@wpAny_mono
def Rt:=@List.mem_of_getElem?
def Ru:=@List.length_cons
def Rv:=@List.not_mem_nil
def Rw:=@List.map_append
def Rx:=@Heap.get?_push_size
def Ry:=@List.mem_append_right
def Rz:=@Nat.le_trans
def S0:=@List.append_assoc
def S2:=@wpS_mono
def S3:=@wpS_forRange
def S4:=@List.getElem?_eq_none
def S5:=@List.mem_filter
def S6:=@decide_eq_false
def S7:=@List.nodup_cons
def S8:=@Nat.zero_le
def S9:=@List.mem_flatMap
def SA:=@Nat.lt_irrefl
def SD:=@List.lookup_cons
def SG:=@Nat.lt_or_ge
def SH:=@List.length_set
def SJ:=@decide_eq_true_eq
def SK:=@PassesOwn.leaving
def SN:=@List.append_nil
def SO:=@Heap.get?_update_other
def SQ:=@Option.map_eq_some_iff
def SR:=@Array.toList_append
def SV:=@List.getElem?_range
def SW:=@if_false
def SX:=@wpAny_newObj_type
def SY:=@wpAny_rule
def Sa:=@wpAny_holding
def Sb:=@wpS_modify
def Sd:=@List.take_length
def Se:=@mg_none_of
def Sf:=@PySem.W.kia_one
def Sg:=@List.length_replicate
def Sh:=@wpAny_call_entry
def Si:=@List.mem_iff_getElem?
def Sj:=@List.length_take
def Sk:=@List.getD_eq_getElem?_getD
def Sl:=@List.nodup_range
def Sm:=@List.map_congr_left
def Sn:=@True.intro
def So:=@Array.getElem?_toList
def Sq:=@List.nodup_nil
def Ss:=@List.ext_getElem?
def Su:=@Bool.eq_iff_iff
def Sv:=@List.filterMap_cons
def Sw:=@wpAny_truthy_bool
def Sx:=@Array.length_toList
def Sy:=@List.length_drop
def Sz:=@Heap.get?_update_self
def T4:=@List.Perm.append_left
def T5:=@F.plain_min_loop
def T7:=@List.pairwise_iff_getElem
def T8:=@List.filter_sublist
def T9:=@wpAny_standAt
def TF:=@Nat.ne_of_gt
def TJ:=@List.any_cons
def TM:=@Nat.le_of_eq
def TQ:=@List.perm_append_comm
def TR:=@Bool.or_eq_true
def TU:=@List.nodup_append
def TX:=@List.cons.injEq
def TY:=@Nat.min_eq_left
def TZ:=@List.filter_cons
def Tc:=@List.getElem_map
def Td:=@List.contains_eq_mem
def Te:=@List.getElem?_eq_some_iff
def Tf:=@wpAny_passesOwn
def Ti:=@List.getElem?_append_right
def Tj:=@Int.toNat_natCast
def To:=@List.replicate_succ
def Tq:=@wpAny_setField
def Tr:=@Bool.false_eq_true
def Tv:=@Nat.le_add_right
def Tw:=@wpAny_dictEntries
def Tz:=@Heap.SameBut.update
def U0:=@Nat.min_eq_right
def U1:=@List.getElem?_set
def U4:=@List.getElem?_append_left
def U5:=@wpAny_callSpecial?_slot
def U6:=@List.flatten_cons
def UA:=@List.getElem?_of_mem
def UB:=@List.getElem_mem
def UC:=@Obj.data_mapFields
def UD:=@List.take_of_length_le
def UH:=@PySem.F.slot_list_append
def UI:=@PySem.F.type_list_append
def UK:=@Nat.lt_trichotomy
def UN:=@List.mem_append_left
def UO:=@List.getElem?_set_self
def UP:=@List.getElem?_set_ne
def UR:=@PyProof.Rows.callWith_type1
def US:=@PySem.mem_of_lookup
def UW:=@Array.getElem?_eq_getElem
def UX:=@List.Perm.append_right
def UY:=@Nat.add_sub_cancel_left
def Uc:=@List.find?_cons_of_pos
def Ud:=@List.find?_cons_of_neg
def Ui:=@List.map_eq_nil_iff
def Uj:=@Decidable.of_not_not
def Um:=@List.length_pos_of_mem
def Uo:=@List.length_filter_le
def Uw:=@PyProof.Rows.slot_tuple_getitem
def V2:=@Array.getElem?_eq_some_iff
def VL:=@F.slot_dict_keyiterator_next
def VM:=@wpAny_typeNameOfWhole_keyiter
def VP:=@F.slot_dict_valueiterator_next
def VQ:=@wpAny_typeNameOfWhole_valiter
end
noncomputable section
namespace PySem.W.Fast
def tw477849451330670804:=Nat
def tw652682157109028397:=Nat
def tw13838201887419693949:=Nat
def tw12139681114064510434:=Nat
def tw8645551696442176703:=Nat
def tw10733271845869389189:=Nat
def tw11983067885276507338:=Nat
def tw3929149926746038497:=Nat
def tw10122058707350518696:=Nat
def tw12067638659182960986:=Nat
def tw3978135900803287602:=Nat
def tw3043133163473243051:=Nat
def tw13453529209964188664:=Nat
def tw3822434144656462423:=Nat
def tw15879831518352349923:=Nat
def tw6366373114363257777:=Nat
def tw1402946521995805033:=Nat
def tw9042623802152154473:=Nat
def tw17867926980300870654:=Nat
def tw8725721579393625352:=Nat
def tw17959415209206915539:=Nat
def tw7508034121474219011:=Nat
def tw9576373529730447202:=Nat
def tw6349935424215420766:=Nat
def tw5737654526260463369:=Nat
def tw13517855788944663733:=Nat
def tw4352857433869022906:=Nat
def tw15022621188068488586:=Nat
def tw2711671534902794904:=Nat
def tw18183322184896965982:=Nat
def tw14182223131598361578:=Nat
def tw12440821215478926783:=Nat
def tw5828365114846449201:=Nat
def tw11100038214127180920:=Nat
def tw15724477072511180505:=Nat
def tw12883604037339658959:=Nat
def tw15238539218996056731:=Nat
def tw6973005028405920383:=Nat
def tw3385835367950657702:=Nat
def tw10553661790538180418:=Nat
def tw5733663380760959392:=Nat
def tw6027476416763630904:=Nat
def tw12446430298372865608:=Nat
def tw12742071623035867146:=Nat
def tw16903652704952204178:=Nat
def tw12014687870163972233:=Nat
def tw3762648478762049641:=Nat
def tw7468424859063605608:=Nat
def tw16837094172809673469:=Nat
def tw395142707324932466:=Nat
def tw18420677274448638573:=Nat
def tw13722893976228653265:=Nat
def tw12332723139331775677:=Nat
def tw11000732731752657691:=Nat
def tw12672693876043456025:=Nat
def tw6277662137291480615:=Nat
def tw2139370411068493033:=Nat
def tw4812731125908119562:=Nat
def tw5598992125617536639:=Nat
def tw6495516442698772806:=Nat
def tw1138526353956539632:=Nat
def tw13584068512285416697:=Nat
def tw14600160994630563018:=Nat
def tw17279517940039246053:=Nat
def tw4851097261026096684:=Nat
def tw2105759681634870128:=Nat
def tw10989402972709012990:=Nat
def tw11041132002040153613:=Nat
def tw4480436251063277037:=Nat
def tw10284470912063779251:=Nat
def tw2203965500529251334:=Nat
def tw6725897484440253601:=Nat
def tw12590906838439489436:=Nat
def tw9637428797256661382:=Nat
def tw2662245140889068855:=Nat
def tw16643511860897820337:=Nat
def tw1054852710430675602:=Nat
def tw14711430681615196972:=Nat
def tw15407257162235959949:=Nat
def tw15182007333224187103:=Nat
def tw1233124488649139598:=Nat
def tw1417471960714014508:=Nat
def tw17387144433327293959:=Nat
def tw8368105858397197447:=Nat
def tw4177226067376396960:=Nat
def tw14837973544488092484:=Nat
def tw1438947473517690219:=Nat
def tw3263148893621773316:=Nat
def tw14325740554384331642:=Nat
def tw18021076779221821798:=Nat
def tw11966733688880188711:=Nat
def tw18292494125618007491:=Nat
def tw7178782406720744094:=Nat
def tw10911238885723043139:=Nat
def tw1285353999145625065:=Nat
def tw13676053217738653477:=Nat
def tw6036751030380721963:=Nat
def tw14092504246640579734:=Nat
def tw9341185812457160578:=Nat
def tw667593580727309942:=Nat
def tw3327248892805770182:=Nat
def tw6300505215652227199:=Nat
def tw13350095446486630666:=Nat
def tw10094079602316579131:=Nat
def tw1755304962726046282:=Nat
def tw14568416754246275760:=Nat
def tw14694061784323302981:=Nat
def tw17826074485245131265:=Nat
def tw15981924597821758589:=Nat
def tw7543752862130464619:=Nat
def tw16981417460070264819:=Nat
def tw5959440371687648913:=Nat
def tw14041821741147527909:=Nat
def tw13346390728179938054:=Nat
def tw1619415672172346265:=Nat
def tw18146868429681475389:=Nat
def tw3178330491435379270:=Nat
def tw56428696444190809:=Nat
def tw5938264641106535431:=Nat
def tw13921491233482556934:=Nat
def tw14355638349711563147:=Nat
def tw797175796117378244:=Nat
def tw15295925958847226164:=Nat
def tw15442062758821267000:=Nat
def tw13320864403504989340:=Nat
def tw3982646644345143705:=Nat
def tw7966668755883971400:=Nat
def tw8616100646767232598:=Nat
def tw7424506470387071069:=Nat
def tw9859443228559602680:=Nat
def tw1877676586404050396:=Nat
def tw13150529008185445356:=Nat
def tw6455312559875141876:=Nat
def tw3038466102572139694:=Nat
def tw16004024417110232203:=Nat
def tw2223797767385332842:=Nat
def tw8157373989369588736:=Nat
def tw6889995212062361780:=Nat
def tw12185748282321246341:=Nat
def tw3265644429431960821:=Nat
def tw258841979743512908:=Nat
def tw17422863211154464279:=Nat
def tw1905542307328814774:=Nat
def tw11908244184604602616:=Nat
def tw9084783483086307051:=Nat
def tw5248869341593197225:=Nat
def tw13217204528795778751:=Nat
def tw10571554732418100492:=Nat
def tw11356897632068030891:=Nat
def tw7512985042356468747:=Nat
def tw2040507872688797724:=Nat
def tw2045567388950338843:=Nat
def tw4229091162208672437:=Nat
def tw5379775124521000626:=Nat
def tw13207724090862201751:=Nat
def tw2423114769689526298:=Nat
def tw6923796217078707608:=Nat
def tw18440047416823874182:=Nat
def tw8430309042405848427:=Nat
def tw15310796754621657457:=Nat
end PySem.W.Fast
set_option Elab.async false
set_option linter.all false
set_option maxHeartbeats 4000000
set_option maxRecDepth 100000
namespace Dv
open PySem
inductive Kd where
 | sh | ow (p:Bool) | dp (p:Bool) | dk (p:Bool) | dt (p:Bool) | st (p:Bool)
 deriving DecidableEq
def lU (n:Nat) (i:Int):Option Nat:=if 0<=i then (if i < n then some i.toNat else none) else if -(n:Int)<=i then some (i + n).toNat else none
def mQ:PyData->Bool
 | .int _ | .str _=>true
 | _=>false
instance Rk:DecidableEq PyData:=fun a b=>Classical.propDecidable (a=b)
def dS (kvs:TH)(k:PyData):Option PyData:=(kvs.find? fun kv=>decide (kv.1=k)).map (·.2)
def putD (kvs:TH)(k v:PyData):TH:=if (kvs.any fun kv=>decide (kv.1=k))=true then kvs.map (fun kv=>if kv.1=k then (kv.1,v) else kv) else kvs++[(k,v)]
def hi0:Nat:=0
def hi1:Nat:=hi0
def hi2:Nat:=hi1
def QU:Nat:=hi2
def Q3:Nat:=QU
def Rc:Nat:=Q3
def QI:Nat:=Rc
def Q6:Nat:=QI
def Q2:Nat:=Q6
def Ri:Nat:=Q2
def Qm:Nat:=Ri
def QA:Nat:=Qm
def kK:Nat:=QA
abbrev En:=List (Option (Kd×PyData))
abbrev Ut:=En->Kd->PyData->Prop
abbrev Uu:=List (Option PyData)
abbrev Uv:=Option (Kd×PyData)
abbrev Ux:=Kd->PyData->Prop
abbrev Uy:=En->Bool->Prop
abbrev Uz:=En->Prop
abbrev XC:=Str->PyData->Prop
abbrev xF:XC:=fun _ _=>False
abbrev DE:=XC->En->(Ut)->Prop
abbrev DT:=XC->En->(Uy)->Prop
abbrev DI:=XC->En->(En->Ub->Prop)->Prop
structure jt where
 nx:Uz
 rt:Ut
 xc:XC
abbrev DS:=jt->En->Prop
abbrev aZ:=Ub->(Ub->Kd->PyData->Prop)->XC->Prop
def lf:PyData->Bool
 | .none | .bool _ | .int _ | .str _=>true
 | .tuple ds=>lfs ds
 | .list _ | .dict _=>false
where lfs:Ub->Bool
 | []=>true
 | d::ds=>lf d && lfs ds
theorem u5:∀ ds:Ub,lf.lfs ds=ds.all lf
 | []=>by rw [lf.lfs];rfl
 | d::ds=>by rw [lf.lfs,u5 ds];rfl
def Bt:PyData->Bool
 | .list _=>true
 | _=>false
def flat:Kd->PyData->Bool
 | .sh,d=>lf d
 | .ow _,.list ds=>ds.all lf
 | .dp _,.list ds=>ds.all fun d=>match d with | .list es=>es.all lf | d=>lf d
 | .dk _,.dict kvs=>kvs.all fun kv=>lf kv.2
 | .dt _,.dict kvs=>kvs.all fun kv=>lf kv.2
 | _,_=>false
def Kd.fz:Kd->Bool
 | .sh | .ow false | .dp false | .dk false | .dt false=>true
 | _=>false
def Kd.rd:Kd->Bool
 | .st _=>false
 | _=>true
def Kd.pin:Kd->Bool
 | .ow p | .dp p | .dk p | .dt p | .st p=>p
 | .sh=>false
def dD (E:En) (i:Nat):Option En:=match E[i]? with
 | some (some (k,d))=>if k.fz then some (E.set i (some (.sh,d))) else none
 | _=>none
def eu:Uq->En->Option En
 | [],E=>some E
 | i::r,E=>(dD E i).bind (eu r)
inductive Arg where
 | pk (i:Nat) | ev (d:DE)
def iQ:List Arg->Uq
 | []=>[]
 | .pk i::r=>i::iQ r
 | .ev _::r=>iQ r
def here (E:En) (i:Nat):Bool:=match E[i]? with
 | some (some _)=>true
 | _=>false
def fill:List Arg->En->List (Option PyData)->Option (Ub)
 | [],_,[]=>some []
 | .pk i::r,E,none::os=>match E[i]? with
  | some (some (k,d))=>if k.rd then (fill r E os).map (d::·) else none
  | _=>none
 | .ev _::r,E,some v::os=>(fill r E os).map (v::·)
 | _,_,_=>none
def kM (E:En) (i:Nat):Bool:=match E[i]? with
 | some (some (.sh,_))=>true
 | _=>false
theorem zo {E:En}:∀ {is:Uq},is.all (kM E)=true->eu is E=some E
 | [],_=>rfl
 | i::r,h=>by
  rw [RU,RK] at h;have e:dD E i=some E:=by
   have h1:=h.1;unfold kM at h1;unfold dD;split at h1
   ·rename_i d e;rw [e];show some (E.set i (some (.sh,d)))=some E;congr 1;refine Ss fun j=>?_
    rw [U1]
    by_cases c:i=j
    ·subst c;rw [if_pos rfl,e];have l:i < E.length:=by
      rcases SG i E.length with z | z
      ·exact z
      ·rw [S4 z] at e;cases e
     rw [if_pos l]
    ·rw [if_neg c]
   ·cases h1
  show (dD E i).bind (eu r)=some E;rw [e];exact zo h.2
def Pu (as:List Arg)(E:En)(k:Kd)(v:PyData):Option En:=if ((iQ as).all (kM E) || flat k v)=true then some E else eu (iQ as) E
def xX {is:Uq}{E E2:En}{b:Bool}(h:(if (is.all (kM E) || b)=true then some E else eu is E)=some E2):(if b=true then some E else eu is E)=some E2:=by
 cases hs:is.all (kM E) with
 | true =>
  rw [hs,Bool.true_or,if_pos rfl] at h;rw [zo hs,h,ite_self]
 | false =>
  rw [hs,Bool.false_or] at h;exact h
abbrev DR:=Ub->(Ux)->Prop
def dC (v:PyData):DE:=fun _ E Q=>(fun _:Nat=>Q E .sh v) kK
def sN:Uk->List Arg->Ub->En->Option En
 | [],[],[],E=>some E
 | false::ms,_::r,us,E=>sN ms r us E
 | true::ms,.pk i::r,u::us,E=>match E[i]? with
  | some (some (.ow p,.list _))=>if Bt u then sN ms r us (E.set i (some (.ow p,u))) else none
  | _=>none
 | _,_,_,_=>none
def lent:Uk->List Arg->Uq
 | true::ms,.pk i::r=>i::lent ms r
 | _::ms,_::r=>lent ms r
 | _,_=>[]
def kept:Uk->List Arg->Uq
 | false::ms,.pk i::r=>i::kept ms r
 | _::ms,_::r=>kept ms r
 | _,_=>[]
def shape:Uk->List Arg->Bool
 | [],[]=>true
 | true::ms,.pk _::r=>shape ms r
 | false::ms,_::r=>shape ms r
 | _,_=>false
def yS (ms:Uk)(as:List Arg)(E:En):Bool:=shape ms as && decide (lent ms as).Nodup && (lent ms as).all (fun i=>!(kept ms as).contains i && (match E[i]? with | some (some (.ow _,.list _))=>true | _=>false))
def Lb (ms:Uk)(as:List Arg)(us:Ub)(E:En)(k:Kd)(v:PyData):Option En:=if ((kept ms as).all (kM E) || (flat k v && us.all (flat (.ow false))))=true then some E else eu (kept ms as) E
def lX:PyData->Option Bool
 | .bool b=>some b
 | .int i=>some (!decide (i=0))
 | .none=>some false
 | .str _=>none
 | .list ds=>some !ds.isEmpty
 | .tuple ds=>some !ds.isEmpty
 | .dict _=>none
def LG (d:DE):DT:=fun x E Q=>d x E fun E' _ v=>∃ b,lX v=some b/\Q E' b
def yu (t:DT):DT:=fun x E Q=>(fun _:Nat=>t x E fun E' b=>Q E' (!b)) kK
def LJ (a b:DE):DE:=fun x E Q=>a x E fun E1 _ v=>∃ c,v=.bool c/\if c=true then b x E1 Q else Q E1 .sh (.bool false)
def PC (a b:DE):DE:=fun x E Q=>a x E fun E1 _ v=>∃ c,v=.bool c/\if c=true then Q E1 .sh (.bool true) else b x E1 Q
def Mf (a:DE):DE:=fun x E Q=>a x E fun E1 _ v=>∃ c,lX v=some c/\Q E1 .sh (.bool !c)
def ES (f f':UM)(a b c:DE):DE:=fun x E Q=>a x E fun E1 _ u=>∃ i,u=.int i/\b x E1 fun E2 _ v=>∃ j,v=.int j/\if f i j=true then c x E2 fun E3 _ w=>∃ k,w=.int k/\Q E3 .sh (.bool (f' j k)) else Q E2 .sh (.bool false)
def PU (c:DT)(a b:DE):DE:=fun x E Q=>c x E fun E1 t=>if t=true then a x E1 Q else b x E1 Q
def cR:DS:=fun D E=>(fun _:Nat=>D.nx E) kK
def aC (a b:DS):DS:=fun D E=>(fun _:Nat=>a { D with nx:=b D } E) kK
def qR (a b:DS):DS:=fun D E=>∃ J:Uz,a { D with nx:=J } E/\∀ E',J E'->b D E'
def Na (c:DT)(a b:DS):DS:=fun D E=>c D.xc E fun E1 t=>if t=true then a D E1 else b D E1
def b9 (E:En) (i:Nat):Bool:=match E[i]? with
 | some (some (k,_))=>!k.pin
 | some none=>true
 | none=>false
def N5 (i:Nat)(e:DE):DS:=fun D E=>e D.xc E fun E' k v=>b9 E' i=true/\D.nx (E'.set i (some (k,v)))
inductive Tg where
 | nm (i:Nat) | tp (is:Uq)
def Tg.slots:Tg->Uq
 | .nm i=>[i]
 | .tp is=>is
def b7:Uq->Ub->En->Option En
 | [],[],E=>some E
 | i::is,d::ds,E=>if b9 E i then b7 is ds (E.set i (some (.sh,d))) else none
 | _,_,_=>none
def cM:Tg->PyData->En->Option En
 | .nm i,d,E=>b7 [i] [d] E
 | .tp is,.tuple ds,E=>b7 is ds E
 | _,_,_=>none
def bH (e:DE):DS:=fun D E=>(fun _:Nat=>e D.xc E D.rt) kK
def jJ (E:En) (i:Nat):Bool:=match E[i]? with
 | some (some (.ow _,.list _))=>true
 | _=>false
abbrev DM:=Ub->Ub->(Ub->PyData->Prop)->Prop
def t8:TH->Bool
 | (.none,_)::_=>false
 | _=>true
def yt (most:Nat) (i:Nat)(e:DE):DS:=fun D E=>jJ E i=true/\e D.xc E fun E1 k v=>k.fz=true/\∃ p ds es,E1[i]?=some (some (.ow p,.list ds))/\v=.list es/\ds.length + es.length<=most/\D.nx (E1.set i (some (.ow p,.list (ds++es))))
def yG (f:DM) (i:Nat)(j:DE) (n:Nat):DE:=fun x E Q=>here E i=true/\j x E fun E1 _ w=>∃ a p ds m es k d E2,w=.int a/\E1[i]?=some (some (.dp p,.list ds))/\lU ds.length a=some m/\ds[m]?=some (.list es)/\E1[n]?=some (some (k,d))/\i≠n/\dD E1 n=some E2/\f es [d] fun new v=>Q (E2.set i (some (.dp p,.list (ds.set m (.list new))))) .sh v
def lq (c:Str):DS:=fun D _=>(fun _:Nat=>D.xc c .none) kK
def dM (e:DE):DS:=fun D E=>(fun _:Nat=>e D.xc E fun E' _ _=>D.nx E') kK
def fM (it:DI)(tg:Tg)(b:DS):DS:=fun D E=>(fun _:Nat=>it D.xc E fun E1 xs=>∃ I:Nat->En->Prop,I 0 E1/\(∀ i d E,xs[i]?=some d->I i E->∃ E2,cM tg d E=some E2/\b { D with nx:=I (i + 1) } E2)/\∀ E,I xs.length E->D.nx E) kK
def uQ (c:DT)(b:DS):DS:=fun D E=>∃ W:Nat->En->Prop,(∃ m,W m E)/\∀ m E,W m E->c D.xc E fun E1 t=>if t=true then b { D with nx:=fun E'=>∃ m',m' < m/\W m' E' } E1 else D.nx E1
def items:PyData->Option (Ub)
 | .list ds=>some ds
 | .tuple ds=>some ds
 | _=>none
def oE (e:DE):DI:=fun x E Q=>e x E fun E' k v=>k.fz=true/\∃ ds,items v=some ds/\Q E' ds
def j4 (ds:Ub):Ub:=ds.zipIdx.map fun p=>.tuple [.int p.2,p.1]
def Pj (e:DE):DI:=fun x E Q=>e x E fun E' k v=>k.fz=true/\∃ ds,v=.list ds/\Q E' (j4 ds)
def bD:Uq->En->Option En
 | [],E=>some E
 | i::r,E=>if b9 E i then bD r (E.set i none) else none
abbrev DC:=XC->Ub->En->(Ub->En->Prop)->Prop
def dR:DT:=fun _ E Q=>(fun _:Nat=>Q E true) kK
def bL (most:Nat)(e:DE):DC:=fun x ys E Q=>e x E fun E1 k v=>k.fz=true/\ys.length < most/\Q (ys++[v]) E1
def FL (it:DI)(tg:Tg)(c:DT)(r:DC):DC:=fun x ys E Q=>(fun _:Nat=>it x E fun E1 xs=>∃ I:Nat->Ub->En->Prop,I 0 ys E1/\(∀ i d ys E,xs[i]?=some d->I i ys E->∃ E2,cM tg d E=some E2/\c x E2 fun E3 b=>if b=true then r x ys E3 (I (i + 1)) else I (i + 1) ys E3)/\∀ ys E,I xs.length ys E->Q ys E) kK
def br (cs:Uq)(it:DI)(tg:Tg)(c:DT)(r:DC):DE:=fun x E Q=>(fun _:Nat=>it x E fun E1 xs=>∃ (E0:En)(I:Nat->Ub->En->Prop),bD cs E1=some E0/\I 0 [] E0/\(∀ i d ys E,xs[i]?=some d->I i ys E->∃ E2,cM tg d E=some E2/\c xF E2 fun E3 b=>if b=true then r xF ys E3 (I (i + 1)) else I (i + 1) ys E3)/\∀ ys E,I xs.length ys E->∃ E2,bD cs E=some E2/\Q E2 (.ow false) (.list ys)) kK
def qT (most:Nat)(cs:Uq)(it:DI)(tg:Tg)(c:DT)(e:DE):DE:=fun x E Q=>(fun _:Nat=>it x E fun E1 xs=>∃ (E0:En)(I:Nat->Ub->En->Prop),bD cs E1=some E0/\I 0 [] E0/\(∀ i d ys E,xs[i]?=some d->I i ys E->∃ E2,cM tg d E=some E2/\c xF E2 fun E3 b=>if b=true then e xF E3 (fun E4 k v=>(∃ p,k=.ow p)/\ys.length < most/\I (i + 1) (ys++[v]) E4) else I (i + 1) ys E3)/\∀ ys E,I xs.length ys E->∃ E2,bD cs E=some E2/\Q E2 (.dp false) (.list ys)) kK
def kR (lo:Int) (n:Nat):Ub:=(List.range n).map fun i:Nat=>PyData.int (lo + i)
def aO {α:Type}(o:Option α)(Q:α->Prop):Prop:=match o with
 | some a=>Q a
 | none=>False
def dX {α:Sort u}(b:Bool)(x y:α):α:=match b with
 | true=>x
 | false=>y
def bM:Uv->Bool
 | some (k,_)=>!k.pin
 | none=>true
def tP (E:En) (i:Nat):Bool:=match E[i]? with
 | some o=>bM o
 | none=>false
def bK (b:Bool)(P:Prop):Prop:=match b with
 | true=>P
 | false=>False
def kP:List Arg->XC->En->(En->List (Option PyData)->Prop)->Prop
 | [],_,E,Q=>Q E []
 | .pk i::r,x,E,Q=>bK (here E i) (kP r x E fun E' os=>Q E' (none::os))
 | .ev d::r,x,E,Q=>d x E fun E1 k v=>bK k.fz (kP r x E1 fun E' os=>Q E' (some v::os))
def sY (E:En) (i:Nat):Option En:=match E[i]? with
 | some (some (k,d))=>dX k.fz (some (E.set i (some (.sh,d)))) none
 | _=>none
def jX:Uq->En->Option En
 | [],E=>some E
 | i::r,E=>(sY E i).bind (jX r)
def dN:List Arg->En->List (Option PyData)->Option (Ub)
 | [],_,[]=>some []
 | .pk i::r,E,none::os=>match E[i]? with
  | some (some (k,d))=>dX k.rd ((dN r E os).map (d::·)) none
  | _=>none
 | .ev _::r,E,some v::os=>(dN r E os).map (v::·)
 | _,_,_=>none
def sE (as:List Arg)(E:En)(k:Kd)(v:PyData):Option En:=dX ((iQ as).all (kM E) || flat k v) (some E) (jX (iQ as) E)
def EN (E:En) (i:Nat)(Q:Ut):Prop:=match E[i]? with
 | some (some (_,d))=>aO (sY E i) fun E'=>Q E' .sh d
 | _=>False
def zc (r:DR)(as:List Arg)(E:En)(os:Uu)(Q:Ut):Prop:=aO (dN as E os) fun ds=>r ds fun k v=>aO (sE as E k v) fun E2=>Q E2 k v
def ni (i:Nat):Uq->Bool
 | []=>false
 | j::r=>i == j || ni i r
def qN:Uq->Uq->En->Bool
 | [],_,_=>true
 | i::r,ks,E=>(!ni i ks && !ni i r && jJ E i) && qN r ks E
def t9 (ms:Uk)(as:List Arg)(E:En):Bool:=shape ms as && qN (lent ms as) (kept ms as) E
def kL:Uk->List Arg->Ub->En->Option En
 | [],[],[],E=>some E
 | false::ms,_::r,us,E=>kL ms r us E
 | true::ms,.pk i::r,u::us,E=>match E[i]? with
  | some (some (.ow p,.list _))=>dX (Bt u) (kL ms r us (E.set i (some (.ow p,u)))) none
  | _=>none
 | _,_,_,_=>none
def uo (ms:Uk)(as:List Arg)(us:Ub)(E:En)(k:Kd)(v:PyData):Option En:=dX ((kept ms as).all (kM E) || (flat k v && us.all (flat (.ow false)))) (some E) (jX (kept ms as) E)
def Dc (ms:Uk)(as:List Arg)(E:En)(us:Ub)(k:Kd)(v:PyData)(Q:Ut):Prop:=aO (kL ms as us E) fun E2=>aO (uo ms as us E2 k v) fun E3=>Q E3 k v
def DY (sp:aZ)(ms:Uk)(as:List Arg)(x:XC)(E:En)(os:Uu)(Q:Ut):Prop:=aO (dN as E os) fun ds=>bK (t9 ms as E) (sp ds (fun us k v=>Dc ms as E us k v Q) x)
def ux (v:PyData)(Q:Bool->Prop):Prop:=aO (lX v) Q
def EE (E:En) (i:Nat)(Q:Uy):Prop:=match E[i]? with
 | some (some (k,d))=>bK k.rd (ux d (Q E))
 | _=>False
def Bq (v:PyData)(Q:Bool->Prop):Prop:=match v with
 | .bool b=>Q b
 | _=>False
def rP (v:PyData)(Q:Int->Prop):Prop:=match v with
 | .int i=>Q i
 | _=>False
def Ij (v:PyData)(Q:Ub->Prop):Prop:=aO (items v) Q
def wU (v:PyData)(Q:Ub->Prop):Prop:=match v with
 | .list xs=>Q xs
 | _=>False
def Df (E:En) (i:Nat)(Q:Ut):Prop:=match E[i]? with
 | some (some (k,d))=>bK (!k.pin) (Q (E.set i none) k d)
 | _=>False
def FE (f:DM) (i:Nat)(as:List Arg)(E:En)(os:Uu)(Q:Ut):Prop:=aO (dN as E os) fun args=>match E[i]? with
 | some (some (.ow p,.list ds))=>f ds args fun new v=>Q (E.set i (some (.ow p,.list new))) .sh v
 | _=>False
def Nn (f:Int->Int->Int)(E:En) (i:Nat)(v:PyData)(Q:Uz):Prop:=match E[i]? with
 | some (some (_,.int a))=>rP v fun b=>Q (E.set i (some (.sh,.int (f a b))))
 | _=>False
def stK:Uq->Ub->En->Option En
 | [],[],E=>some E
 | i::is,d::ds,E=>dX (tP E i) (stK is ds (E.set i (some (.sh,d)))) none
 | _,_,_=>none
def IX (is:Uq)(v:PyData)(E:En)(Q:Uz):Prop:=match v with
 | .tuple ds=>aO (stK is ds E) Q
 | _=>False
def zR (n:Nat) (i:Int):Option Nat:=match i with
 | .ofNat k=>dX (Nat.blt k n) (some k) none
 | .negSucc k=>lU n (.negSucc k)
def aX (i:Nat):DE:=fun _ E Q=>EN E i Q
def ah (r:DR)(as:List Arg):DE:=fun x E Q=>kP as x E fun E1 os=>zc r as E1 os Q
def aA (sp:aZ)(ms:Uk)(as:List Arg):DE:=fun x E Q=>kP as x E fun E1 os=>DY sp ms as x E1 os Q
def bG (d:DE):DT:=fun x E Q=>d x E fun E' _ v=>ux v (Q E')
def Gf (i:Nat):DT:=fun _ E Q=>EE E i Q
def kE (a b:DE):DE:=fun x E Q=>a x E fun E1 _ v=>Bq v fun c=>dX c (b x E1 Q) (Q E1 .sh (.bool false))
def p8 (a b:DE):DE:=fun x E Q=>a x E fun E1 _ v=>Bq v fun c=>dX c (Q E1 .sh (.bool true)) (b x E1 Q)
def pe (a:DE):DE:=fun x E Q=>a x E fun E1 _ v=>ux v fun c=>Q E1 .sh (.bool !c)
def kg (f f':UM)(a b c:DE):DE:=fun x E Q=>a x E fun E1 _ u=>rP u fun i=>b x E1 fun E2 _ v=>rP v fun j=>dX (f i j) (c x E2 fun E3 _ w=>rP w fun k=>Q E3 .sh (.bool (f' j k))) (Q E2 .sh (.bool false))
def AI (c:DT)(a b:DE):DE:=fun x E Q=>c x E fun E1 t=>dX t (a x E1 Q) (b x E1 Q)
def cE (c:DT)(a b:DS):DS:=fun D E=>c D.xc E fun E1 t=>dX t (a D E1) (b D E1)
def aS (i:Nat)(e:DE):DS:=fun D E=>e D.xc E fun E' k v=>bK (tP E' i) (D.nx (E'.set i (some (k,v))))
def tD (is:Uq)(e:DE):DS:=fun D E=>e D.xc E fun E' k v=>bK k.fz (IX is v E' D.nx)
def mX (i:Nat):DS:=fun D E=>Df E i D.rt
def uU (f:DM) (i:Nat)(es:List DE):DE:=fun x E Q=>bK (jJ E i) (kP (es.map .ev) x E fun E1 os=>FE f i (es.map .ev) E1 os Q)
def fH (i:Nat)(j:DE)(e:DE):DS:=fun D E=>e D.xc E fun E1 k v=>bK k.fz (bK (here E1 i) (j D.xc E1 fun E2 k2 w=>bK k2.fz (setI E2 i w v D.nx)))
where setI (E:En) (i:Nat)(w v:PyData)(Q:Uz):Prop:=match E[i]?,w with
 | some (some (.ow p,.list ds)),.int a=>aO (zR ds.length a) fun n=>Q (E.set i (some (.ow p,.list (ds.set n v))))
 | some (some (.dk p,.dict kvs)),w=>(mQ w=true/\kvs.length < 16777216)/\Q (E.set i (some (.dk p,.dict (putD kvs w v))))
 | some (some (.dt p,.dict (_::kvs))),.tuple ks=>(ks.all mQ=true/\kvs.length < 16777216)/\Q (E.set i (some (.dt p,.dict ((.none,.none)::putD kvs (.tuple ks) v))))
 | _,_=>False
def QD (f:Int->Int->Int) (i:Nat)(e:DE):DS:=fun D E=>bK (here E i) (e D.xc E fun E1 _ v=>Nn f E1 i v D.nx)
def iE (e:DE):DI:=fun x E Q=>e x E fun E' k v=>bK k.fz (Ij v fun ds=>Q E' ds)
def jy (g:Ub->Option (Ub))(as:List Arg):DI:=fun x E Q=>kP as x E fun E1 os=>aO (dN as E1 os) fun ds=>aO (g ds) fun xs=>Q E1 xs
def wk (e:DE):DI:=fun x E Q=>e x E fun E' k v=>bK k.fz (wU v fun ds=>Q E' (j4 ds))
def xT (a b:DE):DI:=fun x E Q=>a x E fun E1 k v=>bK k.fz (b x E1 fun E2 k2 v2=>bK k2.fz (wU v fun ds=>wU v2 fun es=>Q E2 ((ds.zip es).map fun p=>.tuple [p.1,p.2])))
def bS {α:Type}{o:Option α}{Q:α->Prop}:(∃ a,o=some a/\Q a)=aO o Q:=by
 cases o with
 | none=>exact propext ⟨fun ⟨a,e,_⟩=>(by cases e),fun h=>h.elim⟩
 | some a=>exact propext ⟨fun ⟨b,e,q⟩=>by cases e;exact q,fun h=>⟨a,rfl,h⟩⟩
def eE {b:Bool}{P:Prop}:bK b P=(b=true/\P):=by
 cases b with
 | true=>exact propext ⟨fun h=>⟨rfl,h⟩,fun h=>h.2⟩
 | false=>exact propext ⟨fun h=>h.elim,fun h=>by cases h.1⟩
universe u
def cB {α:Sort u}{b:Bool}{x y:α}:dX b x y=if b=true then x else y:=by cases b <;> rfl
def Ar {E:En}{i:Nat}:sY E i=dD E i:=by
 unfold sY dD;split
 ·rw [cB]
 ·rfl
theorem sF:∀ {is:Uq}{E:En},jX is E=eu is E
 | [],_=>rfl
 | i::r,E=>by
  rw [jX,eu,Ar];congr 1;funext E1;exact sF
theorem gn:∀ {as:List Arg}{E:En}{os:Uu},dN as E os=fill as E os
 | [],_,[]=>rfl
 | [],_,_::_=>rfl
 | .pk i::r,E,none::os=>by
  rw [dN,fill,gn];split
  ·rw [cB]
  ·rfl
 | .ev _::r,E,some v::os=>by rw [dN,fill,gn]
 | .pk _::_,_,[]=>rfl
 | .pk _::_,_,some _::_=>rfl
 | .ev _::_,_,[]=>rfl
 | .ev _::_,_,none::_=>rfl
def Bo {as:List Arg}{E:En}{k:Kd}{v:PyData}:sE as E k v=Pu as E k v:=by
 unfold sE Pu;rw [cB,sF]
theorem vt {i:Nat}:∀ {l:Uq},ni i l=l.contains i
 | []=>rfl
 | j::r=>by rw [ni,List.contains_cons,vt]
theorem Bs {ks:Uq}{E:En}:∀ {l:Uq},qN l ks E=(decide l.Nodup && l.all fun i=>!ks.contains i && jJ E i)
 | []=>rfl
 | i::r=>by
  rw [qN,Bs,vt,vt,RU];have:decide (i::r).Nodup=(!r.contains i && decide r.Nodup):=by
   rw [Su];simp [Td]
  rw [this];cases ks.contains i <;> cases r.contains i <;> cases jJ E i <;> cases decide r.Nodup <;> rfl
def Hz {ms:Uk}{as:List Arg}{E:En}:t9 ms as E=yS ms as E:=by
 unfold t9 yS;rw [Bs,Bool.and_assoc];rfl
theorem vV:∀ {ms:Uk}{as:List Arg}{us:Ub}{E:En},kL ms as us E=sN ms as us E
 | [],[],[],E=>rfl
 | [],[],_::_,E=>rfl
 | [],_::_,_,E=>rfl
 | false::ms,_::r,us,E=>by rw [kL,sN,vV]
 | false::ms,[],us,E=>rfl
 | true::ms,[],us,E=>rfl
 | true::ms,.ev _::_,us,E=>rfl
 | true::ms,.pk i::r,[],E=>rfl
 | true::ms,.pk i::r,u::us,E=>by
  rw [kL,sN];split
  ·rw [cB,vV]
  ·rfl
def HS {ms:Uk}{as:List Arg}{us:Ub}{E:En}{k:Kd}{v:PyData}:uo ms as us E k v=Lb ms as us E k v:=by
 unfold uo Lb;rw [cB,sF]
def CM {v:PyData}{Q:Bool->Prop}:(∃ b,lX v=some b/\Q b)=ux v Q:=bS
def Jl {v:PyData}{Q:Bool->Prop}:(∃ b,v=.bool b/\Q b)=Bq v Q:=by
 cases v with
 | bool b=>exact propext ⟨fun ⟨c,e,q⟩=>by cases e;exact q,fun h=>⟨b,rfl,h⟩⟩
 | _=>exact propext ⟨fun ⟨c,e,_⟩=>(by cases e),fun h=>h.elim⟩
def OC {v:PyData}{Q:Int->Prop}:(∃ b,v=.int b/\Q b)=rP v Q:=by
 cases v with
 | int b=>exact propext ⟨fun ⟨c,e,q⟩=>by cases e;exact q,fun h=>⟨b,rfl,h⟩⟩
 | _=>exact propext ⟨fun ⟨c,e,_⟩=>(by cases e),fun h=>h.elim⟩
def C0 {v:PyData}{Q:Ub->Prop}:(∃ b,v=.list b/\Q b)=wU v Q:=by
 cases v with
 | list b=>exact propext ⟨fun ⟨c,e,q⟩=>by cases e;exact q,fun h=>⟨b,rfl,h⟩⟩
 | _=>exact propext ⟨fun ⟨c,e,_⟩=>(by cases e),fun h=>h.elim⟩
def Bx {E:En}{i:Nat}:tP E i=b9 E i:=by
 unfold b9 tP bM;generalize E[i]?=z;rcases z with _ | _ | ⟨k,d⟩ <;> rfl
theorem Dz:∀ {is:Uq}{ds:Ub}{E:En},stK is ds E=b7 is ds E
 | [],[],E=>rfl
 | [],_::_,E=>rfl
 | _::_,[],E=>rfl
 | i::is,d::ds,E=>by rw [stK,b7,cB,Dz,Bx]
def xJ {n:Nat}{i:Int}:zR n i=lU n i:=by
 cases i with
 | ofNat k =>
  unfold zR lU;show dX (Nat.blt k n) (some k) none=_;rw [if_pos (show (0:Int)<=Int.ofNat k from Int.natCast_nonneg k),cB]
  have:(Nat.blt k n=true)=((Int.ofNat k) < (n:Int)):=propext ⟨fun h=>Int.ofNat_lt.mpr (Nat.blt_eq.mp h),fun h=>Nat.blt_eq.mpr (Int.ofNat_lt.mp h)⟩
  simp only [this];rfl
 | negSucc k=>rfl
def KA {d:DE}:bG d=LG d:=by
 funext x E Q;unfold bG LG;simp only [CM]
def A9 {a b:DE}:kE a b=LJ a b:=by
 funext x E Q;unfold kE LJ;simp only [Jl,cB]
def FH {a b:DE}:p8 a b=PC a b:=by
 funext x E Q;unfold p8 PC;simp only [Jl,cB]
def AW {a:DE}:pe a=Mf a:=by
 funext x E Q;unfold pe Mf;simp only [CM]
def wI {f f':UM}{a b c:DE}:kg f f' a b c=ES f f' a b c:=by
 funext x E Q;unfold kg ES;simp only [OC,cB]
def Mk {c:DT}{a b:DE}:AI c a b=PU c a b:=by
 funext x E Q;unfold AI PU;simp only [cB]
def J7 {c:DT}{a b:DS}:cE c a b=Na c a b:=by
 funext D E;unfold cE Na;simp only [cB]
def qY {i:Nat}{e:DE}:aS i e=N5 i e:=by
 funext D E;unfold aS N5;simp only [eE,Bx]
def O6 {e:DE}:iE e=oE e:=by
 funext x E Q;unfold iE oE;simp only [eE,bS];rfl
def NP {e:DE}:wk e=Pj e:=by
 funext x E Q;unfold wk Pj;simp only [eE,C0]
end Dv
namespace L2
open PySem PySem.Spec PyProof.Rows
abbrev Key:=Sum Int Str
def qZ:Key->Value->Bool
 | .inl k,v=>Value.isInt k v
 | .inr x,v=>Value.isStrOf x v
def PX (w:World):Key->Int
 | .inl k=>hashInt k
 | .inr x=>hashStr w x
def dG:∀ {k:Key}{v:Value},qZ k v=true->(∃ i t,k=Sum.inl i/\v=Value.int i t)\/(∃ x t,k=Sum.inr x/\v=Value.str x t)
 | .inl i,v,h=>by
  obtain ⟨t,e⟩:=Value.isInt_shape (k:=i) (v:=v) h;exact .inl ⟨i,t,rfl,e⟩
 | .inr x,v,h=>by
  obtain ⟨t,e⟩:=Value.isStrOf_shape (x:=x) (v:=v) h;exact .inr ⟨x,t,rfl,e⟩
def Ea (i:Int)(t:Tok):qZ (.inl i) (.int i t)=true:=by simp [qZ,Value.isInt]
def EW (x:Str)(t:Tok):qZ (.inr x) (.str x t)=true:=by simp [qZ,Value.isStrOf]
def Li (a b:Int):decide ((Sum.inl a:Key)=Sum.inl b)=(a == b):=by
 by_cases e:a=b
 ·subst e;simp
 ·have h:¬ (Sum.inl a:Key)=Sum.inl b:=fun q=>e (Sum.inl.inj q)
  rw [S6 h];exact (beq_eq_false_iff_ne.mpr e).symm
def LY (a b:Str):decide ((Sum.inr a:Key)=Sum.inr b)=decide (a=b):=by
 by_cases e:a=b
 ·subst e;simp
 ·have h:¬ (Sum.inr a:Key)=Sum.inr b:=fun q=>e (Sum.inr.inj q)
  rw [S6 h,S6 e]
def LW (a:Int) (b:Str):decide ((Sum.inl a:Key)=Sum.inr b)=false:=S6 (fun q=>nomatch q)
def Mh (a:Str) (b:Int):decide ((Sum.inr a:Key)=Sum.inl b)=false:=S6 (fun q=>nomatch q)
def c8 (prog:Program)(w:World):PySem.KeyKind prog w Key where
 is:=qZ
 hash:=PX w
 inj:=fun v a b ha hb=>by
  rcases dG ha with ⟨i,t,rfl,rfl⟩ | ⟨x,t,rfl,rfl⟩
  ·rcases dG hb with ⟨j,u,rfl,e⟩ | ⟨y,u,rfl,e⟩
   ·injection e with e1 _;rw [e1]
   ·exact nomatch e
  ·rcases dG hb with ⟨j,u,rfl,e⟩ | ⟨y,u,rfl,e⟩
   ·exact nomatch e
   ·injection e with e1 _;rw [e1]
 byValue:=fun k v h=>by
  rcases dG h with ⟨i,t,rfl,rfl⟩ | ⟨x,t,rfl,rfl⟩ <;> rfl
 pyHash:=fun hv h=>by
  rcases dG hv with ⟨i,t,rfl,rfl⟩ | ⟨x,t,rfl,rfl⟩
  ·exact wpAny_pyHash_int h
  ·exact wpAny_pyHash_str h
 eqBool:=fun hu hv h=>by
  rcases dG hu with ⟨i,t,rfl,rfl⟩ | ⟨x,t,rfl,rfl⟩
  ·rcases dG hv with ⟨j,u,rfl,rfl⟩ | ⟨y,u,rfl,rfl⟩
   ·rw [Li] at h;exact wpAny_eqBool_int h
   ·rw [LW] at h;exact SeqAt.EqAt.int_str i t y u _ _ _ _ h
  ·rcases dG hv with ⟨j,u,rfl,rfl⟩ | ⟨y,u,rfl,rfl⟩
   ·rw [Mh] at h;exact SeqAt.EqAt.str_int x t j u _ _ _ _ h
   ·rw [LY] at h;exact wpAny_eqBool_str h
 «strs»:=fun k x t v h=>by
  rcases dG h with ⟨i,u,rfl,e⟩ | ⟨y,u,rfl,e⟩
  ·exact nomatch e
  ·injection e with e1 _
   subst e1;cases v <;> rfl
def z5 (prog:Program)(w:World) (i:Int)(t:Tok):(c8 prog w).is (.inl i) (.int i t)=true:=Ea i t
def z3 (prog:Program)(w:World) (x:Str)(t:Tok):(c8 prog w).is (.inr x) (.str x t)=true:=EW x t
set_option genInjectivity true in
inductive V where
 | bF | bl (b:Bool) | int (i:Int) | str (x:Str) | oi (b:Array UInt8) | AV (b:UInt64) | ref (a:Addr) | ty (n:String)
 deriving DecidableEq
def RelV:V->Value->Prop
 | .bF,u=>u=Value.none
 | .bl b,u=>u=Value.bool b
 | .int i,u=>∃ t,u=Value.int i t
 | .str x,u=>∃ t,u=Value.str x t
 | .oi b,u=>∃ t,u=Value.bytes b t
 | .AV b,u=>∃ t,u=Value.float b t
 | .ref a,u=>u=Value.ref a
 | .ty n,u=>u=Value.type n
abbrev Vals:List V->Ug->Prop:=Paired RelV
theorem Vals.length {xs:List V}{us:Ug}(r:Vals xs us):xs.length=us.length:=Paired.length r
theorem Vals.get:∀ {xs:List V}{us:Ug}{i:Nat}{x:V},Vals xs us->xs[i]?=some x->∃ u,us[i]?=some u/\RelV x u
 | _,_,_,_,.nil,e=>by simp at e
 | _,_,0,_,.cons r _,e=>by simp at e;subst e;exact ⟨_,rfl,r⟩
 | _,_,i + 1,x,.cons _ t,e=>by
  obtain ⟨u,h1,h2⟩:=Vals.get (i:=i) (x:=x) t (by simpa using e)
  exact ⟨u,by simpa using h1,h2⟩
theorem Vals.set {x:V}{u:Value}(r:RelV x u):∀ {xs:List V}{us:Ug} (i:Nat),Vals xs us->Vals (xs.set i x) (us.set i u)
 | _,_,_,.nil=>.nil
 | _,_,0,.cons _ t=>.cons r t
 | _,_,i + 1,.cons q t=>.cons q (Vals.set r i t)
theorem Vals.append:∀ {xs ys:List V}{us ws:Ug},Vals xs us->Vals ys ws->Vals (xs++ys) (us++ws)
 | _,_,_,_,.nil,s=>s
 | _,_,_,_,.cons r t,s=>.cons r (Vals.append t s)
theorem Vals.take:∀ {xs:List V}{us:Ug} (n:Nat),Vals xs us->Vals (xs.take n) (us.take n)
 | _,_,0,_=>.nil
 | _,_,_ + 1,.nil=>.nil
 | _,_,n + 1,.cons r t=>.cons r (Vals.take n t)
theorem Vals.drop:∀ {xs:List V}{us:Ug} (n:Nat),Vals xs us->Vals (xs.drop n) (us.drop n)
 | _,_,0,r=>r
 | _,_,_ + 1,.nil=>.nil
 | _,_,n + 1,.cons _ t=>Vals.drop n t
def kH:Option V->UZ->Prop
 | some v,some u=>RelV v u
 | none,none=>True
 | _,_=>False
def KV {κ:Type}:List (κ×V)->List (κ×Value)->Prop:=Paired fun (p:κ×V)(q:κ×Value)=>p.1=q.1/\RelV p.2 q.2
def kV:Key->V
 | .inl i=>.int i
 | .inr x=>.str x
inductive HO where
 /-- a list -/
 | lst (xs:List V)
 /-- a tuple (never changes) -/
 | tup (xs:List V)
 /-- a dict whose keys are ints and texts;one whose keys are tuples of ints and texts (the empty one is both) -/
 | dK (kvs:List (Key×V)) | dT (kvs:List (List Key×V))
 /-- a set of ints: its members,its size -/
 | set (S:Int->Bool) (n:Nat)
 /-- an instance of the class at C,its dict at dx,its attributes -/
 | ins (C dx:Addr)(fs:List (Str×V))
 /-- the dict of the instance at x -/
 | own (x:Addr)
 /-- the dict of an exception -/
 | xd (fs:List (Str×V))
 /-- a bound method,f of x -/
 | met (f x:Addr)
 /-- a range object lo,lo + 1,.. below hi -/
 | sj (lo hi:Int)
 /-- a thing that is known to the object (the script;a dict while a loop walks it): read,never written while it is so -/
 | cJ (o:Obj)(u:HO)
 /-- a code object's table -/
 | v9 (ps:Ua)
 /-- any other thing,by what is true of its one object (a def of one's own: SetO a S n:=HO.ext fun h=>..) -/
 | ext (φ:Heap->Prop)
abbrev Hp:=Addr->Option HO
def upd (H:Hp)(a:Addr)(o:HO):Hp:=fun b=>if b=a then some o else H b
def aL {H:Hp}{a:Addr}{o:HO}:upd H a o a=some o:=by unfold upd;rw [if_pos rfl]
def ao {H:Hp}{a b:Addr}{o:HO}(h:b≠a):upd H a o b=H b:=by unfold upd;rw [if_neg h]
def Cb {H:Hp}{a b:Addr}{o u:HO}(h:H a=some o)(h':H b=some u)(d:o≠u):a≠b:=by
 intro e;subst e;rw [h] at h';exact d (Option.some.inj h')
def gI {H:Hp}{a b:Addr}{o:HO}(h:H a=some o)(h':H b=none):a≠b:=by
 intro e;subst e;rw [h] at h';cases h'
section
variable (P:Program)(w:World)
def bO (H:Hp)(h:Heap)(a:Addr):HO->Prop
 | .lst xs=>xs.length<=sizeLine/\∃ (its:Ug) (n:Nat),Vals xs its/\h.get? a=some { cls:=.type "list",data:=.seq its.toArray n }
 | .tup xs=>xs.length<=sizeLine/\∃ its:Ug,Vals xs its/\IsTup h a its.toArray
 | .dK kvs=>kvs.length<=sizeLine/\(a == sysModules)=false/\∃ vs,KV kvs vs/\h.DictOf (c8 P w) a vs
 | .dT kvs=>kvs.length<=sizeLine/\(a == sysModules)=false/\∃ xs:List (List Key×Addr×Value),
   Paired (fun (p:List Key×V)(q:List Key×Addr×Value)=>p.1=q.1/\H q.2.1=some (.tup (p.1.map kV))/\RelV p.2 q.2.2) kvs xs /\
   ∃ o es ep,h.get? a=some o/\o.ExactDict/\o.data=.dict es ep/\es.toList=xs.map (entryOfKey (tupleKind (c8 P w)))/\(xs.map (·.1)).Nodup
 | .set S n=>h.SetOf (intKind P w) a S n
 | .ins C dx fs=>H dx=some (.own a)/\fs.length<=1000/\dx≠a/\h.get? a=some (PySem.W.instObj C dx) /\
   ∃ mA,h.Ns1 dx mA/\(∀ f,kH (fs.lookup f) (mA f))/\PySem.Within mA (fs.map (·.1))
 | .own _=>∃ o,h.get? a=some o
 | .xd fs=>∃ mA,h.Ns1 a mA/\∀ f,kH (fs.lookup f) (mA f)
 | .sj lo hi=>∃ t u v,h.get? a=some { cls:=.type "range",data:=.fields #[.int lo t,.int hi u,.int 1 v] }
 | .cJ o u=>h.get? a=some o/\bO H h a u
 | .v9 ps=>h.get? a=some { cls:=.none,data:=.fields ps }
 | .met f x=>h.get? a=some (PySem.W.methodObj (.ref f) (.ref x))
 | .ext φ=>φ h/\(∃ o,h.get? a=some o)/\∀ h1 h2:Heap,φ h1->(∀ o,h1.get? a=some o->h2.get? a=some o)->φ h2
def dQ (H:Hp)(h:Heap):Prop:=∀ a o,H a=some o->bO P w H h a o
end
section
variable {P:Program}{w:World}{H H':Hp}{h h':Heap}{a:Addr}{o:HO}
theorem bO.lt (x:bO P w H h a o):a < h.objs.size:=by
 cases o with
 | lst xs=>obtain ⟨_,_,_,_,e⟩:=x;exact RL e
 | tup xs=>obtain ⟨_,_,_,p⟩:=x;exact p.lt
 | dK kvs=>obtain ⟨_,_,_,_,o,_,_,e,_⟩:=x;exact RL e
 | dT kvs=>obtain ⟨_,_,_,_,o,_,_,e,_⟩:=x;exact RL e
 | set S n=>obtain ⟨o,_,_,_,e,_⟩:=x;exact RL e
 | ins C dx fs=>obtain ⟨_,_,_,e,_⟩:=x;exact RL e
 | own y=>obtain ⟨_,e⟩:=x;exact RL e
 | xd fs=>obtain ⟨_,⟨_,_,_,e,_⟩,_⟩:=x;exact RL e
 | sj lo hi=>obtain ⟨_,_,_,e⟩:=x;exact RL e
 | cJ ob u=>obtain ⟨e,_⟩:=x;exact RL e
 | v9 ps=>exact RL (show h.get? a=some _ from x)
 | met f y=>exact RL (show h.get? a=some _ from x)
 | ext φ=>obtain ⟨_,⟨_,e⟩,_⟩:=x;exact RL e
theorem Paired.CZ {α β:Type}{F G:α->β->Prop}:∀ {l₁:List α}{l₂:List β},Paired F l₁ l₂->(∀ a b,F a b->G a b)->Paired G l₁ l₂
 | _,_,.nil,_=>.nil
 | _,_,.cons r t,f=>.cons (f _ _ r) (Paired.CZ t f)
def bO.stay (x:bO P w H h a o)(k:∀ b u,(b=a\/H b=some (.own a))->h.get? b=some u->h'.get? b=some u)
  (ho:∀ b,H b=some (.own a)->H' b=some (.own a))(ht:∀ b xs,H b=some (.tup xs)->H' b=some (.tup xs)):bO P w H' h' a o:=by
 induction o with
 | lst xs=>obtain ⟨z,its,n,r,e⟩:=x;exact ⟨z,its,n,r,k _ _ (.inl rfl) e⟩
 | tup xs=>obtain ⟨z,its,r,ob,e,c⟩:=x;exact ⟨z,its,r,ob,k _ _ (.inl rfl) e,c⟩
 | dK kvs=>obtain ⟨z,y,vs,r,ob,es,ep,e,c⟩:=x;exact ⟨z,y,vs,r,ob,es,ep,k _ _ (.inl rfl) e,c⟩
 | dT kvs =>
  obtain ⟨z,y,xs,r,ob,es,ep,e,c⟩:=x;exact ⟨z,y,xs,Paired.CZ r fun p q z=>⟨z.1,ht _ _ z.2.1,z.2.2⟩,ob,es,ep,k _ _ (.inl rfl) e,c⟩
 | set S n=>obtain ⟨ob,es,ep,t,e,c⟩:=x;exact ⟨ob,es,ep,t,k _ _ (.inl rfl) e,c⟩
 | ins C dx fs =>
  obtain ⟨d,z,ne,e,mA,⟨od,es,ep,e2,c⟩,r⟩:=x;exact ⟨ho _ d,z,ne,k _ _ (.inl rfl) e,mA,⟨od,es,ep,k _ _ (.inr d) e2,c⟩,r⟩
 | own y=>obtain ⟨ob,e⟩:=x;exact ⟨ob,k _ _ (.inl rfl) e⟩
 | xd fs=>obtain ⟨mA,⟨od,es,ep,e,c⟩,r⟩:=x;exact ⟨mA,⟨od,es,ep,k _ _ (.inl rfl) e,c⟩,r⟩
 | sj lo hi=>obtain ⟨t,u,v,e⟩:=x;exact ⟨t,u,v,k _ _ (.inl rfl) e⟩
 | cJ ob u ih=>obtain ⟨e,q⟩:=x;exact ⟨k _ _ (.inl rfl) e,ih q⟩
 | v9 ps =>
  have e:h.get? a=some { cls:=.none,data:=.fields ps }:=x;show h'.get? a=some { cls:=.none,data:=.fields ps };exact k a _ (.inl rfl) e
 | met f y =>
  have e:h.get? a=some (PySem.W.methodObj (.ref f) (.ref y)):=x;show h'.get? a=some (PySem.W.methodObj (.ref f) (.ref y));exact k a _ (.inl rfl) e
 | ext φ=>obtain ⟨p,⟨o,e⟩,st⟩:=x;exact ⟨st _ _ p fun o q=>k _ _ (.inl rfl) q,⟨o,k _ _ (.inl rfl) e⟩,st⟩
theorem dQ.lt (x:dQ P w H h)(e:H a=some o):a < h.objs.size:=(x a o e).lt
def dQ.fresh (x:dQ P w H h)(e:h.objs.size<=a):H a=none:=by
 cases q:H a with
 | none=>rfl
 | some u=>exact absurd (RY (x.lt q) e) (SA _)
def dQ.kept (x:dQ P w H h)(k:∀ b u,h.get? b=some u->h'.get? b=some u):dQ P w H h':=fun a o e =>
 (x a o e).stay (fun b u _ q=>k b u q) (fun _ q=>q) fun _ _ q=>q
def dQ.laid (x:dQ P w H h)(k:∀ b u,h.get? b=some u->h'.get? b=some u)(hp:h.objs.size<=a)(new:bO P w (upd H a o) h' a o):dQ P w (upd H a o) h':=fun b u e=>by
 have hn:=x.fresh hp
 by_cases hb:b=a
 ·subst hb;rw [aL] at e;cases e;exact new
 ·rw [ao hb] at e;exact (x b u e).stay (fun c v _ q=>k c v q) (fun c q=>by rw [ao (gI q hn)];exact q) fun c xs q=>by rw [ao (gI q hn)];exact q
end
def Rd (H:Hp)(a:Addr)(u:HO):Prop:=H a=some u\/∃ o,H a=some (.cJ o u)
def Rd.ok {P:Program}{w:World}{H:Hp}{h:Heap}{a:Addr}{u:HO}(r:Rd H a u)(x:dQ P w H h):bO P w H h a u:=by
 rcases r with r | ⟨o,r⟩
 ·exact x a u r
 ·obtain ⟨_,q⟩:=x a _ r;exact q
def E7:Option HO->Prop
 | some (.lst _)=>True
 | some (.dK _)=>True
 | some (.dT _)=>True
 | some (.set _ _)=>True
 | some (.ins _ _ _)=>True
 | some (.ext _)=>True
 | _=>False
section
variable {P:Program}{w:World}{H:Hp}{h h':Heap}{x e:Addr}{o':HO}
def dQ.write (ok:dQ P w H h)(mu:E7 (H x))(he:e=x\/H e=some (.own x))(k:∀ b u,b≠e->h.get? b=some u->h'.get? b=some u)(heo:∃ u,h'.get? e=some u)
  (new:bO P w (upd H x o') h' x o'):dQ P w (upd H x o') h':=fun b u q=>by
 have nown:∀ c y,H c=some (.own y)->c≠x:=fun c y r z=>by subst z;rw [r] at mu;exact mu
 have ntup:∀ c xs,H c=some (.tup xs)->c≠x:=fun c xs r z=>by subst z;rw [r] at mu;exact mu
 by_cases hb:b=x
 ·subst hb;rw [aL] at q;cases q;exact new
 ·rw [ao hb] at q
  by_cases hbe:b=e
  ·have q':H b=some (.own x):=by
    rcases he with z | z
    ·exact absurd (hbe.trans z) hb
    ·rw [hbe];exact z
   rw [q] at q';cases q';obtain ⟨v,hv⟩:=heo;exact ⟨v,by rw [hbe];exact hv⟩
  ·refine (ok b u q).stay (fun c v hc r=>k c v ?_ r) (fun c r=>by rw [ao (nown c b r)];exact r) fun c xs r=>by rw [ao (ntup c xs r)];exact r
   rcases hc with rfl | hc
   ·exact hbe
   ·rintro rfl;rcases he with z | z
    ·exact nown c b hc z
    ·rw [hc] at z;cases z;exact hb rfl
end
structure Un (fs ex:Uh)(H H':Hp)(h h':Heap):Prop where
 keep:∀ b o,h.get? b=some o->H b=none->b∉fs->b∉ex->h'.get? b=some o
 slot:∀ b o,h.get? b=some o->H b=none->b∈fs->b∉ex->∃ sl,h'.get? b=some { o with slots:=sl }
 free:∀ b o,h.get? b=some o->H b=none->b∉ex->H' b=none
 there:∀ b o,h.get? b=some o->b∉ex->∃ o',h'.get? b=some o'
 tups:∀ b xs,H b=some (.tup xs)->H' b=some (.tup xs)
 kG:∀ b o u,H b=some (.cJ o u)->H' b=some (.cJ o u)
 lE:∀ b ps,H b=some (.v9 ps)->∃ more,H' b=some (.v9 (ps++more))
section
variable {fs fs' ex ex':Uh}{H H1 H2:Hp}{h h1 h2 h':Heap}{a x e:Addr}{o:HO}
def Un.any (u:Un fs ex H H1 h h1){b:Addr}{ob:Obj}(q:h.get? b=some ob)(n:H b=none)(hx:b∉ex):∃ sl,h1.get? b=some { ob with slots:=sl }:=by
 by_cases hb:b∈fs
 ·exact u.slot b ob q n hb hx
 ·exact ⟨ob.slots,u.keep b ob q n hb hx⟩
def Un.kept (k:∀ b u,h.get? b=some u->h'.get? b=some u):Un fs ex H H h h' :=
 ⟨fun b ob q _ _ _=>k b ob q,fun b ob q _ _ _=>⟨ob.slots,k b ob q⟩,fun _ _ _ n _=>n,fun b ob q _=>⟨ob,k b ob q⟩,fun _ _ q=>q,fun _ _ _ q=>q,fun _ ps q=>⟨#[],by rw [q];simp⟩⟩
def Un.refl:Un fs ex H H h h:=Un.kept fun _ _ q=>q
def Un.laid (k:∀ b u,h.get? b=some u->h'.get? b=some u)(hp:h.objs.size<=a)(hn:H a=none):Un fs ex H (upd H a o) h h' where
 keep:=fun b u q _ _ _=>k b u q
 slot:=fun b u q _ _ _=>⟨u.slots,k b u q⟩
 free:=fun b u q n _=>by rw [ao (RQ (RY (RL q) hp))];exact n
 there:=fun b u q _=>⟨u,k b u q⟩
 tups:=fun b xs q=>by rw [ao (gI q hn)];exact q
 kG:=fun b u xs q=>by rw [ao (gI q hn)];exact q
 lE:=fun b ps q=>⟨#[],by rw [ao (gI q hn),q];simp⟩
def Un.write (mu:E7 (H x))(he:e=x\/H e=some (.own x))(k:∀ b u,b≠e->h.get? b=some u->h'.get? b=some u)(heo:∃ u,h'.get? e=some u):Un fs ex H (upd H x o) h h':=by
 have hx:∀ b,H b=none->b≠x:=fun b n z=>by subst z;rw [n] at mu;exact mu
 have hb:∀ b,H b=none->b≠e:=fun b n z=>by
  subst z;rcases he with r | r
  ·exact hx b n r
  ·rw [n] at r;cases r
 have hm:∀ b u,H b=some u->¬ E7 (some u)->b≠x:=fun b u q nm z=>by subst z;rw [q] at mu;exact nm mu
 refine ⟨fun b u q n _ _=>k b u (hb b n) q,fun b u q n _ _=>⟨u.slots,k b u (hb b n) q⟩,fun b u q n _=>by rw [ao (hx b n)];exact n,fun b u q _=>?_,
  fun b xs q=>by rw [ao (hm b _ q fun z=>z)];exact q,fun b u xs q=>by rw [ao (hm b _ q fun z=>z)];exact q,fun b ps q=>⟨#[],by rw [ao (hm b _ q fun z=>z),q];simp⟩⟩
 by_cases hbe:b=e
 ·subst hbe;exact heo
 ·exact ⟨u,k b u hbe q⟩
end
def Jg (h:Heap)(H:Hp):Uh:=(List.range h.objs.size).filter fun a=>(H a).isSome
def pR (h:Heap)(H:Hp):Heap:=PySem.W.hideAll h (Jg h H)
def Ej (h:Heap)(H:Hp):(pR h H).objs.size=h.objs.size:=PySem.W.hideAll_size _ _
def HC {h:Heap}{H:Hp}{b:Addr}{o:Obj}(e:h.get? b=some o)(n:H b=none):(pR h H).get? b=some o :=
 PySem.W.hideAll_get _ e fun hm=>by
  have q:(H b).isSome=true:=(S5.mp hm).2;rw [n] at q;simp at q
def J2 {h:Heap}{H:Hp}{b:Addr}{o:Obj}(e:(pR h H).get? b=some o):h.get? b=some o/\H b=none:=by
 have e':h.get? b=some o:=PySem.W.of_hideAll (Jg h H) e;refine ⟨e',?_⟩;cases q:H b with
 | none=>rfl
 | some x =>
  have hm:b∈Jg h H:=S5.mpr ⟨Ro.mpr (RL e'),by simp [q]⟩
  have z:(pR h H).get? b=none:=PySem.W.hideAll_none (Jg h H) hm;rw [z] at e;cases e
structure Mod (K:UU)(mg:UE)(base:Heap):Prop where
 Ik:K.In base
 glob:base.Ns mainGlobals mg
 blt:∃ mb,base.Ns builtinsNs mb/\∀ x:Str,x≠"__name__"->mb x=bootBuiltins x
 nolimit:base.NoLimit
structure Cx where
 prog:Program
 w:World
 K:UU
 mg:UE
 base:Heap
 A:Around
 N:Us
 s₀:Shared
 H₀:Hp
 env:Env
 outer:List Env
 stack:List Env
 ex:Uh
 fn:Str->Bool
 calm:Bool
 pn:UG
 xe:Tn
def frs (l:List Env):Uh:=l.filterMap (·.frame)
abbrev Cx.fs (X:Cx):Uh:=frs X.outer
def ko (sc:Scope) (x:Str):Prop:=sc.names.lookup x=some .local\/sc.names.lookup x=some .cell\/sc.names.lookup x=some .free
def Loc (sc:Scope) (x:Str):Prop:=sc.names.lookup x=some .local\/sc.names.lookup x=some .cell
def Look (env:Env)(h:Heap)(m:UE) (x:Str)(u:Value):Prop :=
 (env.kindOf x=some .local/\m x=some u)\/((env.kindOf x=some .cell\/env.kindOf x=some .free)/\∃ c,env.cells.lookup x=some c/\h.IsCell c (some u))
structure Cx.Ok (X:Cx):Prop where
 mod:Mod X.K X.mg X.base
 kind:X.env.scope.kind=.function
 glob:X.env.globals=mainGlobals
 blt:X.env.builtins=builtinsNs
 above:X.s₀.heap.objs.size<=X.env.locals
 inj:∀ x y c,X.env.cells.lookup x=some c->X.env.cells.lookup y=some c->x=y
 has:∀ x,(X.env.kindOf x=some .cell\/X.env.kindOf x=some .free)->∃ c,X.env.cells.lookup x=some c
 Fb:∀ x c,X.fn x=true->X.env.cells.lookup x=some c->X.s₀.heap.objs.size<=c
 hd:X.calm=true->X.A.handled=none
 frames:X.A.frames=some X.stack
 stk:X.stack=X.outer\/(X.stack=X.env::X.outer/\X.env.frame=some X.env.locals)
 PF:∀ b∈X.ex,b≠X.env.locals/\∀ x c,X.env.cells.lookup x=some c->c≠b
 bs:∀ b o,X.base.get? b=some o->X.s₀.heap.get? b=some o/\X.H₀ b=none
 wu:X.base.objs.size<=X.s₀.heap.objs.size
 vF:∀ b o,X.base.get? b=some o->b∉X.ex
 CB:∀ b∈X.ex,b∉X.fs
 lZ:X.s₀.heap.FunFrames X.base X.outer
 Au:∀ b∈X.fs,X.H₀ b=none
structure Inv (X:Cx)(pins:UG)(σ:List (Option V))(H:Hp)(s:Shared):Prop where
 ok:X.Ok
 os:s.os=X.s₀.os
 bare:AllBare s.gens
 base:Un X.fs X.ex X.H₀ H X.s₀.heap s.heap
 loc:∃ m,s.heap.Ns X.env.locals m/\∀ (i:Nat) (x:Str) (v:V),X.N[i]?=some x->σ[i]?=some (some v)->ko X.env.scope x->∃ u,RelV v u/\Look X.env s.heap m x u
 cell:∀ x c,X.env.cells.lookup x=some c->∃ v,s.heap.IsCell c v
 free:H X.env.locals=none
 ju:∀ x c,X.env.cells.lookup x=some c->H c=none
 pin:∀ p∈X.pn++pins,s.heap.get? p.1=some p.2/\H p.1=none/\p.1≠X.env.locals/\p.1∉X.fs/\∀ v,p.2.data≠.cell v
 hok:dQ X.prog X.w H s.heap
 len:σ.length=X.N.length
section
variable {X:Cx}{pins:UG}{σ:List (Option V)}{H H':Hp}{s:Shared}{h':Heap}
def Cx.Ok.P5 (ok:X.Ok){b:Addr}{o:Obj}(e:X.base.get? b=some o):b∉X.fs:=fun hb=>by
 have:=(ok.lZ.mem hb).1;rw [e] at this;cases this
theorem Inv.bs (I:Inv X pins σ H s):∀ b o,X.base.get? b=some o->s.heap.get? b=some o/\H b=none:=fun b o e =>
 ⟨I.base.keep b o (I.ok.bs b o e).1 (I.ok.bs b o e).2 (I.ok.P5 e) (I.ok.vF b o e),I.base.free b o (I.ok.bs b o e).1 (I.ok.bs b o e).2 (I.ok.vF b o e)⟩
def Inv.bk (I:Inv X pins σ H s):∀ b o,X.base.get? b=some o->s.heap.get? b=some o:=fun b o e=>(I.bs b o e).1
theorem Inv.mod (I:Inv X pins σ H s):Mod X.K X.mg X.base:=I.ok.mod
def Inv.iU (I:Inv X pins σ H s):X.K.In s.heap:=I.ok.mod.Ik.keeps I.bk
theorem Inv.lt (I:Inv X pins σ H s):X.env.locals < s.heap.objs.size:=let ⟨_,hn,_⟩:=I.loc;hn.lt
def Inv.sz (I:Inv X pins σ H s):X.s₀.heap.objs.size<=s.heap.objs.size:=Rz I.ok.above (Nat.le_of_lt I.lt)
def Inv.G3 (I:Inv X pins σ H s){a:Addr}(h:s.heap.objs.size<=a):a∉X.fs:=fun hb=>by
 obtain ⟨_,o,ho,_⟩:=I.ok.lZ.mem hb;exact absurd (RY (RL ho) (Rz I.sz h)) (SA _)
def Inv.zb (I:Inv X pins σ H s):∀ x c,X.env.cells.lookup x=some c->c≠X.env.locals:=fun x c e z=>by
 obtain ⟨v,o,ho,hd⟩:=I.cell x c e;obtain ⟨m,⟨o',es,ep,ho',hd',_⟩,_⟩:=I.loc;rw [z,ho'] at ho;cases ho;rw [hd'] at hd;cases hd
theorem Inv.lZ (I:Inv X pins σ H s):s.heap.FunFrames X.base X.outer:=by
 have all:∀ (l:List Env),(∀ b∈frs l,b∈X.fs)->X.s₀.heap.FunFrames X.base l->s.heap.FunFrames X.base l:=by
  intro l
  induction l with
  | nil=>intro _ _;trivial
  | cons env r ih =>
   intro hs hl;obtain ⟨hk,⟨L,o,hf,hn,ho,hd⟩,hr⟩:=hl;have hL:L∈X.fs:=hs L (by unfold frs;rw [Sv,hf];exact RA)
   obtain ⟨sl,e⟩:=I.base.slot L o ho (I.ok.Au L hL) hL fun z=>I.ok.CB L z hL
   exact ⟨hk,⟨L,_,hf,hn,e,hd⟩,ih (fun b hb=>hs b (by unfold frs;rw [Sv,hf];exact RG _ hb)) hr⟩
 exact all X.outer (fun _ hb=>hb) I.ok.lZ
theorem Inv.stack (I:Inv X pins σ H s):s.heap.FunFrames X.base X.stack:=by
 rcases I.ok.stk with e | ⟨e,hf⟩
 ·rw [e];exact I.lZ
 ·rw [e];obtain ⟨m,hn,_⟩:=I.loc;refine .cons (by rw [I.ok.kind];decide) hf hn ?_ I.lZ
  exact Heap.get?_none_of_le (Rz I.ok.wu I.ok.above)
def Inv.kh (I:Inv X pins σ H s):∀ b∈frs X.stack,b∈X.env.locals::X.fs:=fun b hb=>by
 rcases I.ok.stk with e | ⟨e,hf⟩
 ·rw [e] at hb;exact RG _ hb
 ·rw [e] at hb;unfold frs at hb;rw [Sv,hf] at hb;exact hb
def Inv.rD (I:Inv X pins σ H s):∀ b∈frs X.stack,H b=none:=fun b hb=>by
 rcases RJ.mp (I.kh b hb) with e | hb
 ·rw [e];exact I.free
 ·obtain ⟨_,o,ho,_⟩:=I.ok.lZ.mem hb;exact I.base.free b o ho (I.ok.Au b hb) fun z=>I.ok.CB b z hb
def Inv.step {g':Array GenState}{t':Nat}{d':Drawn}{ch:Uh}(I:Inv X pins σ H s)
  (hch:∀ b∈ch,(b∈X.ex\/X.s₀.heap.objs.size<=b)/\b≠X.env.locals/\(∀ x c,X.env.cells.lookup x=some c->c≠b)/\∀ p∈X.pn++pins,p.1≠b)
  (keep:∀ b o,b≠X.env.locals->b∉X.fs->b∉ch->s.heap.get? b=some o->H b=none->h'.get? b=some o)
  (slot:∀ b o,b≠X.env.locals->b∈X.fs->b∉ch->s.heap.get? b=some o->H b=none->∃ sl,h'.get? b=some { o with slots:=sl })(free:∀ b o,b∉ch->s.heap.get? b=some o->H b=none->H' b=none)
  (there:∀ b o,b∉ch->s.heap.get? b=some o->∃ o',h'.get? b=some o')
  (tups:∀ b xs,H b=some (.tup xs)->H' b=some (.tup xs))(kG:∀ b o u,H b=some (.cJ o u)->H' b=some (.cJ o u))(lE:∀ b ps,H b=some (.v9 ps)->∃ more,H' b=some (.v9 (ps++more)))
  (ns:∀ m,s.heap.Ns X.env.locals m->h'.Ns X.env.locals m)(hok:dQ X.prog X.w H' h')(hg:AllBare g') :
  Inv X pins σ H' { s with heap:=h',gens:=g',drawn:=d',toks:=t' }:=by
 have neL:∀ b o,X.s₀.heap.get? b=some o->b≠X.env.locals:=fun b o e=>RQ (RY (RL e) I.ok.above)
 have neC:∀ b o,X.s₀.heap.get? b=some o->b∉X.ex->b∉ch:=fun b o e hx hb=>by
  rcases (hch b hb).1 with z | z
  ·exact hx z
  ·exact absurd (RY (RL e) z) (SA _)
 have cellK:∀ x c,X.env.cells.lookup x=some c->∀ v,s.heap.IsCell c v->h'.IsCell c v:=fun x c e v ⟨o,ho,hd⟩=>by
  have nch:c∉ch:=fun z=>(hch c z).2.2.1 x c e rfl
  by_cases hc:c∈X.fs
  ·obtain ⟨sl,q⟩:=slot c o (I.zb x c e) hc nch ho (I.ju x c e);exact ⟨_,q,hd⟩
  ·exact ⟨o,keep c o (I.zb x c e) hc nch ho (I.ju x c e),hd⟩
 refine ⟨I.ok,I.os,hg,⟨fun b o e n hb hx=>?_,fun b o e n hb hx=>?_,fun b o e n hx=>?_,fun b o e hx=>?_,fun b xs e=>tups b xs (I.base.tups b xs e),fun b o xs e=>kG b o xs (I.base.kG b o xs e),fun b ps e=>?_⟩,?_,fun x c e=>?_,?_,fun x c e=>?_,fun p hp=>?_,hok,I.len⟩
 ·exact keep b o (neL b o e) hb (neC b o e hx) (I.base.keep b o e n hb hx) (I.base.free b o e n hx)
 ·obtain ⟨sl,e1⟩:=I.base.slot b o e n hb hx;obtain ⟨sl',e2⟩:=slot b _ (neL b o e) hb (neC b o e hx) e1 (I.base.free b o e n hx);exact ⟨sl',e2⟩
 ·obtain ⟨o',e1⟩:=I.base.there b o e hx;exact free b o' (neC b o e hx) e1 (I.base.free b o e n hx)
 ·obtain ⟨o',e1⟩:=I.base.there b o e hx;exact there b o' (neC b o e hx) e1
 ·obtain ⟨m1,e1⟩:=I.base.lE b ps e;obtain ⟨m2,e2⟩:=lE b _ e1;exact ⟨m1++m2,by rw [e2,Array.append_assoc]⟩
 ·obtain ⟨m,hn,hl⟩:=I.loc;refine ⟨m,ns m hn,fun i x v e1 e2 e3=>?_⟩
  obtain ⟨u,r,l⟩:=hl i x v e1 e2 e3;refine ⟨u,r,?_⟩;rcases l with l | ⟨k,c,e,z⟩
  ·exact .inl l
  ·exact .inr ⟨k,c,e,cellK x c e _ z⟩
 ·obtain ⟨v,z⟩:=I.cell x c e;exact ⟨v,cellK x c e v z⟩
 ·obtain ⟨m,⟨o,_,_,ho,_⟩,_⟩:=I.loc;exact free _ o (fun z=>(hch _ z).2.1 rfl) ho I.free
 ·obtain ⟨v,o,ho,hd⟩:=I.cell x c e;exact free c o (fun z=>(hch c z).2.2.1 x c e rfl) ho (I.ju x c e)
 ·obtain ⟨e,n,ne,nf,d⟩:=I.pin p hp;have nch:p.1∉ch:=fun z=>(hch p.1 z).2.2.2 p hp rfl
  exact ⟨keep p.1 p.2 ne nf nch e n,free p.1 p.2 nch e n,ne,nf,d⟩
def Inv.un {t':Nat}(I:Inv X pins σ H s)(u:Un X.fs [] H H' s.heap h')(hok:dQ X.prog X.w H' h'):Inv X pins σ H' { s with heap:=h',toks:=t' }:=by
 obtain ⟨m,⟨o,es,ep,ho,r⟩,_⟩:=id I.loc;obtain ⟨sl,hL⟩:=u.any ho I.free (by simp)
 exact I.step (g':=s.gens) (d':=s.drawn) (ch:=[]) (fun _ z=>nomatch z) (fun b o _ hb _ e n=>u.keep b o e n hb (by simp)) (fun b o _ hb _ e n=>u.slot b o e n hb (by simp)) (fun b o _ e n=>u.free b o e n (by simp)) (fun b o _ e=>u.there b o e (by simp)) u.tups u.kG u.lE (fun m' hm=>by
  obtain ⟨o',es',ep',ho',r'⟩:=hm;rw [ho] at ho';cases ho';exact ⟨_,es',ep',hL,r'⟩) hok I.bare
def Inv.call {g':Array GenState}{t':Nat}{d':Drawn}{ch:Uh}(I:Inv X pins σ H s)(u:Un (frs X.stack) ch H H' s.heap h')(hok:dQ X.prog X.w H' h')(hg:AllBare g')
  (hch:∀ b∈ch,(b∈X.ex\/X.s₀.heap.objs.size<=b)/\b≠X.env.locals/\(∀ x c,X.env.cells.lookup x=some c->c≠b)/\∀ p∈X.pn++pins,p.1≠b) :
  Inv X pins σ H' { s with heap:=h',gens:=g',drawn:=d',toks:=t' }:=by
 obtain ⟨m,⟨o,es,ep,ho,r⟩,_⟩:=id I.loc;obtain ⟨sl,hL⟩:=u.any ho I.free fun z=>(hch _ z).2.1 rfl
 exact I.step (ch:=ch) hch (fun b o hL hb hc e n=>u.keep b o e n (fun z=>(RJ.mp (I.kh b z)).elim hL hb) hc) (fun b o _ _ hc e n=>u.any e n hc) (fun b o hc e n=>u.free b o e n hc) (fun b o hc e=>u.there b o e hc) u.tups u.kG u.lE (fun m' hm=>by
  obtain ⟨o',es',ep',ho',r'⟩:=hm;rw [ho] at ho';cases ho';exact ⟨_,es',ep',hL,r'⟩) hok hg
def Inv.turned {t':Nat}{it:Addr}(I:Inv X pins σ H s)(k:∀ b o,b≠it->s.heap.get? b=some o->h'.get? b=some o)(hn:H it=none)(hL:it≠X.env.locals)
  (h1:it∈X.ex\/X.s₀.heap.objs.size<=it)(h2:∀ x c,X.env.cells.lookup x=some c->c≠it)(h3:∀ p∈X.pn++pins,p.1≠it):Inv X pins σ H { s with heap:=h',toks:=t' }:=by
 have nit:∀ b u,H b=some u->b≠it:=fun b u e z=>by rw [z,hn] at e;cases e
 refine I.step (g':=s.gens) (d':=s.drawn) (ch:=[it]) (fun b hb=>?_) (fun b o _ _ hc e _=>k b o (fun z=>hc (by simp [z])) e) (fun b o _ _ hc e _=>⟨o.slots,k b o (fun z=>hc (by simp [z])) e⟩) (fun _ _ _ _ n=>n)
  (fun b o hc e=>⟨o,k b o (fun z=>hc (by simp [z])) e⟩) (fun _ _ e=>e) (fun _ _ _ e=>e) (fun b ps e=>⟨#[],by rw [e];simp⟩) (fun m hm=>?_) (fun b u e=>?_) I.bare
 ·have e:b=it:=by simpa using hb
  subst e;exact ⟨h1,hL,h2,h3⟩
 ·obtain ⟨o,es,ep,ho,r⟩:=hm;exact ⟨o,es,ep,k _ o (Ne.symm hL) ho,r⟩
 ·refine (I.hok b u e).stay (fun c v hc q=>k c v ?_ q) (fun _ q=>q) fun _ _ q=>q
  rcases hc with z | z
  ·rw [z];exact nit b u e
  ·exact nit c _ z
def Inv.tok (I:Inv X pins σ H s) (t:Nat):Inv X pins σ H { s with toks:=t }:=I.un (h':=s.heap) (t':=t) Un.refl I.hok
theorem Inv.kept {t':Nat}(I:Inv X pins σ H s)(k:∀ b u,s.heap.get? b=some u->h'.get? b=some u):Inv X pins σ H { s with heap:=h',toks:=t' }:=I.un (Un.kept k) (I.hok.kept k)
theorem Inv.laid {a:Addr}{o:HO}{t':Nat}(I:Inv X pins σ H s)(k:∀ b u,s.heap.get? b=some u->h'.get? b=some u)(hp:s.heap.objs.size<=a)(new:bO X.prog X.w (upd H a o) h' a o) :
  Inv X pins σ (upd H a o) { s with heap:=h',toks:=t' }:=I.un (Un.laid k hp (I.hok.fresh hp)) (I.hok.laid k hp new)
theorem Inv.write {x e:Addr}{o:HO}{t':Nat}(I:Inv X pins σ H s)(mu:E7 (H x))(he:e=x\/H e=some (.own x))(k:∀ b u,b≠e->s.heap.get? b=some u->h'.get? b=some u)(heo:∃ u,h'.get? e=some u)
  (new:bO X.prog X.w (upd H x o) h' x o):Inv X pins σ (upd H x o) { s with heap:=h',toks:=t' }:=I.un (Un.write mu he k heo) (I.hok.write mu he k heo new)
def Inv.jU {pins':UG}(I:Inv X pins σ H s)(h:∀ p∈pins',s.heap.get? p.1=some p.2/\H p.1=none/\p.1≠X.env.locals/\p.1∉X.fs/\∀ v,p.2.data≠.cell v):Inv X pins' σ H s :=
 ⟨I.ok,I.os,I.bare,I.base,I.loc,I.cell,I.free,I.ju,fun p hp=>(RM.mp hp).elim (fun z=>I.pin p (UN _ z)) (h p),I.hok,I.len⟩
def zA {N:Us}(hN:N.Nodup){i j:Nat}{x:Str}(a:N[i]?=some x)(b:N[j]?=some x):i=j:=by
 obtain ⟨h1,e1⟩:=Te.mp a;obtain ⟨h2,e2⟩:=Te.mp b;exact (List.getElem_inj hN).mp (e1.trans e2.symm)
def qP {M:Model}{A:Around}{E:Tn}{i:Nat}{x:Str}{v:V}{u:Value}{Q:Unit->Shared->Prop}(I:Inv X pins σ H s)(hN:X.N.Nodup)(hi:X.N[i]?=some x)(hx:Loc X.env.scope x)(r:RelV v u)
  (h:∀ s',Inv X pins (σ.set i (some v)) H s'->(∃ a,Heap.SameBut a s.heap s'.heap/\(a=X.env.locals\/X.env.cells.lookup x=some a))->Q () s')(hf:X.fn x=true\/X.env.scope.names.lookup x=some .local:=by first | exact .inl rfl | exact .inr rfl | assumption):wpAny M A (storeName X.env x u) Q E s:=by
 obtain ⟨m,hn,hl⟩:=id I.loc;have hcls:(X.env.scope.kind == .class || (X.env.scope.kind == .module && X.env.locals != X.env.globals))=false:=by rw [I.ok.kind];rfl
 have hiσ:i < σ.length:=by rw [I.len];exact (Te.mp hi).1
 have zb:=I.zb;have tracked:∀ {a:Addr}{h':Heap},(∃ o,s.heap.get? a=some o/\H a=none)->Heap.SameBut a s.heap h'->dQ X.prog X.w H h':=fun {a h'} ha hs b ob e=>by
  obtain ⟨_,_,hfree⟩:=ha;refine (I.hok b ob e).stay (fun c w' hc q=>(hs.2 c ?_).trans q) (fun _ q=>q) fun _ _ q=>q
  rintro rfl;rcases hc with rfl | hc
  ·rw [hfree] at e;cases e
  ·rw [hfree] at hc;cases hc
 rcases hx with hk | hk
 ·refine wpAny_storeName_local hk hn (fun h' hn' hs=>?_) hcls
  obtain ⟨oL,_,_,hoL,_⟩:=id hn;refine h _ ⟨I.ok,I.os,I.bare,⟨fun b o e n hb hx=>?_,fun b o e n hb hx=>?_,I.base.free,fun b o e hx=>?_,I.base.tups,I.base.kG,I.base.lE⟩,⟨_,hn',fun j y v' e1 e2 e3=>?_⟩,fun y c e=>?_,I.free,I.ju,fun p hp=>?_,tracked ⟨oL,hoL,I.free⟩ hs,by simpa using I.len⟩ ⟨_,hs,.inl rfl⟩
  ·exact (hs.2 b (RQ (RY (RL e) I.ok.above))).trans (I.base.keep b o e n hb hx)
  ·obtain ⟨sl,e1⟩:=I.base.slot b o e n hb hx;exact ⟨sl,(hs.2 b (RQ (RY (RL e) I.ok.above))).trans e1⟩
  ·obtain ⟨o',e1⟩:=I.base.there b o e hx;exact ⟨o',(hs.2 b (RQ (RY (RL e) I.ok.above))).trans e1⟩
  ·by_cases hj:j=i
   ·subst hj;rw [hi] at e1;cases e1;rw [UO hiσ] at e2;cases e2;exact ⟨u,r,.inl ⟨hk,by simp⟩⟩
   ·rw [UP (Ne.symm hj)] at e2;obtain ⟨u',r',q⟩:=hl j y v' e1 e2 e3;refine ⟨u',r',?_⟩;rcases q with ⟨k,e⟩ | ⟨k,c,e,z⟩
    ·refine .inl ⟨k,?_⟩;have:y≠x:=fun e=>hj (zA hN e1 (e ▸ hi))
     simp [this,e]
    ·exact .inr ⟨k,c,e,z.sameBut hs (zb y c e)⟩
  ·obtain ⟨w',z⟩:=I.cell y c e;exact ⟨w',z.sameBut hs (zb y c e)⟩
  ·obtain ⟨e,n,ne,nf,d⟩:=I.pin p hp;exact ⟨(hs.2 p.1 ne).trans e,n,ne,nf,d⟩
 ·have hfn:X.fn x=true:=by
   rcases hf with z | z
   ·exact z
   ·rw [z] at hk;cases hk
  obtain ⟨c,hc⟩:=I.ok.has x (.inl hk);obtain ⟨w',z⟩:=I.cell x c hc;refine wpAny_storeName_cell I.ok.kind hk hc z (fun h' hc' hs=>?_)
  obtain ⟨oc,hoc,hocd⟩:=id z;refine h { s with heap:=h' } ⟨I.ok,I.os,I.bare,⟨fun b o e n hb hx=>?_,fun b o e n hb hx=>?_,I.base.free,fun b o e hx=>?_,I.base.tups,I.base.kG,I.base.lE⟩,⟨m,hn.sameBut hs (Ne.symm (zb x c hc)),fun j y v' e1 e2 e3=>?_⟩,fun y c' e=>?_,I.free,I.ju,fun p hp=>?_,tracked ⟨oc,hoc,I.ju x c hc⟩ hs,by simpa using I.len⟩ ⟨c,hs,.inr hc⟩
  ·exact (hs.2 b (RQ (RY (RL e) (I.ok.Fb x c hfn hc)))).trans (I.base.keep b o e n hb hx)
  ·obtain ⟨sl,e1⟩:=I.base.slot b o e n hb hx;exact ⟨sl,(hs.2 b (RQ (RY (RL e) (I.ok.Fb x c hfn hc)))).trans e1⟩
  ·obtain ⟨o',e1⟩:=I.base.there b o e hx;exact ⟨o',(hs.2 b (RQ (RY (RL e) (I.ok.Fb x c hfn hc)))).trans e1⟩
  ·by_cases hj:j=i
   ·subst hj;rw [hi] at e1;cases e1;rw [UO hiσ] at e2;cases e2;exact ⟨u,r,.inr ⟨.inl hk,c,hc,hc'⟩⟩
   ·rw [UP (Ne.symm hj)] at e2;obtain ⟨u',r',q⟩:=hl j y v' e1 e2 e3;refine ⟨u',r',?_⟩;rcases q with q | ⟨k,c',e,z'⟩
    ·exact .inl q
    ·refine .inr ⟨k,c',e,z'.sameBut hs ?_⟩;rintro rfl;exact hj (zA hN e1 (I.ok.inj _ _ _ e hc ▸ hi))
  ·by_cases hcc:c'=c
   ·subst hcc;exact ⟨_,hc'⟩
   ·obtain ⟨w2,z2⟩:=I.cell y c' e;exact ⟨w2,z2.sameBut hs hcc⟩
  ·obtain ⟨e,n,ne,nf,d⟩:=I.pin p hp;refine ⟨(hs.2 p.1 ?_).trans e,n,ne,nf,d⟩;intro q;rw [q,hoc] at e;have q':oc=p.2:=Option.some.inj e;exact d w' (by rw [<- q'];exact hocd)
def sX {M:Model}{A:Around}{E:Tn}{i:Nat}{x:Str}{v:V}{u:Value}{Q:Unit->Shared->Prop}(I:Inv X pins σ H s)(hN:X.N.Nodup)(hi:X.N[i]?=some x)(hx:Loc X.env.scope x)(r:RelV v u)
  (h:∀ s',Inv X pins (σ.set i (some v)) H s'->Q () s')(hf:X.fn x=true\/X.env.scope.names.lookup x=some .local:=by first | exact .inl rfl | exact .inr rfl | assumption):wpAny M A (storeName X.env x u) Q E s :=
 qP I hN hi hx r (fun s' I' _=>h s' I') hf
def Inv.CG {s':Shared}{ch:Uh}(I:Inv X pins σ H s)(ho:s'.os=s.os)(u:Un (frs X.stack) ch H H' s.heap s'.heap)(hok:dQ X.prog X.w H' s'.heap)(hg:AllBare s'.gens)
  (hch:∀ b∈ch,(b∈X.ex\/X.s₀.heap.objs.size<=b)/\b≠X.env.locals/\(∀ x c,X.env.cells.lookup x=some c->c≠b)/\∀ p∈X.pn++pins,p.1≠b):Inv X pins σ H' s':=by
 obtain ⟨h',g',d',t',o'⟩:=s';have e:o'=s.os:=ho;subst e;exact I.call (g':=g') (t':=t') (d':=d') u hok hg hch
end
abbrev XK:=Value->Ue->Hp->Prop
abbrev St:=List (Option V)
abbrev VK:=V->Hp->Prop
abbrev TE:=St->Hp->VK->Prop
abbrev TT:=St->Hp->(Bool->Hp->Prop)->Prop
abbrev TA:=St->Hp->(List V->Hp->Prop)->Prop
structure Ends where
 nx:St->Hp->Prop
 rt:VK
 bk:St->Hp->Prop:=fun _ _=>False
 ct:St->Hp->Prop:=fun _ _=>False
abbrev TS:=Ends->St->Hp->Prop
def EP (X:Cx)(pins:UG)(σ:St)(Q:VK)(u:Value)(s':Shared):Prop:=∃ v H',Inv X pins σ H' s'/\RelV v u/\Q v H'
def TP (X:Cx)(pins:UG)(σ:St)(Q:Bool->Hp->Prop)(b:Bool)(s':Shared):Prop:=∃ H',Inv X pins σ H' s'/\Q b H'
def AP (X:Cx)(pins:UG)(σ:St)(Q:List V->Hp->Prop)(us:Ug)(s':Shared):Prop:=∃ vs H',Inv X pins σ H' s'/\Vals vs us/\Q vs H'
def SP (X:Cx)(pins:UG)(D:Ends)(f:Flow)(s':Shared):Prop :=
 match f with
 | .next=>∃ σ' H',Inv X pins σ' H' s'/\D.nx σ' H'
 | .brk=>∃ σ' H',Inv X pins σ' H' s'/\D.bk σ' H'
 | .cont=>∃ σ' H',Inv X pins σ' H' s'/\D.ct σ' H'
 | .ret u=>∃ v σ' H',Inv X pins σ' H' s'/\RelV v u/\D.rt v H'
def PE (X:Cx)(e:Expr)(t:TE):Prop :=
 ∀ (pins:UG)(s:Shared)(σ:St)(H:Hp)(Q:VK),Inv X pins σ H s->t σ H Q->wpAny (model X.prog X.w) X.A (eval e X.env) (EP X pins σ Q) X.xe s
def PT (X:Cx)(e:Expr)(t:TT):Prop :=
 ∀ (pins:UG)(s:Shared)(σ:St)(H:Hp)(Q:Bool->Hp->Prop),Inv X pins σ H s->t σ H Q->wpAny (model X.prog X.w) X.A (isTrue e X.env (eval e X.env)) (TP X pins σ Q) X.xe s
def PW (X:Cx)(e:Expr)(t:TT):Prop :=
 ∀ (whole:Sem Value)(pins:UG)(s:Shared)(σ:St)(H:Hp)(Q:Bool->Hp->Prop),Inv X pins σ H s->t σ H Q->wpAny (model X.prog X.w) X.A (isTrue e X.env whole) (TP X pins σ Q) X.xe s
def PW.pt {X:Cx}{e:Expr}{t:TT}(h:PW X e t):PT X e t:=h _
def PA (X:Cx)(es:Ul)(t:TA):Prop :=
 ∀ (pos:Pos)(pins:UG)(s:Shared)(σ:St)(H:Hp)(Q:List V->Hp->Prop),Inv X pins σ H s->t σ H Q->wpAny (model X.prog X.w) X.A (spliced (backTo pos (starEach es X.env))) (AP X pins σ Q) X.xe s
def PS (X:Cx)(st:Stmt)(t:TS):Prop :=
 ∀ (pins:UG)(s:Shared)(σ:St)(H:Hp)(D:Ends),Inv X pins σ H s->t D σ H->wpAny (model X.prog X.w) X.A (exec st X.env) (SP X pins D) X.xe s
def p9 (X:Cx)(st:Up)(t:TS):Prop :=
 ∀ (pins:UG)(s:Shared)(σ:St)(H:Hp)(D:Ends),Inv X pins σ H s->t D σ H->wpAny (model X.prog X.w) X.A (execs st X.env) (SP X pins D) X.xe s
def aN {α:Type}{t:Sem α}{Q Q':α->Shared->Prop}{M:Model}{A:Around}{E:Tn}{s:Shared}(h:wpAny M A t Q E s)(hQ:∀ a s,Q a s->Q' a s):wpAny M A t Q' E s:=Rr h hQ fun _ _ x=>x
section
variable {X:Cx}
inductive IC (i:Nat)(σ:St)(H:Hp)(Q:VK):Prop
 | mk:∀ v,(σ[i]?=some (some v))->(Q v H)->IC i σ H Q
def jL (i:Nat):TE:=fun σ H Q=>IC i σ H Q
def tC (v:V):TE:=fun _ H Q=>Q v H
def fQ {i:Nat}{x:Str}{pos:Pos}(hN:X.N[i]?=some x)(hv:ko X.env.scope x)(hd:(x == ("__debug__":Str))=false:=by decide)(hcd:(x == ("__classdict__":Str))=false:=by decide):PE X (.Name x pos) (jL i):=by
 intro pins s σ H Q I h;obtain ⟨v,e,h⟩:=h;obtain ⟨m,hn,hl⟩:=I.loc;obtain ⟨u,r,l⟩:=hl i x v hN e hv;have fin:EP X pins σ Q u s:=⟨v,H,I,r,h⟩;rcases l with ⟨hk,hm⟩ | ⟨hk,c,hc,hcell⟩
 ·exact wpAny_Name (wpAny_loadName_local I.ok.kind hk hn hm fin) hd
 ·rcases hk with hk | hk
  ·exact wpAny_Name (wpAny_loadName_cell I.ok.kind hk hc hcell fin) hd
  ·exact wpAny_Name (wpAny_loadName_free I.ok.kind hk hc hcell fin hcd) hd
def NV {i j pos}:PE X (.Constant (.int i) j pos) (tC (.int i)):=fun _ _ _ H _ I h=>wpAny_Constant_int ⟨.int i,H,I.tok _,⟨_,rfl⟩,h⟩
def OL {b j pos}:PE X (.Constant (.bool b) j pos) (tC (.bl b)):=fun _ _ _ H _ I h=>Constant_bool ⟨.bl b,H,I,rfl,h⟩
def L8 {j pos}:PE X (.Constant .none j pos) (tC .bF):=fun _ _ _ H _ I h=>Constant_none ⟨.bF,H,I,rfl,h⟩
def Fx {x j pos}:PE X (.Constant (.str x) j pos) (tC (.str x)):=fun _ _ _ H _ I h=>Calls.Constant_str ⟨.str x,H,I.tok _,⟨_,rfl⟩,h⟩
def Gl (X:Cx) (x:Str):Prop:=X.env.kindOf x=some .globalImplicit
def AQ {E:Tn}{pins:UG}{s:Shared}{σ:St}{H:Hp}{x:Str}{u:Value}{pos:Pos}{Q:Tn}(I:Inv X pins σ H s)(hg:Gl X x)(hm:X.mg x=some u)(h:Q u s)
  (hd:(x == ("__debug__":Str))=false:=by decide):wpAny (model X.prog X.w) X.A (eval (.Name x pos) X.env) Q E s :=
 Calls.Name_function_global I.ok.kind hg (Calls.loadGlobal_global (by rw [I.ok.glob];exact I.mod.glob.keeps I.bk) hm h) hd
def j7 {E:Tn}{pins:UG}{s:Shared}{σ:St}{H:Hp}{x:Str}{u:Value}{pos:Pos}{Q:Tn}(I:Inv X pins σ H s)(hg:Gl X x)(hm:X.mg x=none)(hv:bootBuiltins x=some u)(h:Q u s)
  (hn:x≠"__name__":=by decide)(hd:(x == ("__debug__":Str))=false:=by decide):wpAny (model X.prog X.w) X.A (eval (.Name x pos) X.env) Q E s:=by
 obtain ⟨mb,h1,h2⟩:=I.mod.blt;exact Calls.Name_function_global I.ok.kind hg (Calls.loadGlobal_builtin (by rw [I.ok.glob];exact I.mod.glob.keeps I.bk) hm (by rw [I.ok.blt];exact h1.keeps I.bk) ((h2 x hn).trans hv) h) hd
def Kg {x:Str}{v:V}{u:Value}{pos:Pos}(hg:Gl X x)(hm:X.mg x=none)(hv:bootBuiltins x=some u)(r:RelV v u)(hn:x≠"__name__":=by decide)(hd:(x == ("__debug__":Str))=false:=by decide):PE X (.Name x pos) (tC v) :=
 fun _ _ _ H _ I h=>j7 I hg hm hv ⟨v,H,I,r,h⟩ hn hd
variable {a b:Expr}{ta tb:TE}{pos:Pos}
variable {tA tB':TT}{rest:Ul}
def Qg (t u:TT):TT:=fun σ H Q=>t σ H fun c H1=>if c=true then u σ H1 Q else Q false H1
def QY (t u:TT):TT:=fun σ H Q=>t σ H fun c H1=>if c=true then Q true H1 else u σ H1 Q
def Qk (t:TT):TT:=fun σ H Q=>t σ H fun c H1=>Q (!c) H1
def pw_and1 (ha:PT X a tA):PW X (.BoolOp .And [a] pos) tA:=by
 intro wh pins s σ H Q I h;refine isTrue_and (aN (ha pins s σ H Q I h) fun c s1 e=>?_)
 cases c with
 | true=>exact isTrue_and_nil e
 | false=>exact e
def pw_or1 (ha:PT X a tA):PW X (.BoolOp .Or [a] pos) tA:=by
 intro wh pins s σ H Q I h;refine isTrue_or (aN (ha pins s σ H Q I h) fun c s1 e=>?_)
 cases c with
 | false=>exact isTrue_or_nil e
 | true=>exact e
def pw_and (ha:PT X a tA)(hb:PW X (.BoolOp .And (b::rest) pos) tB'):PW X (.BoolOp .And (a::b::rest) pos) (Qg tA tB'):=by
 intro wh pins s σ H Q I h;refine isTrue_and (aN (ha pins s σ H _ I h) fun c s1 ⟨H1,I1,q1⟩=>?_)
 cases c with
 | true=>exact hb wh pins s1 σ H1 Q I1 q1
 | false=>exact ⟨H1,I1,q1⟩
def pw_or (ha:PT X a tA)(hb:PW X (.BoolOp .Or (b::rest) pos) tB'):PW X (.BoolOp .Or (a::b::rest) pos) (QY tA tB'):=by
 intro wh pins s σ H Q I h;refine isTrue_or (aN (ha pins s σ H _ I h) fun c s1 ⟨H1,I1,q1⟩=>?_)
 cases c with
 | true=>exact ⟨H1,I1,q1⟩
 | false=>exact hb wh pins s1 σ H1 Q I1 q1
def F7 (ha:PT X a tA):PT X (.UnaryOp .Not a pos) (Qk tA):=by
 intro pins s σ H Q I h;exact isTrue_not (ha pins s σ H (fun c H1=>Q (!c) H1) I h)
inductive EG (tb:TE)(σ:St)(Q:VK) (x:V)(H1:Hp):Prop
 | mk:∀ c,(x=.bl c)->(if c=true then tb σ H1 Q else Q (.bl false) H1)->EG tb σ Q x H1
def OQ (ta tb:TE):TE:=fun σ H Q=>ta σ H fun x H1=>EG tb σ Q x H1
inductive Je (tb:TE)(σ:St)(Q:VK) (x:V)(H1:Hp):Prop
 | mk:∀ c,(x=.bl c)->(if c=true then Q (.bl true) H1 else tb σ H1 Q)->Je tb σ Q x H1
def P8 (ta tb:TE):TE:=fun σ H Q=>ta σ H fun x H1=>Je tb σ Q x H1
def Lm {op}{t:TE}(h:PE X a t):PE X (.BoolOp op [a] pos) t:=fun pins s σ H Q I hw=>BoolOp_one (h pins s σ H Q I hw)
def L5 (ha:PE X a ta)(hb:PE X (.BoolOp .And (b::rest) pos) tb):PE X (.BoolOp .And (a::b::rest) pos) (OQ ta tb):=by
 intro pins s σ H Q I h;refine BoolOp_and (aN (ha pins s σ H _ I h) fun v s1 ⟨x,H1,I1,r1,q1⟩=>?_)
 obtain ⟨c,rfl,q1⟩:=q1;cases r1;refine Sw ?_;cases c with
 | true=>exact hb pins s1 σ H1 Q I1 q1
 | false=>exact ⟨.bl false,H1,I1,rfl,q1⟩
def OF (ha:PE X a ta)(hb:PE X (.BoolOp .Or (b::rest) pos) tb):PE X (.BoolOp .Or (a::b::rest) pos) (P8 ta tb):=by
 intro pins s σ H Q I h;refine BoolOp_or (aN (ha pins s σ H _ I h) fun v s1 ⟨x,H1,I1,r1,q1⟩=>?_)
 obtain ⟨c,rfl,q1⟩:=q1;cases r1;refine Sw ?_;cases c with
 | false=>exact hb pins s1 σ H1 Q I1 q1
 | true=>exact ⟨.bl true,H1,I1,rfl,q1⟩
def Rh (t:TT)(ta tb:TE):TE:=fun σ H Q=>t σ H fun c H1=>if c=true then ta σ H1 Q else tb σ H1 Q
def G6 {c:Expr}(hc:PT X c tA)(ha:PE X a ta)(hb:PE X b tb):PE X (.IfExp c a b pos) (Rh tA ta tb):=by
 intro pins s σ H Q I h;refine wpAny_IfExp (aN (hc pins s σ H _ I h) fun d s1 ⟨H1,I1,q1⟩=>?_)
 cases d with
 | true=>exact ha pins s1 σ H1 Q I1 q1
 | false=>exact hb pins s1 σ H1 Q I1 q1
end
def bT (K:UU)(H:Hp)(a:Addr)(xs:List V):Prop :=
 Rd H a (.lst xs) \/
  ∃ (o:Obj)(its:Ua) (n:Nat),K.lookup a=some o/\o.cls=.type "list"/\o.dict=none/\o.data=.seq its n/\its.size<=sizeLine/\Vals xs its.toList
def cP (K:UU)(H:Hp)(a:Addr)(xs:List V):Prop :=
 Rd H a (.tup xs) \/
  ∃ (o:Obj)(its:Ua) (n:Nat),K.lookup a=some o/\o.cls=.type "tuple"/\o.data=.seq its n/\its.size<=sizeLine/\Vals xs its.toList
def Qh:Value->Option V
 | .none=>some .bF
 | .bool b=>some (.bl b)
 | .int i _=>some (.int i)
 | .str x _=>some (.str x)
 | .bytes b _=>some (.oi b)
 | .float b _=>some (.AV b)
 | .ref a=>some (.ref a)
 | .type n=>some (.ty n)
 | _=>none
def RelV.abs {x:V}{u:Value}(r:RelV x u):Qh u=some x:=by
 cases x with
 | bF=>cases r;rfl
 | bl _=>cases r;rfl
 | int _=>obtain ⟨t,rfl⟩:=r;rfl
 | str _=>obtain ⟨t,rfl⟩:=r;rfl
 | oi _=>obtain ⟨t,rfl⟩:=r;rfl
 | AV _=>obtain ⟨t,rfl⟩:=r;rfl
 | ref _=>cases r;rfl
 | ty _=>cases r;rfl
theorem RelV.inj {x y:V}{u:Value}(r:RelV x u)(q:RelV y u):x=y:=Option.some.inj (r.abs.symm.trans q.abs)
theorem Vals.inj:∀ {xs ys:List V}{us:Ug},Vals xs us->Vals ys us->xs=ys
 | _,_,_,.nil,.nil=>rfl
 | _,_,_,.cons r t,.cons r' t'=>by rw [r.inj r',Vals.inj t t']
section
variable {X:Cx}{pins:UG}{σ:St}{H:Hp}{s:Shared}{a:Addr}{xs ys:List V}
def bT.of {K:UU}(h:H a=some (.lst xs)):bT K H a xs:=.inl (.inl h)
def cP.of {K:UU}(h:H a=some (.tup xs)):cP K H a xs:=.inl (.inl h)
def Inv.list (I:Inv X pins σ H s)(h:bT X.K H a xs):∃ its:Ug,Vals xs its/\PlainL s.heap a its.toArray/\xs.length<=sizeLine:=by
 rcases h with h | ⟨o,its,n,hk,hc,hd,hs,hz,r⟩
 ·obtain ⟨z,its,n,r,e⟩:=h.ok I.hok;exact ⟨its,r,⟨_,n,e,rfl,rfl,rfl⟩,z⟩
 ·refine ⟨its.toList,r,⟨o,n,I.iU a o hk,hc,hd,by simpa using hs⟩,?_⟩
  have e:=r.length;simp only [Sx] at e;omega
def Inv.tuple (I:Inv X pins σ H s)(h:cP X.K H a xs):∃ its:Ug,Vals xs its/\IsTup s.heap a its.toArray/\xs.length<=sizeLine:=by
 rcases h with h | ⟨o,its,n,hk,hc,hs,hz,r⟩
 ·obtain ⟨z,its,r,p⟩:=h.ok I.hok;exact ⟨its,r,p,z⟩
 ·refine ⟨its.toList,r,⟨o,I.iU a o hk,hc,n,by simpa using hs⟩,?_⟩
  have e:=r.length;simp only [Sx] at e;omega
def Inv.pO (I:Inv X pins σ H s)(h:bT X.K H a xs)(h':bT X.K H a ys):xs=ys:=by
 obtain ⟨its,r,⟨o,n,e,_,_,d⟩,_⟩:=I.list h;obtain ⟨its',r',⟨o',n',e',_,_,d'⟩,_⟩:=I.list h';rw [e] at e';cases e';rw [d] at d';injection d' with d1 _
 have:its=its':=by simpa using congrArg Array.toList d1
 subst this;exact r.inj r'
def Inv.Ft (I:Inv X pins σ H s)(h:cP X.K H a xs)(h':cP X.K H a ys):xs=ys:=by
 obtain ⟨its,r,⟨o,e,_,n,d⟩,_⟩:=I.tuple h;obtain ⟨its',r',⟨o',e',_,n',d'⟩,_⟩:=I.tuple h';rw [e] at e';cases e';rw [d] at d';injection d' with d1 _
 have:its=its':=by simpa using congrArg Array.toList d1
 subst this;exact r.inj r'
end
section
variable {X:Cx}{pins:UG}{σ:St}{H:Hp}{s:Shared}{E:Tn}
end
section
variable {X:Cx}{st:Stmt}{rest:Up}{t u:TS}{e:Expr}{te:TE}{pos:Pos}
def OT:TS:=fun D σ H=>D.nx σ H
def P7 (t u:TS):TS:=fun D σ H=>t { D with nx:=u D } σ H
def Ju:p9 X [] OT:=fun _ _ σ H _ I h=>wpAny_execs_nil ⟨σ,H,I,h⟩
def yZ (h1:PS X st t)(h2:p9 X rest u):p9 X (st::rest) (P7 t u):=by
 intro pins s σ H D I h;refine wpAny_execs_cons (aN (h1 pins s σ H { D with nx:=u D } I h) fun f s1 q=>?_)
 cases f with
 | next =>
  obtain ⟨σ',H',I',q⟩:=q;exact h2 pins s1 σ' H' D I' q
 | ret v=>exact q
 | brk=>exact q
 | cont=>exact q
def JZ (h1:PS X st t):p9 X [st] t:=by
 intro pins s σ H D I h;refine wpAny_execs_cons (aN (h1 pins s σ H D I h) fun f s1 q=>?_)
 cases f with
 | next=>exact wpAny_execs_nil q
 | ret v=>exact q
 | brk=>exact q
 | cont=>exact q
def Inv.quiet {pins:UG}{σ:St}{H:Hp}{s:Shared}(I:Inv X pins σ H s):interactive X.env=false:=by simp [interactive,I.ok.kind]
def O4 (te:TE):TS:=fun D σ H=>te σ H fun _ H1=>D.nx σ H1
def JV (he:PE X e te)(hs:swapsWith e none pos.line X.env=pure false:=by rfl):PS X (.Expr e pos) (O4 te):=by
 intro pins s σ H D I h;exact wpAny_Expr_any (aN (he pins s σ H _ I h) fun v s1 ⟨x,H1,I1,r1,q1⟩=>⟨σ,H1,I1,q1⟩) I.quiet hs
def Qo (te:TE):TS:=fun D σ H=>te σ H D.rt
def FY (he:PE X e te):PS X (.Return (some e) pos) (Qo te):=by
 intro pins s σ H D I h;exact wpAny_Return_some (aN (he pins s σ H _ I h) fun v s1 ⟨x,H1,I1,r1,q1⟩=>⟨x,σ,H1,I1,r1,q1⟩)
def P6 (c:TT)(t u:TS):TS:=fun D σ H=>c σ H fun b H1=>if b=true then t D σ H1 else u D σ H1
def Pf {c:Expr}{a b:Up}{tc:TT}(hc:PT X c tc)(ha:p9 X a t)(hb:p9 X b u):PS X (.If c a b pos) (P6 tc t u):=by
 intro pins s σ H D I h;refine wpAny_If (aN (hc pins s σ H _ I h) fun d s1 ⟨H1,I1,q1⟩=>?_)
 cases d with
 | true=>exact ha pins s1 σ H1 D I1 q1
 | false=>exact hb pins s1 σ H1 D I1 q1
end
abbrev TG:=V->St->Hp->(St->Hp->Prop)->Prop
abbrev r9:=List V->St->Hp->(St->Hp->Prop)->Prop
def PG (X:Cx)(target:Expr)(t:TG):Prop :=
 ∀ (pins:UG)(s:Shared)(σ:St)(H:Hp) (v:V)(u:Value)(Q:St->Hp->Prop),Inv X pins σ H s->RelV v u->t v σ H Q ->
  wpAny (model X.prog X.w) X.A (assign target X.env u) (fun _ s'=>∃ σ' H',Inv X pins σ' H' s'/\Q σ' H') X.xe s
def EL (X:Cx)(ts:Ul)(t:r9):Prop :=
 ∀ (pins:UG)(s:Shared)(σ:St)(H:Hp)(vs:List V)(us:Ug)(Q:St->Hp->Prop),Inv X pins σ H s->Vals vs us->t vs σ H Q ->
  wpAny (model X.prog X.w) X.A (assignInOrder ((assignEach ts X.env).map (·.2)) us) (fun _ s'=>∃ σ' H',Inv X pins σ' H' s'/\Q σ' H') X.xe s
abbrev BF:=V->V->V->Hp->(Hp->Prop)->Prop
def G4 (X:Cx)(t:BF):Prop :=
 ∀ (pins:UG)(s:Shared)(σ:St)(H:Hp) (o i v:V)(ov iv u:Value)(Q:Hp->Prop),Inv X pins σ H s->RelV o ov->RelV i iv->RelV v u->t o i v H Q ->
  wpAny (model X.prog X.w) X.A (setItem ov iv u) (fun _ s'=>∃ H',Inv X pins σ H' s'/\Q H') X.xe s
abbrev IW:=V->V->Hp->VK->Prop
def PN (X:Cx)(op:Operator)(t:IW):Prop :=
 ∀ (pins:UG)(s:Shared)(σ:St)(H:Hp) (x y:V)(v u:Value)(Q:VK),Inv X pins σ H s->RelV x v->RelV y u->t x y H Q ->
  wpAny (model X.prog X.w) X.A (inplaceOp op v u) (EP X pins σ Q) X.xe s
section
variable {X:Cx}{pos:Pos}
def mY (i:Nat):TG:=fun v σ H Q=>Q (σ.set i (some v)) H
def BA {i:Nat}{x:Str}(hN:X.N.Nodup)(hi:X.N[i]?=some x)(hx:Loc X.env.scope x)(hf:X.fn x=true\/X.env.scope.names.lookup x=some .local:=by first | exact .inl rfl | exact .inr rfl | assumption):PG X (.Name x pos) (mY i):=by
 intro pins s σ H v u Q I r h;exact wpAny_assign_Name (sX I hN hi hx r (fun s' I'=>⟨_,H,I',h⟩) hf)
def Nt:r9:=fun vs σ H Q=>vs=[]/\Q σ H
inductive EA (t:TG)(u:r9)(vs:List V)(σ:St)(H:Hp)(Q:(St->Hp->Prop)):Prop
 | mk:∀ v r,(vs=v::r)->(t v σ H fun σ' H'=>u r σ' H' Q)->EA t u vs σ H Q
def IM (t:TG)(u:r9):r9:=fun vs σ H Q=>EA t u vs σ H Q
def KU:EL X [] Nt:=by
 intro pins s σ H vs us Q I r h;obtain ⟨e,h⟩:=h;subst e;cases r;exact assignInOrder_nil ⟨σ,H,I,h⟩
def Gm {e:Expr}{es:Ul}{t:TG}{u:r9}(h1:PG X e t)(h2:EL X es u)
  (hs:(assignEach (e::es) X.env).map (·.2)=assign e X.env::(assignEach es X.env).map (·.2):=by rfl):EL X (e::es) (IM t u):=by
 intro pins s σ H vs us Q I r h;obtain ⟨v,vr,e1,h⟩:=h;subst e1;cases r with
 | cons r rr =>
  rw [hs];refine assignInOrder_cons (aN (h1 pins s σ H _ _ _ I r h) fun _ s1 ⟨σ1,H1,I1,q1⟩=>?_)
  exact h2 pins s1 σ1 H1 _ _ Q I1 rr q1
inductive IE (K:UU) (n:Nat)(t:r9) (v:V)(σ:St)(H:Hp)(Q:(St->Hp->Prop)):Prop
 | mk:∀ a xs,(v=.ref a)->(cP K H a xs)->(xs.length=n)->(t xs σ H Q)->IE K n t v σ H Q
def gz (K:UU) (n:Nat)(t:r9):TG:=fun v σ H Q=>IE K n t v σ H Q
def Lc {es:Ul}{k:Nat}{t:r9}{n:Nat}(hc:X.calm=true)(h:EL X es t)
  (hn:(assignEach es X.env).length=n:=by rfl)(hst:(assignEach es X.env).findIdx? (·.1)=none:=by rfl):PG X (.Tuple es k pos) (gz X.K n t):=by
 intro pins s σ H v u Q I r hw;obtain ⟨a,xs,e1,hq,hl,hw⟩:=hw;subst e1;cases r;obtain ⟨its,rv,ht,hz⟩:=I.tuple hq;refine assign_Tuple_tuple (I.ok.hd hc) ht (by simp [hn,<- hl,rv.length]) hst fun h' hx=>?_
 have I1:Inv X pins σ H { s with heap:=h' }:=I.kept (t':=s.toks) fun b o e=>hx b o (RQ (RL e)) e
 exact h pins _ σ H xs _ Q I1 (by simpa using rv) hw
def nJ (to ti:TE)(t:BF):TG:=fun v σ H Q=>to σ H fun o H1=>ti σ H1 fun i H2=>t o i v H2 fun H3=>Q σ H3
def NX {o i:Expr}{to ti:TE}{t:BF}(ho:PE X o to)(hi:PE X i ti)(hs:G4 X t)
  (ha:∀ v,assign (.Subscript o i pos) X.env v=(do
   let ov <- holding [v] (eval o X.env)
   let iv <- holding [v,ov] (eval i X.env)
   standAt pos
   holding [v,ov,iv] (setItem ov iv v)
   release [v,ov,iv] []):=by intro _;rfl):PG X (.Subscript o i pos) (nJ to ti t):=by
 intro pins s σ H v u Q I r h;rw [ha];refine R8 (Sa (aN (ho pins s σ H _ I h) fun ov s1 ⟨x,H1,I1,r1,q1⟩=>?_))
 refine R8 (Sa (aN (hi pins s1 σ H1 _ I1 q1) fun iv s2 ⟨y,H2,I2,r2,q2⟩=>?_))
 refine R8 (T9 (R8 (Sa (aN (hs pins s2 σ H2 x y v ov iv u _ I2 r1 r2 r q2) fun _ s3 ⟨H3,I3,q3⟩=>?_))))
 exact wpAny_release ⟨σ,H3,I3,q3⟩
def CO (te:TE)(g:TG):TS:=fun D σ H=>te σ H fun x H1=>g x σ H1 D.nx
def Ep {tg e:Expr}{te:TE}{g:TG}(he:PE X e te)(hg:PG X tg g)(hs:swapsWithSole [tg] e pos.line X.env=pure false:=by rfl)(hw:swappedStores [tg] e X.env=pure none:=by rfl)
  (h1:(assignEach [tg] X.env).map (·.2)=[assign tg X.env]:=by rfl):PS X (.Assign [tg] e pos) (CO te g):=by
 intro pins s σ H D I h;refine wpAny_Assign_stores (aN (he pins s σ H _ I h) fun v s1 ⟨x,H1,I1,r1,q1⟩=>?_) hs hw
 rw [h1];exact aN (hg pins s1 σ H1 x v _ I1 r1 q1) fun _ s2 q=>q
def M1 {i:Nat}{x:Str}{e:Expr}{te:TE}{pos':Pos}(hN:X.N.Nodup)(hi:X.N[i]?=some x)(hx:Loc X.env.scope x)(he:PE X e te)(hs:swapsWith e (some (.Name x pos')) pos.line X.env=pure false:=by rfl)(hf:X.fn x=true\/X.env.scope.names.lookup x=some .local:=by first | exact .inl rfl | exact .inr rfl | assumption) :
  PS X (.Assign [.Name x pos'] e pos) (CO te (mY i)):=by
 intro pins s σ H D I h;refine wpAny_Assign_Name (aN (he pins s σ H _ I h) fun v s1 ⟨y,H1,I1,r1,q1⟩=>?_) hs
 exact sX I1 hN hi hx r1 (fun s2 I2=>⟨_,H1,I2,q1⟩) hf
def QF (i:Nat)(te:TE)(ti:IW):TS:=fun D σ H=>∃ x,σ[i]?=some (some x)/\te σ H fun y H1=>ti x y H1 fun z H2=>D.nx (σ.set i (some z)) H2
def Nq {i:Nat}{x:Str}{e:Expr}{te:TE}{op:Operator}{ti:IW}{pos':Pos}(hN:X.N.Nodup)(hi:X.N[i]?=some x)(hx:Loc X.env.scope x)(he:PE X e te)(ho:PN X op ti)(hf:X.fn x=true\/X.env.scope.names.lookup x=some .local:=by first | exact .inl rfl | exact .inr rfl | assumption) :
  PS X (.AugAssign (.Name x pos') op e pos) (QF i te ti):=by
 intro pins s σ H D I h;obtain ⟨v,e1,h⟩:=h;obtain ⟨m,hn,hl⟩:=I.loc;have vis:ko X.env.scope x:=by rcases hx with k | k;exact .inl k;exact .inr (.inl k)
 obtain ⟨u,r,l⟩:=hl i x v hi e1 vis;refine wpAny_AugAssign_Name ?_;have go:wpAny (model X.prog X.w) X.A (eval e X.env) (fun w s₂=>wpAny (model X.prog X.w) X.A (inplaceOp op u w) (fun r s₃=>wpAny (model X.prog X.w) X.A (storeName X.env x r) (fun _=>SP X pins D .next) X.xe s₃) X.xe s₂) X.xe s:=by
  refine aN (he pins s σ H _ I h) fun w s1 ⟨y,H1,I1,r1,q1⟩=>?_
  refine aN (ho pins s1 σ H1 v y u w _ I1 r r1 q1) fun z s2 ⟨zv,H2,I2,r2,q2⟩=>?_
  exact sX I2 hN hi hx r2 (fun s3 I3=>⟨_,H2,I3,q2⟩) hf
 rcases l with ⟨hk,hm⟩ | ⟨hk,c,hc,hcell⟩
 ·exact wpAny_loadName_local I.ok.kind hk hn hm go
 ·rcases hk with hk | hk
  ·exact wpAny_loadName_cell I.ok.kind hk hc hcell go
  ·rcases hx with k | k
   ·have:X.env.scope.names.lookup x=some .free:=hk;rw [k] at this;cases this
   ·have:X.env.scope.names.lookup x=some .free:=hk;rw [k] at this;cases this
end
section
variable {X:Cx}{pos:Pos}
def MH (c:TT)(tb:TS):TS:=fun D σ H=>∃ W:Nat->St->Hp->Prop,(∃ m,W m σ H)/\∀ m σ H,W m σ H ->
 c σ H fun b H1=>if b=true then ∃ N:St->Hp->Prop,(∀ σ' H',N σ' H'->∃ m',m' < m/\W m' σ' H')/\tb { D with nx:=N,ct:=N,bk:=D.nx } σ H1 else D.nx σ H1
def HK {c:Expr}{body:Up}{tc:TT}{tb:TS}(hp:PassesOwn (model X.prog X.w) X.A X.env X.xe)(hc:PT X c tc)(hb:p9 X body tb):PS X (.While c body [] pos) (MH tc tb):=by
 intro pins s σ H D I h;obtain ⟨W,⟨m0,w0⟩,turn⟩:=h;refine wpAny_While (codeAny_whileLoop (fun n s'=>∃ σ' H',Inv X pins σ' H' s'/\W n σ' H') ?_ m0 ⟨σ,H,I,w0⟩)
 rintro n s1 ⟨σ1,H1,I1,w1⟩;refine Tf hp (aN (hc pins s1 σ1 H1 _ I1 (turn n σ1 H1 w1)) fun b s2 ⟨H2,I2,q2⟩=>?_)
 cases b with
 | true =>
  obtain ⟨N,hN,q2⟩:=q2;rw [if_pos rfl];refine Tf hp (aN (hb pins s2 σ1 H2 _ I2 q2) fun f s3 q3=>?_)
  cases f with
  | next =>
   obtain ⟨σ3,H3,I3,n3⟩:=q3;obtain ⟨m',hm,w3⟩:=hN σ3 H3 n3;exact ⟨m',hm,σ3,H3,I3,w3⟩
  | cont =>
   obtain ⟨σ3,H3,I3,n3⟩:=q3;obtain ⟨m',hm,w3⟩:=hN σ3 H3 n3;exact ⟨m',hm,σ3,H3,I3,w3⟩
  | brk=>exact q3
  | ret v=>exact q3
 | false =>
  rw [if_neg RX];exact wpAny_execs_nil ⟨σ1,H2,I2,q2⟩
end
structure It where
 go:Nat->Hp->Prop
 su:Nat->Hp->V->Hp->Prop
 stop:Nat->Hp->Prop
def dY (X:Cx)(pins:UG)(H:Hp)(b:Addr):Prop :=
 H b=none/\b≠X.env.locals/\b∉X.fs/\(b∈X.ex\/X.s₀.heap.objs.size<=b)/\(∀ x c,X.env.cells.lookup x=some c->c≠b)/\∀ p∈X.pn++pins,p.1≠b
def Inv.qU {X:Cx}{pins:UG}{σ:St}{H H':Hp}{s:Shared}{b:Addr}(I:Inv X pins σ H s)(hb:s.heap.objs.size<=b)(hn:H' b=none):dY X pins H' b:=by
 refine ⟨hn,TF (RY I.lt hb),I.G3 hb,.inr (Rz I.sz hb),fun x c e z=>?_,fun p hp z=>?_⟩
 ·obtain ⟨v,q⟩:=I.cell x c e;exact absurd (RY q.lt (by rw [z];exact hb)) (SA _)
 ·exact absurd (RY (RL (I.pin p hp).1) (by rw [z];exact hb)) (SA _)
structure Turn (P:Program)(w:World)(K:UU)(tg:Expr)(J:It)(fp:Uh)(it:Addr)(tn:Nat->Heap->Prop):Prop where
 mem:it∈fp
 obj:∀ i h,tn i h->∀ b∈fp,∃ o,h.get? b=some o/\∀ v,o.data≠.cell v
 keep:∀ i h h',tn i h->(∀ b∈fp,∀ o,h.get? b=some o->h'.get? b=some o)->tn i h'
 item:∀ (X:Cx),X.prog=P->X.w=w->X.K=K->X.calm=true->∀ (i:Nat)(pins:UG)(s:Shared)(σ:St)(H:Hp)(E:Tn),Inv X pins σ H s->(∀ b∈fp,dY X pins H b)->tn i s.heap->J.go i H ->
  wpAny (model P w) X.A (pyNext (.ref it)) (fun r s1=>∃ u,r=some u /\
   wpAny (model P w) X.A (letOwnedTupleGo tg (.ref it) u) (fun _ s2=>∃ x H',Inv X pins σ H' s2/\RelV x u/\J.su i H x H'/\tn (i + 1) s2.heap/\∀ b∈fp,H' b=none) E s1) E s
 done:∀ (X:Cx),X.prog=P->X.w=w->X.K=K->X.calm=true->∀ (i:Nat)(pins:UG)(s:Shared)(σ:St)(H:Hp)(E:Tn),Inv X pins σ H s->(∀ b∈fp,dY X pins H b)->tn i s.heap->J.stop i H ->
  wpAny (model P w) X.A (pyNext (.ref it)) (fun r s1=>r=none/\Inv X pins σ H s1) E s
 self:∀ (A:Around) (i:Nat)(s:Shared)(Q:Tn)(E:Tn),tn i s.heap->Q (.ref it) s->wpAny (model P w) A (pyIter (.ref it)) Q E s
abbrev TI:=St->Hp->(It->Hp->Prop)->Prop
def I0 (X:Cx)(pins:UG)(σ:St)(tg:Expr)(R:It->Hp->Prop)(itv:Value)(s2:Shared):Prop :=
 ∃ (it:Addr)(fp:Uh)(tn:Nat->Heap->Prop)(J:It)(H':Hp),itv=.ref it/\Inv X pins σ H' s2/\Turn X.prog X.w X.K tg J fp it tn/\tn 0 s2.heap/\(∀ b∈fp,dY X pins H' b)/\R J H'
def PI (X:Cx)(tg iter:Expr)(wi:TI):Prop :=
 ∀ (pins:UG)(s:Shared)(σ:St)(H:Hp)(R:It->Hp->Prop),Inv X pins σ H s->wi σ H R ->
  wpAny (model X.prog X.w) X.A (eval iter X.env) (fun v s1=>wpAny (model X.prog X.w) X.A (pyIter v) (I0 X pins σ tg R) X.xe s1) X.xe s
def xD {M:Model}{A:Around}{E:Tn}{s:Shared}{tg:Expr}{it:Addr}{u:Value}{o:Obj}{n:String}{vs:Ua}{Q:Unit->Shared->Prop}(ho:s.heap.get? it=some o)(hc:o.cls=.type n)(hd:o.data=.fields vs)
  (hn:["enumerate","zip","dict_itemiterator","dict_reverseitemiterator","odict_iterator","itertools.zip_longest","itertools.pairwise"].contains n=false)(hQ:Q () s):wpAny M A (letOwnedTupleGo tg (.ref it) u) Q E s:=by
 unfold letOwnedTupleGo;cases tg <;> first
  | exact R9 hQ
  | (cases u <;> first
    | exact R9 hQ
    | (refine R8 (wpAny_load ho ?_)
       rw [hc,hd];show wpAny M A (if (["enumerate","zip","dict_itemiterator","dict_reverseitemiterator","odict_iterator","itertools.zip_longest","itertools.pairwise"].contains n && vs[0]? == some (rawInt _))=true then _ else _) Q E s
       rw [if_neg (by intro h;rw [hn,Bool.false_and] at h;cases h)]
       exact R9 hQ))
def IJ (K:UU)(a:Addr):It :=
 ⟨fun i H=>∃ xs x,bT K H a xs/\xs[i]?=some x,fun i H x H'=>H'=H/\∀ xs,bT K H a xs->xs[i]?=some x,fun i H=>∃ xs,bT K H a xs/\xs.length<=i⟩
def Ie (K:UU)(a:Addr):It :=
 ⟨fun i H=>∃ xs x,cP K H a xs/\xs[i]?=some x,fun i H x H'=>H'=H/\∀ xs,cP K H a xs->xs[i]?=some x,fun i H=>∃ xs,cP K H a xs/\xs.length<=i⟩
def DP (lo:Int) (n:Nat):It:=⟨fun i _=>i < n,fun i H x H'=>H'=H/\x=.int (lo + i),fun i _=>n<=i⟩
def Dq {P:Program}{w:World}{K:UU}{tg:Expr}(a it:Addr):Turn P w K tg (IJ K a) [it] it (fun i h=>h.IsListIter it a i) where
 mem:=by simp
 obj:=fun i h st b hb=>by
  have e:b=it:=by simpa using hb
  subst e;obtain ⟨o,e,c,d⟩:=st;exact ⟨o,e,fun v z=>by rw [d] at z;cases z⟩
 keep:=fun i h h' st k=>st.at fun o e=>k it (by simp) o e
 item:=by
  intro X hP hw hK hc i pins s σ H E I hf st hg;subst hP hw hK;obtain ⟨xs,x,hq,hx⟩:=hg;obtain ⟨its,rv,p,hz⟩:=I.list hq;obtain ⟨u,hu,ru⟩:=rv.get hx;obtain ⟨f0,f1,f2,f3,f4,f5⟩:=hf it (by simp)
  refine wpAny_pyNext_list_item st p.isList (x:=u) (by simpa using hu) fun h' st' sb=>?_
  have I1:Inv X pins σ H { s with heap:=h' }:=I.turned (t':=s.toks) (fun b o hb e=>(sb.2 b hb).trans e) f0 f1 f3 f4 f5
  obtain ⟨o,e,c,d⟩:=id st';exact ⟨u,rfl,xD (s:={ s with heap:=h' }) e c d (by decide) ⟨x,H,I1,ru,⟨rfl,fun ys hy=>by rw [I.pO hy hq];exact hx⟩,st',fun b hb=>(hf b hb).1⟩⟩
 done:=by
  intro X hP hw hK hc i pins s σ H E I hf st hg;subst hP hw hK;obtain ⟨xs,hq,hx⟩:=hg;obtain ⟨its,rv,p,hz⟩:=I.list hq;obtain ⟨f0,f1,f2,f3,f4,f5⟩:=hf it (by simp)
  have hl:=rv.length;exact wpAny_pyNext_list_end (I.ok.hd hc) st p.isList (by simp;omega) fun h' eb=>⟨rfl,I.turned (t':=s.toks) (fun b o hb e=>eb b o hb e) f0 f1 f3 f4 f5⟩
 self:=fun _ _ _ _ _ st h=>wpAny_pyIter_listiter st h
def CQ {P:Program}{w:World}{K:UU}{tg:Expr}(a it:Addr):Turn P w K tg (Ie K a) [it] it (fun i h=>h.IsTupleIter it a i) where
 mem:=by simp
 obj:=fun i h st b hb=>by
  have e:b=it:=by simpa using hb
  subst e;obtain ⟨o,e,c,d⟩:=st;exact ⟨o,e,fun v z=>by rw [d] at z;cases z⟩
 keep:=fun i h h' st k=>st.at fun o e=>k it (by simp) o e
 item:=by
  intro X hP hw hK hc i pins s σ H E I hf st hg;subst hP hw hK;obtain ⟨xs,x,hq,hx⟩:=hg;obtain ⟨its,rv,p,hz⟩:=I.tuple hq;obtain ⟨u,hu,ru⟩:=rv.get hx;obtain ⟨f0,f1,f2,f3,f4,f5⟩:=hf it (by simp)
  refine wpAny_pyNext_tuple_item st (show s.heap.IsTuple a its.toArray from p) (x:=u) (by simpa using hu) fun h' st' sb=>?_
  have I1:Inv X pins σ H { s with heap:=h' }:=I.turned (t':=s.toks) (fun b o hb e=>(sb.2 b hb).trans e) f0 f1 f3 f4 f5
  obtain ⟨o,e,c,d⟩:=id st';exact ⟨u,rfl,xD (s:={ s with heap:=h' }) e c d (by decide) ⟨x,H,I1,ru,⟨rfl,fun ys hy=>by rw [I.Ft hy hq];exact hx⟩,st',fun b hb=>(hf b hb).1⟩⟩
 done:=by
  intro X hP hw hK hc i pins s σ H E I hf st hg;subst hP hw hK;obtain ⟨xs,hq,hx⟩:=hg;obtain ⟨its,rv,p,hz⟩:=I.tuple hq;obtain ⟨f0,f1,f2,f3,f4,f5⟩:=hf it (by simp)
  have hl:=rv.length;exact wpAny_pyNext_tuple_end (I.ok.hd hc) st (show s.heap.IsTuple a its.toArray from p) (by simp;omega) fun h' eb=>⟨rfl,I.turned (t':=s.toks) (fun b o hb e=>eb b o hb e) f0 f1 f3 f4 f5⟩
 self:=fun _ _ _ _ _ st h=>wpAny_pyIter_tupleiter st h
def BV {P:Program}{w:World}{K:UU}{tg:Expr}(it:Addr) (lo:Int) (n:Nat):Turn P w K tg (DP lo n) [it] it (fun i h=>IsRangeIter h it (lo + (i:Nat) * 1) ((n:Int) - (i:Nat)) 1) where
 mem:=by simp
 obj:=fun i h st b hb=>by
  have e:b=it:=by simpa using hb
  subst e;exact ⟨_,st,fun v z=>by
   have z':Data.fields _=Data.cell v:=z;cases z'⟩
 keep:=fun i h h' st k=>k it (by simp) _ st
 item:=by
  intro X hP hw hK hc i pins s σ H E I hf st hg;subst hP hw hK;obtain ⟨f0,f1,f2,f3,f4,f5⟩:=hf it (by simp)
  have W:=Walks.range (prog:=X.prog) (w:=X.w) (I.ok.hd hc) it lo 1 n;refine W.item i s _ _ hg st fun v h' tk hv st' kk=>?_
  obtain ⟨t,rfl⟩:=hv;have I1:Inv X pins σ H { s with heap:=h',toks:=tk }:=I.turned (fun b o hb e=>kk b o (by simpa using hb) e) f0 f1 f3 f4 f5
  refine ⟨_,rfl,xD (s:={ s with heap:=h',toks:=tk }) (n:="range_iterator") st' rfl rfl (by decide) ⟨.int (lo + i),H,I1,⟨t,?_⟩,⟨rfl,rfl⟩,st',fun b hb=>(hf b hb).1⟩⟩
  rw [Int.mul_one]
 done:=by
  intro X hP hw hK hc i pins s σ H E I hf st hg;subst hP hw hK;obtain ⟨f0,f1,f2,f3,f4,f5⟩:=hf it (by simp)
  exact wpAny_pyNext_range_end (I.ok.hd hc) st (by have:n<=i:=hg;omega) fun h' eb=>⟨rfl,I.turned (t':=s.toks) (fun b o hb e=>eb b o hb e) f0 f1 f3 f4 f5⟩
 self:=fun _ _ _ _ _ st h=>wpAny_pyIter_rangeiter st h
section
variable {X:Cx}{tg:Expr}
def xR {pins:UG}{σ:St}{H:Hp}{s:Shared}{R:It->Hp->Prop}{E:Tn}{lo hi:Int}{t u v:Tok}{tk:Nat}(I:Inv X pins σ H s)(h1:-(2 ^ 62)<=lo)(h2:lo < 2 ^ 62)(h3:-(2 ^ 62)<=hi)(h4:hi < 2 ^ 62)
  (q:R (DP lo (hi - lo).toNat) H):wpAny (model X.prog X.w) X.A (pyIter (.ref s.heap.objs.size)) (I0 X pins σ tg R) E { s with heap:=s.heap.push { cls:=.type "range",data:=.fields #[.int lo t,.int hi u,.int 1 v] },toks:=tk }:=by
 refine wpAny_pyIter_range (IsRange.new ..) (small_one h1 h2 h3 h4) ?_;have I1:Inv X pins σ H { s with heap:=s.heap.push { cls:=.type "range",data:=.fields #[.int lo t,.int hi u,.int 1 v] },toks:=tk }:=I.kept fun b o e=>RO _ e
 refine ⟨(s.heap.push { cls:=.type "range",data:=.fields #[.int lo t,.int hi u,.int 1 v] }).objs.size,[(s.heap.push { cls:=.type "range",data:=.fields #[.int lo t,.int hi u,.int 1 v] }).objs.size],_,_,H,rfl,
  I1.kept (t':=tk) fun b o e=>RO _ e,BV _ lo (hi - lo).toNat,?_,fun b hb=>?_,q⟩
 ·have e1:lo + ((0:Nat):Int) * 1=lo:=by simp
  have e2:(((hi - lo).toNat:Nat):Int) - ((0:Nat):Int)=Builtin.Range.rangeSize lo hi 1:=by rw [rangeSize_one];split <;> omega
  show IsRangeIter _ _ (lo + ((0:Nat):Int) * 1) ((((hi - lo).toNat:Nat):Int) - ((0:Nat):Int)) 1;rw [e1,e2];exact Rx _ rfl
 ·have e:b=(s.heap.push { cls:=.type "range",data:=.fields #[.int lo t,.int hi u,.int 1 v] }).objs.size:=by simpa using hb
  subst e;exact I1.qU (RE _) (I1.hok.fresh (RE _))
inductive Ed (R:(It->Hp->Prop))(vs:List V)(H1:Hp):Prop
 | mk:∀ j:Int,(vs=[.int j])->(-(2 ^ 62)<=j)->(j < 2 ^ 62)->(R (DP 0 j.toNat) H1)->Ed R vs H1
def Oh (ta:TA):TI:=fun σ H R=>ta σ H fun vs H1=>Ed R vs H1
inductive Dr (R:(It->Hp->Prop))(vs:List V)(H1:Hp):Prop
 | mk:∀ i j:Int,(vs=[.int i,.int j])->((-(2 ^ 62)<=i/\i < 2 ^ 62/\-(2 ^ 62)<=j/\j < 2 ^ 62))->(R (DP i (j - i).toNat) H1)->Dr R vs H1
def O0 (ta:TA):TI:=fun σ H R=>ta σ H fun vs H1=>Dr R vs H1
def Gg {a:Expr}{ta:TA}{p pos:Pos}(hg:Gl X "range")(hm:X.mg "range"=none)(ha:PA X [a] ta)(hs:starEach [a] X.env=[(false,eval a X.env)]:=by rfl):PI X tg (.Call (.Name "range" p) [a] [] pos) (Oh ta):=by
 intro pins s σ H R I h;refine Call_ (j7 I hg hm boot_range (UR (aN (ha pos pins s σ H _ I h) fun us s1 ⟨vs,H1,I1,r1,q1⟩=>?_) hs rfl))
 obtain ⟨j,e,q1,q2,q⟩:=q1;subst e;cases r1 with
 | cons r rr =>
  cases rr;obtain ⟨t,rfl⟩:=r;exact call_range_1 (xR I1 (by omega) (by omega) q1 q2 (by simpa using q))
def Ge {a b:Expr}{ta:TA}{p pos:Pos}(hg:Gl X "range")(hm:X.mg "range"=none)(ha:PA X [a,b] ta)(hs:starEach [a,b] X.env=[(false,eval a X.env),(false,eval b X.env)]:=by rfl)(hs2:starEach [b] X.env=[(false,eval b X.env)]:=by rfl) :
  PI X tg (.Call (.Name "range" p) [a,b] [] pos) (O0 ta):=by
 intro pins s σ H R I h;refine Call_ (j7 I hg hm boot_range (UR (aN (ha pos pins s σ H _ I h) fun us s1 ⟨vs,H1,I1,r1,q1⟩=>?_) (by rw [hs,hs2]) (by rw [hs2];rfl)))
 obtain ⟨i,j,e,⟨q1,q2,q3,q4⟩,q⟩:=q1;subst e;cases r1 with
 | cons r rr =>
  cases rr with
  | cons r' rr =>
   cases rr;obtain ⟨t,rfl⟩:=r;obtain ⟨t',rfl⟩:=r';exact call_range_2 (xR I1 q1 q2 q3 q4 q)
def Qu (wi:TI)(g:TG)(tb:TS):TS:=fun D σ H=>wi σ H fun J H1=>∃ W:Nat->Nat->St->Hp->Prop,(∃ m,W 0 m σ H1)/\∀ i m σ H,W i m σ H ->
 (J.stop i H/\D.nx σ H)\/(J.go i H/\∃ N:St->Hp->Prop,(∀ σ' H',N σ' H'->∃ m',m' < m/\W (i + 1) m' σ' H')/\∀ x H',J.su i H x H'->g x σ H' fun σ2 H2=>tb { D with nx:=N,ct:=N,bk:=D.nx } σ2 H2)
def fR (fp:Uh)(h:Heap):UG:=fp.filterMap fun b=>(h.get? b).map fun o=>(b,o)
def eN {fp:Uh}{h:Heap}{b:Addr}{o:Obj}(hb:b∈fp)(e:h.get? b=some o):(b,o)∈fR fp h:=List.mem_filterMap.mpr ⟨b,hb,by rw [e];rfl⟩
def mJ {fp:Uh}{h:Heap}{p:Addr×Obj}(hp:p∈fR fp h):p.1∈fp/\h.get? p.1=some p.2:=by
 obtain ⟨b,hb,e⟩:=List.mem_filterMap.mp hp;cases q:h.get? b with
 | none=>rw [q] at e;cases e
 | some o =>
  rw [q] at e;have e':(b,o)=p:=Option.some.inj e;subst e';exact ⟨hb,q⟩
def Inv.pinned {pins:UG}{σ:St}{H:Hp}{s:Shared}{fp:Uh}(I:Inv X pins σ H s)(hf:∀ b∈fp,dY X pins H b)(ho:∀ b∈fp,∃ o,s.heap.get? b=some o/\∀ v,o.data≠.cell v):Inv X (pins++fR fp s.heap) σ H s :=
 I.jU fun p hp=>(RM.mp hp).elim (fun z=>I.pin p (Ry _ z)) fun z=>by
  obtain ⟨hb,e⟩:=mJ z;obtain ⟨f0,f1,f2,_⟩:=hf p.1 hb;obtain ⟨o,e',d⟩:=ho p.1 hb;rw [e] at e';cases e';exact ⟨e,f0,f1,f2,d⟩
def Inv.tM {pins pl:UG}{σ:St}{H:Hp}{s:Shared}(I:Inv X (pins++pl) σ H s):Inv X pins σ H s:=I.jU fun p hp=>I.pin p (Ry _ (UN _ hp))
def Lj {iter:Expr}{body:Up}{wi:TI}{g:TG}{tb:TS}{pos:Pos}(hp:PassesOwn (model X.prog X.w) X.A X.env X.xe)(hc:X.calm=true)(hi:PI X tg iter wi)(hg:PG X tg g)(hb:p9 X body tb)
  (hs:∀ x,foldedSetIterable iter X.env x=pure x:=by intro _;rfl):PS X (.For tg iter body [] pos) (Qu wi g tb):=by
 intro pins s σ H D I h;refine wpAny_For (aN (hi pins s σ H _ I h) fun v s1 h1=>aN h1 fun itv s2 h2=>?_) hs
 obtain ⟨it,fp,tn,J,H2,e,I2,T,st2,f2,W,⟨m0,w0⟩,turn⟩:=h2;subst e
 -- what stays true of the iterator's objects through the loop
 have stat:∀ {H':Hp},(∀ b∈fp,H' b=none)->∀ b∈fp,dY X pins H' b:=fun hn b hb=>⟨hn b hb,(f2 b hb).2⟩
 refine codeAny_forLoop_any (fun n s'=>∃ i σ' H',Inv X pins σ' H' s'/\tn i s'.heap/\(∀ b∈fp,H' b=none)/\W i n σ' H') ?_ m0 ⟨0,σ,H2,I2,st2,fun b hb=>(f2 b hb).1,w0⟩
 rintro n s3 ⟨i,σ3,H3,I3,st3,fr3,w3⟩;rcases turn i n σ3 H3 w3 with ⟨stop,qn⟩ | ⟨go,N,hN,step⟩
 ·refine Tf hp (aN (T.done X rfl rfl rfl hc i pins s3 σ3 H3 X.xe I3 (stat fr3) st3 stop) fun r s4 ⟨hr,I4⟩=>?_)
  subst hr;exact wpAny_execs_nil ⟨σ3,H3,I4,qn⟩
 ·refine Tf hp (aN (T.item X rfl rfl rfl hc i pins s3 σ3 H3 X.xe I3 (stat fr3) st3 go) fun r s4 ⟨u,hr,h4⟩=>?_)
  subst hr;refine Tf hp (aN h4 fun _ s5 ⟨x,H5,I5,r5,y5,st5,fr5⟩=>?_)
  have I5':=I5.pinned (stat fr5) (T.obj _ _ st5);refine Tf hp (aN (hg _ s5 σ3 H5 x u _ I5' r5 (step x H5 y5)) fun _ s6 ⟨σ6,H6,I6,q6⟩=>?_)
  refine Tf hp (aN (hb _ s6 σ6 H6 _ I6 q6) fun f s7 q7=>?_)
  have again:∀ {σ7:St}{H7:Hp},Inv X (pins++fR fp s5.heap) σ7 H7 s7->N σ7 H7->∃ m,m < n/\∃ i σ' H',Inv X pins σ' H' s7/\tn i s7.heap/\(∀ b∈fp,H' b=none)/\W i m σ' H':=fun {σ7 H7} I7 n7=>by
   obtain ⟨m',hm,w7⟩:=hN σ7 H7 n7;refine ⟨m',hm,i + 1,σ7,H7,I7.tM,T.keep _ _ _ st5 fun b hb o e=>(I7.pin (b,o) (Ry _ (Ry _ (eN hb e)))).1,fun b hb=>?_,w7⟩
   obtain ⟨o,e,d⟩:=T.obj _ _ st5 b hb;exact (I7.pin (b,o) (Ry _ (Ry _ (eN hb e)))).2.1
  cases f with
  | next=>obtain ⟨σ7,H7,I7,n7⟩:=q7;exact again I7 n7
  | cont=>obtain ⟨σ7,H7,I7,n7⟩:=q7;exact again I7 n7
  | brk=>obtain ⟨σ7,H7,I7,q7⟩:=q7;exact ⟨σ7,H7,I7.tM,q7⟩
  | ret v=>obtain ⟨x7,σ7,H7,I7,r7,q7⟩:=q7;exact ⟨x7,σ7,H7,I7.tM,r7,q7⟩
end
abbrev R2:=V->V->Hp->VK->Prop
def bX (X:Cx)(f:Value->Value->Sem Value)(r:R2):Prop :=
 ∀ (pins:UG)(s:Shared)(σ:St)(H:Hp) (x y:V)(v u:Value)(Q:VK),Inv X pins σ H s->RelV x v->RelV y u->r x y H Q ->
  wpAny (model X.prog X.w) X.A (f v u) (EP X pins σ Q) X.xe s
def IU (X:Cx)(f:Value->Sem Value)(r:V->Hp->VK->Prop):Prop :=
 ∀ (pins:UG)(s:Shared)(σ:St)(H:Hp) (x:V)(v:Value)(Q:VK),Inv X pins σ H s->RelV x v->r x H Q ->
  wpAny (model X.prog X.w) X.A (f v) (EP X pins σ Q) X.xe s
def cQ (X:Cx)(f:Value)(r:List V->Hp->VK->Prop):Prop :=
 ∀ (pins:UG)(s:Shared)(σ:St)(H:Hp)(xs:List V)(us:Ug)(Q:VK),Inv X pins σ H s->Vals xs us->r xs H Q ->
  wpAny (model X.prog X.w) X.A (call f us) (EP X pins σ Q) X.xe s
def Qq (X:Cx)(r:V->Hp->(Bool->Hp->Prop)->Prop):Prop :=
 ∀ (pins:UG)(s:Shared)(σ:St)(H:Hp) (x:V)(v:Value)(Q:Bool->Hp->Prop),Inv X pins σ H s->RelV x v->r x H Q ->
  wpAny (model X.prog X.w) X.A (truthy v) (TP X pins σ Q) X.xe s
def LD (r:R2)(ta tb:TE):TE:=fun σ H Q=>ta σ H fun x H1=>tb σ H1 fun y H2=>r x y H2 Q
def Rb (r:V->Hp->VK->Prop)(ta:TE):TE:=fun σ H Q=>ta σ H fun x H1=>r x H1 Q
inductive Pp (C:Int->Int->Prop)(g:Int->Int->V) (x:V) (y:V)(H:Hp)(Q:VK):Prop
 | mk:∀ i j,(x=.int i)->(y=.int j)->(C i j)->(Q (g i j) H)->Pp C g x y H Q
def rI (C:Int->Int->Prop)(g:Int->Int->V):R2:=fun x y H Q=>Pp C g x y H Q
inductive Lf (g:Int->Int->V) (x:V) (y:V)(H:Hp)(Q:VK):Prop
 | mk:∀ i j,(x=.int i)->(y=.int j)->(Q (g i j) H)->Lf g x y H Q
def mE (g:Int->Int->V):R2:=fun x y H Q=>Lf g x y H Q
inductive Pq (g:Int->V) (x:V)(H:Hp)(Q:VK):Prop
 | mk:∀ i,(x=.int i)->(Q (g i) H)->Pq g x H Q
def rU (g:Int->V):V->Hp->VK->Prop:=fun x H Q=>Pq g x H Q
section
variable {X:Cx}{a b c:Expr}{ta tb tc:TE}{pos:Pos}
def Gk (ha:PE X a ta)(hb:PE X b tb){pins:UG}{s:Shared}{σ:St}{H:Hp}{R:V->V->Hp->Prop}(I:Inv X pins σ H s)
  (h:ta σ H fun x H1=>tb σ H1 fun y H2=>R x y H2){Q:Tn}{f:Value->Value->Sem Value}
  (hf:∀ v u s2 x y H2,Inv X pins σ H2 s2->RelV x v->RelV y u->R x y H2->wpAny (model X.prog X.w) X.A (f v u) Q X.xe s2) :
  wpAny (model X.prog X.w) X.A (eval a X.env) (fun v s₁=>wpAny (model X.prog X.w) X.A (eval b X.env) (fun u s₂=>wpAny (model X.prog X.w) X.A (f v u) Q X.xe s₂) X.xe s₁) X.xe s:=by
 refine aN (ha pins s σ H _ I h) fun v s1 ⟨x,H1,I1,r1,q1⟩=>?_
 refine aN (hb pins s1 σ H1 _ I1 q1) fun u s2 ⟨y,H2,I2,r2,q2⟩=>?_
 exact hf v u s2 x y H2 I2 r1 r2 q2
def Od {op:Operator}{r:R2}(ho:bX X (binaryOp op) r)(ha:PE X a ta)(hb:PE X b tb):PE X (.BinOp a op b pos) (LD r ta tb):=by
 intro pins s σ H Q I h;exact wpAny_BinOp (Gk ha hb I h fun v u s2 x y H2 I2 rx ry q=>ho pins s2 σ H2 x y v u Q I2 rx ry q)
def O8 {op:UnaryOp}{r:V->Hp->VK->Prop}(ho:IU X (unaryOp op) r)(ha:PE X a ta):PE X (.UnaryOp op a pos) (Rb r ta):=by
 intro pins s σ H Q I h;exact UnaryOp_ (aN (ha pins s σ H _ I h) fun v s1 ⟨x,H1,I1,r1,q1⟩=>ho pins s1 σ H1 x v Q I1 r1 q1)
def Io {f:Value->Value->Sem Value}{C:Int->Int->Prop}{g:Int->Int->Int}
  (rule:∀ (i j:Int)(t u:Tok)(s:Shared)(Q:Tn)(E:Tn),C i j->Q (.int (g i j) s.toks) { s with toks:=s.toks + 1 }->wpAny (model X.prog X.w) X.A (f (.int i t) (.int j u)) Q E s) :
  bX X f (rI C fun i j=>.int (g i j)):=by
 intro pins s σ H x y v u Q I rx ry h;obtain ⟨i,j,rfl,rfl,hc,q⟩:=h;obtain ⟨t,rfl⟩:=rx;obtain ⟨t',rfl⟩:=ry;exact rule i j t t' s _ _ hc ⟨.int (g i j),H,I.tok _,⟨_,rfl⟩,q⟩
def LM {f:Value->Value->Sem Value}{g:Int->Int->Int}
  (rule:∀ (i j:Int)(t u:Tok)(s:Shared)(Q:Tn)(E:Tn),Q (.int (g i j) s.toks) { s with toks:=s.toks + 1 }->wpAny (model X.prog X.w) X.A (f (.int i t) (.int j u)) Q E s) :
  bX X f (mE fun i j=>.int (g i j)):=by
 intro pins s σ H x y v u Q I rx ry h;obtain ⟨i,j,rfl,rfl,q⟩:=h;obtain ⟨t,rfl⟩:=rx;obtain ⟨t',rfl⟩:=ry;exact rule i j t t' s _ _ ⟨.int (g i j),H,I.tok _,⟨_,rfl⟩,q⟩
def CH {f:Value->Value->Sem Value}{g:UM}
  (rule:∀ (i j:Int)(t u:Tok)(s:Shared)(Q:Tn)(E:Tn),Q (.bool (g i j)) s->wpAny (model X.prog X.w) X.A (f (.int i t) (.int j u)) Q E s) :
  bX X f (mE fun i j=>.bl (g i j)):=by
 intro pins s σ H x y v u Q I rx ry h;obtain ⟨i,j,rfl,rfl,q⟩:=h;obtain ⟨t,rfl⟩:=rx;obtain ⟨t',rfl⟩:=ry;exact rule i j t t' s _ _ ⟨.bl (g i j),H,I,rfl,q⟩
def Hg (i j:Int):Prop:=0<=j/\j<=1000000/\i.natAbs < 2 ^ 64
def kB (i j:Int):Prop:=(-(2 ^ 64) < i/\i < 2 ^ 64)\/(-(2 ^ 64) < j/\j < 2 ^ 64)
def kB.ok {i j:Int}(h:kB i j):IntMulOk i j:=by
 rcases h with ⟨h1,h2⟩ | ⟨h1,h2⟩
 ·exact .of_left (intBits_le_64 h1 h2)
 ·exact .of_right (intBits_le_64 h1 h2)
def Ob:bX X (binaryOp .Add) (mE fun i j=>.int (i + j)):=LM fun _ _ _ _ _ _ _ q=>add_int q
def Nr:bX X (binaryOp .Sub) (mE fun i j=>.int (i - j)):=LM fun _ _ _ _ _ _ _ q=>sub_int q
def LH:bX X (binaryOp .Mult) (rI kB fun i j=>.int (i * j)):=Io fun _ _ _ _ _ _ _ hc q=>mul_int q hc.ok
def N1:bX X (binaryOp .Mod) (rI (fun _ j=>0 < j) fun i j=>.int (i % j)):=Io fun i j _ _ _ _ _ hc q=>by
 have h1:(0:Int) < j:=hc;exact mod_int' (by omega) (by rw [Int.fmod_eq_emod_of_nonneg i (by omega)];exact q)
def MI:bX X (binaryOp .Pow) (rI Hg fun i j=>.int (i ^ j.toNat)):=Io fun _ _ _ _ _ _ _ hc q=>pow_int_small hc.1 hc.2.1 hc.2.2 q
def Rf {f:Value->Sem Value}{g:Int->Int}
  (rule:∀ (i:Int)(t:Tok)(s:Shared)(Q:Tn)(E:Tn),Q (.int (g i) s.toks) { s with toks:=s.toks + 1 }->wpAny (model X.prog X.w) X.A (f (.int i t)) Q E s) :
  IU X f (rU fun i=>.int (g i)):=by
 intro pins s σ H x v Q I rx h;obtain ⟨i,rfl,q⟩:=h;obtain ⟨t,rfl⟩:=rx;exact rule i t s _ _ ⟨.int (g i),H,I.tok _,⟨_,rfl⟩,q⟩
def Mb:IU X (unaryOp .USub) (rU fun i=>.int (-i)):=Rf fun _ _ _ _ _ q=>neg_int q
end
def HA:V->V->Bool
 | .bF,.bF=>true | .bF,.int _=>true | .int _,.bF=>true | .bF,.bl _=>true | .bl _,.bF=>true | .bF,.str _=>true | .str _,.bF=>true
 | .int _,.int _=>true | .bl _,.bl _=>true | .str _,.str _=>true | .oi _,.oi _=>true
 | .int _,.str _=>true | .str _,.int _=>true | .bl _,.str _=>true | .str _,.bl _=>true
 | _,_=>false
def Pn:R2:=fun x y H Q=>HA x y=true/\Q (.bl (decide (x=y))) H
def PR:R2:=fun x y H Q=>HA x y=true/\Q (.bl (!decide (x=y))) H
def AJ {i j:Int}:decide (V.int i=V.int j)=(i == j):=by
 rw [Su];simp
def Dg {i j:Bool}:decide (V.bl i=V.bl j)=(i == j):=by
 rw [Su];simp
def Br {i j:Str}:decide (V.str i=V.str j)=(i == j):=by
 rw [Su];simp
def A0 {i j:Array UInt8}:decide (V.oi i=V.oi j)=(i.toList == j.toList):=by
 rw [Su];cases i;cases j;simp
section
variable {X:Cx}{a b c:Expr}{ta tb tc:TE}{pos:Pos}
def bC {pins:UG}{σ:St}{H:Hp}{s:Shared}{Q:VK}{k k':Bool}(I:Inv X pins σ H s)(q:Q (.bl k) H)(e:k=k'):EP X pins σ Q (.bool k') s:=by
 subst e;exact ⟨.bl k,H,I,rfl,q⟩
def OX:bX X (compareOp .Eq) Pn:=by
 intro pins s σ H x y v u Q I rx ry h;obtain ⟨hs,q⟩:=h;cases x with
 | bF =>
  cases rx;cases y with
  | bF=>cases ry;exact PySem.EqNone.eq_none_none (bC I q (by simp))
  | bl j=>cases ry;exact PySem.EqNone.eq_none_bool (bC I q (by simp))
  | int j=>obtain ⟨t',rfl⟩:=ry;exact PySem.EqNone.eq_none_int (bC I q (by simp))
  | str j=>obtain ⟨t',rfl⟩:=ry;exact PySem.EqNone.eq_none_str (bC I q (by simp))
  | _=>exact absurd (show false=true from hs) RX
 | bl i =>
  cases rx;cases y with
  | bF=>cases ry;exact PySem.EqNone.eq_bool_none (bC I q (by simp))
  | bl j=>cases ry;exact eq_bool (bC I q Dg)
  | str j=>obtain ⟨t',rfl⟩:=ry;exact PySem.EqMixed.eq_bool_str (bC I q (by simp))
  | _=>exact absurd (show false=true from hs) RX
 | int i =>
  obtain ⟨t,rfl⟩:=rx;cases y with
  | bF=>cases ry;exact PySem.EqNone.eq_int_none (bC I q (by simp))
  | int j=>obtain ⟨t',rfl⟩:=ry;exact eq_int (bC I q AJ)
  | str j=>obtain ⟨t',rfl⟩:=ry;exact PySem.EqMixed.eq_int_str (bC I q (by simp))
  | _=>exact absurd (show false=true from hs) RX
 | str i =>
  obtain ⟨t,rfl⟩:=rx;cases y with
  | bF=>cases ry;exact PySem.EqNone.eq_str_none (bC I q (by simp))
  | bl j=>cases ry;exact PySem.EqMixed.eq_str_bool (bC I q (by simp))
  | int j=>obtain ⟨t',rfl⟩:=ry;exact PySem.EqMixed.eq_str_int (bC I q (by simp))
  | str j=>obtain ⟨t',rfl⟩:=ry;exact eq_str (bC I q Br)
  | _=>exact absurd (show false=true from hs) RX
 | oi i =>
  obtain ⟨t,rfl⟩:=rx;cases y with
  | oi j=>obtain ⟨t',rfl⟩:=ry;exact PySem.W.eq_bytes (bC I q A0)
  | _=>exact absurd (show false=true from hs) RX
 | _=>cases y <;> exact absurd (show false=true from hs) RX
def Ox:bX X (compareOp .NotEq) PR:=by
 intro pins s σ H x y v u Q I rx ry h;obtain ⟨hs,q⟩:=h;cases x with
 | bF =>
  cases rx;cases y with
  | bF=>cases ry;exact PySem.EqNone.ne_none_none (bC I q (by simp))
  | bl j=>cases ry;exact PySem.EqNone.ne_none_bool (bC I q (by simp))
  | int j=>obtain ⟨t',rfl⟩:=ry;exact PySem.EqNone.ne_none_int (bC I q (by simp))
  | str j=>obtain ⟨t',rfl⟩:=ry;exact PySem.EqNone.ne_none_str (bC I q (by simp))
  | _=>exact absurd (show false=true from hs) RX
 | bl i =>
  cases rx;cases y with
  | bF=>cases ry;exact PySem.EqNone.ne_bool_none (bC I q (by simp))
  | bl j=>cases ry;exact ne_bool (bC I q (congrArg not Dg))
  | str j=>obtain ⟨t',rfl⟩:=ry;exact PySem.EqMixed.ne_bool_str (bC I q (by simp))
  | _=>exact absurd (show false=true from hs) RX
 | int i =>
  obtain ⟨t,rfl⟩:=rx;cases y with
  | bF=>cases ry;exact PySem.EqNone.ne_int_none (bC I q (by simp))
  | int j=>obtain ⟨t',rfl⟩:=ry;exact ne_int (bC I q (congrArg not AJ))
  | str j=>obtain ⟨t',rfl⟩:=ry;exact PySem.EqMixed.ne_int_str (bC I q (by simp))
  | _=>exact absurd (show false=true from hs) RX
 | str i =>
  obtain ⟨t,rfl⟩:=rx;cases y with
  | bF=>cases ry;exact PySem.EqNone.ne_str_none (bC I q (by simp))
  | bl j=>cases ry;exact PySem.EqMixed.ne_str_bool (bC I q (by simp))
  | int j=>obtain ⟨t',rfl⟩:=ry;exact PySem.EqMixed.ne_str_int (bC I q (by simp))
  | str j=>obtain ⟨t',rfl⟩:=ry;exact ne_str (bC I q (congrArg not Br))
  | _=>exact absurd (show false=true from hs) RX
 | oi i =>
  obtain ⟨t,rfl⟩:=rx;cases y with
  | oi j=>obtain ⟨t',rfl⟩:=ry;exact PySem.W.ne_bytes (bC I q (congrArg not A0))
  | _=>exact absurd (show false=true from hs) RX
 | _=>cases y <;> exact absurd (show false=true from hs) RX
def uT:bX X (compareOp .Lt) (mE fun i j=>.bl (decide (i < j))):=CH fun _ _ _ _ _ _ _ q=>lt_int q
def xo:bX X (compareOp .LtE) (mE fun i j=>.bl (decide (i<=j))):=CH fun _ _ _ _ _ _ _ q=>le_int q
def Ir:bX X (compareOp .Gt) (mE fun i j=>.bl (decide (j < i))):=CH fun _ _ _ _ _ _ _ q=>gt_int q
def IQ:bX X (compareOp .GtE) (mE fun i j=>.bl (decide (j<=i))):=CH fun _ _ _ _ _ _ _ q=>ge_int q
def Dy:bX X (compareOp .Is) (fun x y H Q=>y=.bF/\Q (.bl (decide (x=.bF))) H):=by
 intro pins s σ H x y v u Q I rx ry h;obtain ⟨rfl,q⟩:=h;cases ry;refine is_none_gen (bC I q ?_);cases x <;> first
  | (cases rx;rfl)
  | (obtain ⟨t,rfl⟩:=rx;rfl)
def JH:bX X (compareOp .IsNot) (fun x y H Q=>y=.bF/\Q (.bl (!decide (x=.bF))) H):=by
 intro pins s σ H x y v u Q I rx ry h;obtain ⟨rfl,q⟩:=h;cases ry;refine isnot_none_gen (bC I q ?_);cases x <;> first
  | (cases rx;rfl)
  | (obtain ⟨t,rfl⟩:=rx;rfl)
def bX.or {f:Value->Value->Sem Value}{r r':R2}(h:bX X f r)(h':bX X f r'):bX X f (fun x y H Q=>r x y H Q\/r' x y H Q):=by
 intro pins s σ H x y v u Q I rx ry q;rcases q with q | q
 ·exact h pins s σ H x y v u Q I rx ry q
 ·exact h' pins s σ H x y v u Q I rx ry q
def fh (b:Expr){op:CmpOp}(h:op≠.In:=by decide)(h2:op≠.NotIn:=by decide):behindInMarks op b=false:=by
 have e1:(op == CmpOp.In)=false:=by cases op <;> first | rfl | exact absurd rfl h
 have e2:(op == CmpOp.NotIn)=false:=by cases op <;> first | rfl | exact absurd rfl h2
 cases b <;> simp [behindInMarks,e1,e2]
def Jw {op:CmpOp}{r:R2}(ho:bX X (compareOp op) r)(ha:PE X a ta)(hb:PE X b tb)(hm:behindInMarks op b=false):PE X (.Compare a [op] [b] pos) (LD r ta tb):=by
 intro pins s σ H Q I h;exact wpAny_Compare1 (Gk ha hb I h fun v u s2 x y H2 I2 rx ry q=>ho pins s2 σ H2 x y v u Q I2 rx ry q) hm
inductive Fy (Q:(Bool->Hp->Prop)) (x:V)(H':Hp):Prop
 | mk:∀ k,(x=.bl k)->(Q k H')->Fy Q x H'
def Oz (t:TE):TT:=fun σ H Q=>t σ H fun x H'=>Fy Q x H'
def Es (r r':R2)(ta tb tc:TE):TE:=fun σ H Q=>ta σ H fun x H1=>tb σ H1 fun y H2=>r x y H2 fun z H3=>∃ k,z=.bl k /\
 (if k=true then tc σ H3 fun w' H4=>r' y w' H4 Q else Q (.bl false) H3)
def Hj {op op':CmpOp}{r r':R2}(ho:bX X (compareOp op) r)(ho':bX X (compareOp op') r')(ha:PE X a ta)(hb:PE X b tb)(hc:PE X c tc)
  (hm:lastMarks [op,op'] [b,c]=false:=by with_unfolding_all rfl):PE X (.Compare a [op,op'] [b,c] pos) (Es r r' ta tb tc):=by
 intro pins s σ H Q I h;refine Compare_chain (aN (ha pins s σ H _ I h) fun v s1 ⟨x,H1,I1,r1,q1⟩=>chain_link (aN (hb pins s1 σ H1 _ I1 q1) fun u s2 ⟨y,H2,I2,r2,q2⟩ =>
  aN (ho pins s2 σ H2 x y v u _ I2 r1 r2 q2) fun d s3 ⟨z,H3,I3,r3,k,e,q3⟩=>?_)) hm
 subst e;cases r3;refine Sw ?_;cases k with
 | false=>exact ite_ff ⟨.bl false,H3,I3,rfl,q3⟩
 | true=>exact ite_tt (chain_last (aN (hc pins s3 σ H3 _ I3 q3) fun w' s4 ⟨z',H4,I4,r4,q4⟩=>ho' pins s4 σ H4 y z' u w' Q I4 r2 r4 q4))
def G5 {op op':CmpOp}{r r':R2}(ho:bX X (compareOp op) r)(ho':bX X (compareOp op') r')(ha:PE X a ta)(hb:PE X b tb)(hc:PE X c tc)
  (hm:lastMarks [op,op'] [b,c]=false:=by with_unfolding_all rfl):PT X (.Compare a [op,op'] [b,c] pos) (Oz (Es r r' ta tb tc)):=by
 intro pins s σ H Q I h;refine isTrue_chain (aN (ha pins s σ H _ I h) fun v s1 ⟨x,H1,I1,r1,q1⟩=>test_link (aN (hb pins s1 σ H1 _ I1 q1) fun u s2 ⟨y,H2,I2,r2,q2⟩ =>
  aN (ho pins s2 σ H2 x y v u _ I2 r1 r2 q2) fun d s3 ⟨z,H3,I3,r3,k,e,q3⟩=>?_)) hm
 subst e;cases r3;refine Sw ?_;cases k with
 | false =>
  obtain ⟨k',e',q'⟩:=q3;cases e';exact ite_ff ⟨H3,I3,q'⟩
 | true =>
  refine ite_tt (test_last (aN (hc pins s3 σ H3 _ I3 q3) fun w' s4 ⟨z',H4,I4,r4,q4⟩=>aN (ho' pins s4 σ H4 y z' u w' _ I4 r2 r4 q4) fun d' s5 ⟨z2,H5,I5,r5,k2,e2,q5⟩=>?_))
  subst e2;cases r5;exact Sw ⟨H5,I5,q5⟩
def sG (K:UU) (x:V)(H:Hp)(k:Bool):Prop :=
 match x with
 | .bF=>k=false
 | .bl b=>k=b
 | .int i=>k=(i != 0)
 | .str y=>y.length<=sizeLine/\k=((y.length:Int) != 0)
 | .oi y=>y.size<=sizeLine/\k=((y.size:Int) != 0)
 | .ref p=>(∃ xs,bT K H p xs/\k=!xs.isEmpty)\/(∃ xs,cP K H p xs/\k=!xs.isEmpty)\/∃ kvs,H p=some (.dK kvs)/\k=!kvs.isEmpty
 | _=>False
def BW {κ:Type}{kvs:List (κ×V)}{vs:List (κ×Value)}(r:KV kvs vs):(!vs.isEmpty)=!kvs.isEmpty:=by
 cases r <;> rfl
def uy {xs:List V}{its:Ug}(r:Vals xs its):(!its.toArray.isEmpty)=!xs.isEmpty:=by
 cases r <;> simp
def nU:(sizeLine:Nat) < 2 ^ 63:=by rw [sizeLine_eq];decide
def xP:Qq X (fun x H Q=>∃ k,sG X.K x H k/\Q k H):=by
 intro pins s σ H x v Q I rx h;obtain ⟨k,e,q⟩:=h;have hl:=nU;have hs:sizeLine=16777216:=sizeLine_eq;cases x with
 | bF =>
  cases rx;have e':k=false:=e;subst e';exact truthy_none ⟨H,I,q⟩
 | bl b =>
  cases rx;have e':k=b:=e;subst e';exact Sw ⟨H,I,q⟩
 | int i =>
  obtain ⟨t,rfl⟩:=rx;have e':k=(i != 0):=e;subst e';exact PySem.P.truthy_int ⟨H,I,q⟩
 | str y =>
  obtain ⟨t,rfl⟩:=rx;obtain ⟨hy,e'⟩:y.length<=sizeLine/\k=((y.length:Int) != 0):=e;subst e';exact PySem.P.truthy_str (by omega) ⟨H,I.tok _,q⟩
 | oi y =>
  obtain ⟨t,rfl⟩:=rx;obtain ⟨hy,e'⟩:y.size<=sizeLine/\k=((y.size:Int) != 0):=e;subst e';exact PySem.W.truthy_bytes (by omega) ⟨H,I.tok _,q⟩
 | ref p =>
  cases rx;have e':(∃ xs,bT X.K H p xs/\k=!xs.isEmpty)\/(∃ xs,cP X.K H p xs/\k=!xs.isEmpty)\/∃ kvs,H p=some (.dK kvs)/\k=!kvs.isEmpty:=e;rcases e' with ⟨xs,hx,e'⟩ | ⟨xs,hx,e'⟩ | ⟨kvs,hx,e'⟩
  ·subst e';obtain ⟨its,r,pl,hz⟩:=I.list hx;have hlen:=r.length;exact wpAny_truthy_list pl.isList (by simp only [RV];omega) ⟨H,I.tok _,by rw [uy r];exact q⟩
  ·subst e';obtain ⟨its,r,pl,hz⟩:=I.tuple hx;have hlen:=r.length;exact truthy_tuple pl (by simp only [RV];omega) ⟨H,I.tok _,by rw [uy r];exact q⟩
  ·subst e';obtain ⟨hz,hS,vs,r,m⟩:kvs.length<=sizeLine/\(p == sysModules)=false/\∃ vs,KV kvs vs/\s.heap.DictOf (c8 X.prog X.w) p vs:=I.hok p _ hx;have hlen:kvs.length=vs.length:=Paired.length r;exact wpAny_truthy_dict hS m (by omega) ⟨H,I.tok _,by rw [BW r];exact q⟩
 | _=>exact (show False from e).elim
def zS (ha:PE X a ta)(he:∀ whole,isTrue a X.env whole=(do let v <- whole;standAt a.pos;holding [v] (truthy v))) :
  PT X a (fun σ H Q=>ta σ H fun x H'=>∃ k,sG X.K x H' k/\Q k H'):=by
 intro pins s σ H Q I h;exact isTrue_plain (aN (ha pins s σ H _ I h) fun v s1 ⟨x,H1,I1,r1,q1⟩=>xP pins s1 σ H1 x v Q I1 r1 q1) (he _)
def BR:bX X (binaryOp .Add) (fun x y H Q=>∃ i j,x=.str i/\y=.str j/\i.length + j.length<=sizeLine/\Q (.str (i++j)) H):=by
 intro pins s σ H x y v u Q I rx ry h;obtain ⟨i,j,rfl,rfl,hz,q⟩:=h;obtain ⟨t,rfl⟩:=rx;obtain ⟨t',rfl⟩:=ry;exact add_str (fun t' tk=>⟨.str (i++j),H,I.tok _,⟨_,rfl⟩,q⟩) hz
def vals1 {x:V}{us:Ug}(r:Vals [x] us):∃ u,us=[u]/\RelV x u:=by
 cases r with
 | cons r1 r2=>cases r2;exact ⟨_,rfl,r1⟩
def vals2 {x y:V}{us:Ug}(r:Vals [x,y] us):∃ u w',us=[u,w']/\RelV x u/\RelV y w':=by
 cases r with
 | cons r1 r2 =>
  cases r2 with
  | cons r3 r4=>cases r4;exact ⟨_,_,rfl,r1,r3⟩
def GH:cQ X (.builtin "abs") (fun xs H Q=>∃ i,xs=[.int i]/\Q (.int (if i < 0 then -i else i)) H):=by
 intro pins s σ H xs us Q I r h;obtain ⟨i,rfl,q⟩:=h;obtain ⟨u,rfl,t,rfl⟩:=vals1 r;exact call_abs_int fun u tk=>⟨.int (if i < 0 then -i else i),H,I.tok _,⟨_,rfl⟩,q⟩
def El (hc:X.calm=true):cQ X (.builtin "max") (fun xs H Q=>∃ i j,xs=[.int i,.int j]/\Q (.int (if j > i then j else i)) H):=by
 intro pins s σ H xs us Q I r h;obtain ⟨i,j,rfl,q⟩:=h;obtain ⟨u,w',rfl,⟨t,rfl⟩,⟨t',rfl⟩⟩:=vals2 r;refine max_two_ints (I.ok.hd hc) fun h' tk k=>⟨_,H,I.kept k,?_,q⟩
 by_cases hj:j > i
 ·rw [if_pos hj,if_pos hj];exact ⟨_,rfl⟩
 ·rw [if_neg hj,if_neg hj];exact ⟨_,rfl⟩
def Fv (hc:X.calm=true):cQ X (.builtin "min") (fun xs H Q=>∃ i j,xs=[.int i,.int j]/\Q (.int (if j < i then j else i)) H):=by
 intro pins s σ H xs us Q I r h;obtain ⟨i,j,rfl,q⟩:=h;obtain ⟨u,w',rfl,⟨t,rfl⟩,⟨t',rfl⟩⟩:=vals2 r;refine min_two_ints (I.ok.hd hc) fun h' tk k=>⟨_,H,I.kept k,?_,q⟩
 by_cases hj:j < i
 ·rw [if_pos hj,if_pos hj];exact ⟨_,rfl⟩
 ·rw [if_neg hj,if_neg hj];exact ⟨_,rfl⟩
def Et:cQ X (.type "int") (fun xs H Q=>(∃ i,xs=[.int i]/\Q (.int i) H)\/∃ k,xs=[.bl k]/\Q (.int (if k then 1 else 0)) H):=by
 intro pins s σ H xs us Q I r h;rcases h with ⟨i,rfl,q⟩ | ⟨k,rfl,q⟩
 ·obtain ⟨u,rfl,t,rfl⟩:=vals1 r;exact call_int_int ⟨.int i,H,I,⟨_,rfl⟩,q⟩
 ·obtain ⟨u,rfl,r1⟩:=vals1 r;cases r1;exact call_int_bool ⟨.int (if k then 1 else 0),H,I.tok _,⟨_,rfl⟩,q⟩
end
structure Gq (h:Heap)(x dx C:Addr)(mA:UE):Prop where
 obj:h.get? x=some (PySem.W.instObj C dx)
 ns:h.Ns1 dx mA
 ne:dx≠x
def EY {h:Heap}{dx:Addr}{mA:UE}(n:h.Ns1 dx mA):∃ od,h.get? dx=some od/\∀ name,PySem.W.lookIn name od=some (mA name):=by
 obtain ⟨o,es,ep,ho,hd,hk,_,hm⟩:=n;refine ⟨o,ho,fun name=>?_⟩
 have e:=hm name;unfold nsFind findBy at e;rw [<- Array.find?_toList] at e;unfold PySem.W.lookIn;rw [hd];dsimp only;split
 ·rename_i y q;rw [q] at e;exact congrArg some e
 ·rename_i q;rw [q] at e;have a:es.toList.any (·.refKey)=false:=by
   rw [List.any_eq_false];intro y hy;obtain ⟨z,t,hkey⟩:=hk y (Array.mem_toList_iff.mp hy);simp [DictEntry.refKey,hkey]
  have a':¬ es.toList.any (·.refKey)=true:=by rw [a];exact RX
  rw [if_neg a'];exact congrArg some e
def Gq.look {h:Heap}{x dx C:Addr}{mA:UE}(I:Gq h x dx C mA):∃ od,PySem.W.InstAt h x (PySem.W.instObj C dx) C (some od)/\∀ name,PySem.W.lookIn name od=some (mA name) :=
 let ⟨od,ho,hl⟩:=EY I.ns
 ⟨od,⟨I.obj,rfl,rfl,ho⟩,hl⟩
section
variable {prog:Program}{w:World}{A:Around}{E:Tn}{s:Shared}{K:UU}{x dx C f:Addr}{mA:UE}{name:Str}{v:Value}
end
def kH.some_of {v:V}{o:UZ}(r:kH (some v) o):∃ u,o=some u/\RelV v u:=by
 cases o with
 | none=>exact (show False from r).elim
 | some u=>exact ⟨u,rfl,r⟩
section
variable {P:Program}{w:World}{H H':Hp}{h h':Heap}{a C dx:Addr}{fs fs':List (Str×V)}
def JD (hok:dQ P w H h)(e:H a=some (.ins C dx fs)):∃ mA,Gq h a dx C mA/\(∀ f,kH (fs.lookup f) (mA f))/\PySem.Within mA (fs.map (·.1))/\fs.length<=1000/\H dx=some (.own a):=by
 obtain ⟨d,z,ne,ob,mA,n,r,q⟩:=(show bO P w H h a (.ins C dx fs) from hok a _ e)
 exact ⟨mA,⟨ob,n,ne⟩,r,q,z,d⟩
end
structure MW (K:UU)(C:Addr):Prop where
 pg:PySem.W.plainGet K C Str.empty=true
 hd:PySem.W.hasDictIn K C=true
 po:PySem.W.plainOver K C=true
 sa:PySem.W.findIn K (.ref C) "__setattr__"=some (some (.builtin "object.__setattr__"))
def MW.get {K:UU}{C:Addr}(c:MW K C) (f:Str):PySem.W.plainGet K C f=true:=c.pg
section
variable {X:Cx}{pins:UG}{σ:St}{H:Hp}{s:Shared}{a C dx:Addr}{fs:List (Str×V)}{f:Str}{v:V}{A:Around}{E:Tn}
end
section
variable {X:Cx}{o e value:Expr}{f:Str}{pos pos' tpos:Pos}{ta tv:TE}
end
section
variable {X:Cx}{pins:UG}{σ:St}{H:Hp}{s:Shared}{A:Around}{E:Tn}{Q:Tn}{c:Value}{b:Bool}
inductive gU (K:UU)(H:Hp):V->Value->Prop where
 | bF:gU K H .bF (.type "NoneType")
 | bl (x:Bool):gU K H (.bl x) (.type "bool")
 | int (i:Int):gU K H (.int i) (.type "int")
 | str (x:Str):gU K H (.str x) (.type "str")
 | AV (x:UInt64):gU K H (.AV x) (.type "float")
 | lst {a:Addr}{xs:List V}(e:H a=some (.lst xs)):gU K H (.ref a) (.type "list")
 | cJ {a:Addr}{o:Obj}{xs:List V}(e:H a=some (.cJ o (.lst xs))):gU K H (.ref a) (.type "list")
 | kl {a:Addr}{its:Ua}{n:Nat}(e:K.lookup a=some { cls:=.type "list",data:=.seq its n }):gU K H (.ref a) (.type "list")
 | tup {a:Addr}{xs:List V}(e:H a=some (.tup xs)):gU K H (.ref a) (.type "tuple")
 | dK {a:Addr}{kvs:List (Key×V)}(e:H a=some (.dK kvs)):gU K H (.ref a) (.type "dict")
 | dT {a:Addr}{kvs:List (List Key×V)}(e:H a=some (.dT kvs)):gU K H (.ref a) (.type "dict")
 | ins {a C dx:Addr}{fs:List (Str×V)}(e:H a=some (.ins C dx fs))(cl:MW K C)(ha:PySem.W.findIn K (.ref C) "__class__"=some (some (.builtin "object.__class__")))
   (hn:PySem.W.specialIn K (.builtin "object.__class__") "__get__"=some (some (.builtin "getset_descriptor.__get__")))(htk:PySem.W.takesIn K (.builtin "object.__class__")=some true)
   (hm:PySem.W.mroIn K C (.type "object")=some true):gU K H (.ref a) (.ref C)
def FN {x:V}{u t:Value}(I:Inv X pins σ H s)(rx:RelV x u)(ty:gU X.K H x t)(e:PySem.W.kitOne X.K t c=some b)(h:∀ tk,Q (.bool b) { s with toks:=tk }) :
  wpAny (model X.prog X.w) A (call (.builtin "isinstance") [u,c]) Q E s:=by
 cases ty with
 | bF=>cases (show u=Value.none from rx);exact Sf PySem.W.kitx_none I.iU Sn e (fun z=>nomatch z) h
 | bl y=>cases (show u=Value.bool y from rx);exact Sf PySem.W.kitx_bool I.iU Sn e (fun z=>nomatch z) h
 | int i=>obtain ⟨t,q⟩:=(show ∃ t,u=Value.int i t from rx);cases q;exact Sf PySem.W.kitx_int I.iU Sn e (fun z=>nomatch z) h
 | str y=>obtain ⟨t,q⟩:=(show ∃ t,u=Value.str y t from rx);cases q;exact Sf PySem.W.kitx_str I.iU Sn e (fun z=>nomatch z) h
 | AV y=>obtain ⟨t,q⟩:=(show ∃ t,u=Value.float y t from rx);cases q;exact Sf PySem.W.kitx_float I.iU Sn e (fun z=>nomatch z) h
 | @lst a xs ea =>
  cases (show u=Value.ref a from rx)
  obtain ⟨_,_,n,_,h1⟩:=(show bO X.prog X.w H s.heap a (.lst xs) from I.hok a _ ea)
  exact Sf PySem.W.kitx_list I.iU ⟨_,h1,rfl⟩ e (fun z=>nomatch z) h
 | @cJ a ob xs ea =>
  cases (show u=Value.ref a from rx)
  obtain ⟨_,_,_,n,_,h1⟩:=(show bO X.prog X.w H s.heap a (.cJ ob (.lst xs)) from I.hok a _ ea)
  exact Sf PySem.W.kitx_list I.iU ⟨_,h1,rfl⟩ e (fun z=>nomatch z) h
 | @kl a its n ea =>
  cases (show u=Value.ref a from rx)
  exact Sf PySem.W.kitx_list I.iU ⟨_,I.iU a _ ea,rfl⟩ e (fun z=>nomatch z) h
 | @tup a xs ea =>
  cases (show u=Value.ref a from rx)
  obtain ⟨_,_,_,p⟩:=(show bO X.prog X.w H s.heap a (.tup xs) from I.hok a _ ea)
  obtain ⟨o,h1,h2,_⟩:=p;exact Sf PySem.W.kitx_tuple I.iU ⟨o,h1,h2⟩ e (fun z=>nomatch z) h
 | @dK a kvs ea =>
  cases (show u=Value.ref a from rx)
  obtain ⟨_,_,vs,_,p⟩:=(show bO X.prog X.w H s.heap a (.dK kvs) from I.hok a _ ea)
  obtain ⟨o,es,ep,h1,h2,_⟩:=p;exact Sf PySem.W.kitx_dict I.iU ⟨o,h1,h2.1⟩ e (fun z=>nomatch z) h
 | @dT a kvs ea =>
  cases (show u=Value.ref a from rx)
  obtain ⟨_,_,xs,_,o,es,ep,h1,h2,_⟩:=(show bO X.prog X.w H s.heap a (.dT kvs) from I.hok a _ ea)
  exact Sf PySem.W.kitx_dict I.iU ⟨o,h1,h2.1⟩ e (fun z=>nomatch z) h
 | @ins a C dx fs ea cl ha hn htk hm =>
  cases (show u=Value.ref a from rx)
  obtain ⟨mA,O,_⟩:=JD I.hok ea;obtain ⟨od,J,_⟩:=O.look;exact Sf (PySem.W.kitx_own (cl.get _) cl.hd ha hn htk hm) I.iU J e (fun z=>nomatch z) h
end
structure eT (k:Nat)(A:Around):Prop where
 hd:A.handled=none
 dp:A.depth + 3 * k + 5 < recursionLimit
 un:A.units + 16 * k + 200 < cLine
def eT.mono {j k:Nat}{A:Around}(r:eT k A)(h:j<=k):eT j A:=⟨r.hd,by have:=r.dp;omega,by have:=r.un;omega⟩
theorem eT.deeper {k:Nat}{A:Around}(r:eT (k + 1) A)(env:Env):eT k (A.deeper env) :=
 ⟨r.hd,by have:=r.dp;show A.depth + 1 + 3 * k + 5 < _;omega,by have:=r.un;show A.units + 3 + 16 * k + 200 < _;omega⟩
theorem eT.depth {k:Nat}{A:Around}(r:eT k A):A.depth < recursionLimit:=by have:=r.dp;omega
theorem eT.units {k:Nat}{A:Around}(r:eT k A):A.units + 64 < cLine:=by have:=r.un;omega
def uX:TA:=fun _ H Q=>Q [] H
def rB (ta:TE)(tr:TA):TA:=fun σ H Q=>ta σ H fun x H1=>tr σ H1 fun xs H2=>Q (x::xs) H2
section
variable {X:Cx}{e:Expr}{es:Ul}{te:TE}{t:TA}{pos:Pos}
def iZ:PA X [] uX:=fun _ _ _ _ H Q I h=>Calls.spliced_nil ⟨[],H,I,.nil,h⟩
def fS (ha:PE X e te)(hr:PA X es t)(hs:starEach (e::es) X.env=(false,eval e X.env)::starEach es X.env:=by rfl):PA X (e::es) (rB te t):=by
 intro pos pins s σ H Q I h;rw [hs];show wpAny _ _ (spliced ((false,eval e X.env)::backTo pos (starEach es X.env))) _ _ s;refine Calls.spliced_cons (aN (ha pins s σ H _ I h) fun u s1 ⟨x,H1,I1,r1,q1⟩=>?_)
 exact aN (hr pos pins s1 σ H1 _ I1 q1) fun us s2 ⟨xs,H2,I2,r2,q2⟩=>⟨x::xs,H2,I2,.cons r1 r2,q2⟩
def Qj (t:TA):TE:=fun σ H Q=>t σ H fun xs H1=>xs.length<=sizeLine/\∀ p,H1 p=none->Q (.ref p) (upd H1 p (.tup xs))
def PZ (t:TA):TE:=fun σ H Q=>t σ H fun xs H1=>xs.length<=sizeLine/\∀ p,H1 p=none->Q (.ref p) (upd H1 p (.lst xs))
def Nl {x1}(h:PA X es t):PE X (.Tuple es x1 pos) (Qj t):=by
 intro pins s σ H Q I hq;refine wpAny_Tuple_spliced (aN (h pos pins s σ H _ I hq) fun us s1 ⟨xs,H1,I1,r,z,q⟩=>⟨by rw [<- r.length];exact z,?_⟩)
 have hf:H1 s1.heap.objs.size=none:=I1.hok.fresh (RE _);refine ⟨.ref s1.heap.objs.size,upd H1 s1.heap.objs.size (.tup xs),I1.laid (t':=s1.toks) (fun b u e=>RO _ e) (RE _) ?_,rfl,q _ hf⟩
 exact ⟨z,us,r,⟨_,Rx _ rfl,rfl,_,rfl⟩⟩
def FU (h:PA X es t):PE X (.List es pos) (PZ t):=by
 intro pins s σ H Q I hq;refine wpAny_List_spliced (aN (h pos pins s σ H _ I hq) fun us s1 ⟨xs,H1,I1,r,z,q⟩=>⟨by rw [<- r.length];exact z,?_⟩)
 have hf:H1 s1.heap.objs.size=none:=I1.hok.fresh (RE _);refine ⟨.ref s1.heap.objs.size,upd H1 s1.heap.objs.size (.lst xs),I1.laid (t':=s1.toks) (fun b u e=>RO _ e) (RE _) ?_,rfl,q _ hf⟩
 exact ⟨z,us,0,r,Rx _ rfl⟩
end
abbrev Sp:=List V->Hp->VK->XK->Prop
abbrev mU:=List Env->Hp->Shared->XK->Value->Shared->Prop
structure Cw (P:Program)(w:World)(K:UU)(mg:UE)(base:Heap)(A:Around)(outer:List Env)(s:Shared)(H:Hp):Prop where
 frames:A.frames=some outer
 mod:Mod K mg base
 bs:∀ b o,base.get? b=some o->s.heap.get? b=some o/\H b=none
 wu:base.objs.size<=s.heap.objs.size
 lZ:s.heap.FunFrames base outer
 Au:∀ b∈frs outer,H b=none
 hok:dQ P w H s.heap
 bare:AllBare s.gens
def CE (outer:List Env)(P:Program)(w:World)(H:Hp)(s:Shared)(Q:VK)(u:Value)(s':Shared):Prop :=
 ∃ v H',s'.os=s.os/\AllBare s'.gens/\Un (frs outer) [] H H' s.heap s'.heap/\dQ P w H' s'.heap/\RelV v u/\Q v H'
def CR (CX:mU)(outer:List Env)(P:Program)(w:World)(H:Hp)(s:Shared)(Q:VK)(E:XK)(r:Result)(s':Shared):Prop :=
 match r with
 | .ok (.ret u)=>CE outer P w H s Q u s'
 | .ok _=>False
 | .error e=>CX outer H s E e s'
structure gO (P:Program)(w:World)(K:UU)(mg:UE)(base:Heap)(CX:mU) (k:Nat)(f:Addr)(fd:FuncData)(ps:Us)(sp:Sp):Prop where
 len:∀ vs H Q E,sp vs H Q E->vs.length=ps.length
 run:∀ (A:Around)(outer:List Env)(s:Shared)(H:Hp)(args:Args)(us:Ug)(vs:List V)(Q:VK)(E:XK),eT k A->Cw P w K mg base A outer s H->BindsTo s fd args (ps.zip us)->Vals vs us->sp vs H Q E ->
  codeAny (model P w) A (.call (.ref f) args) (CR CX outer P w H s Q E) s
def gO.imp {P:Program}{w:World}{K:UU}{mg:UE}{base:Heap}{CX:mU}{k:Nat}{f:Addr}{fd:FuncData}{ps:Us}{sp sp':Sp}(F:gO P w K mg base CX k f fd ps sp)
  (h:∀ vs H Q E,sp' vs H Q E->sp vs H Q E):gO P w K mg base CX k f fd ps sp' :=
 ⟨fun vs H Q E q=>F.len vs H Q E (h _ _ _ _ q),fun A outer s H args us vs Q E hr he hb hv hs=>F.run A outer s H args us vs Q E hr he hb hv (h _ _ _ _ hs)⟩
section
variable {X:Cx}{pins:UG}{σ:St}{H:Hp}{s s':Shared}
def Inv.QG (I:Inv X pins σ H s):Cw X.prog X.w X.K X.mg X.base X.A X.stack s H :=
 ⟨I.ok.frames,I.ok.mod,I.bs,Rz I.ok.wu I.sz,I.stack,I.rD,I.hok,I.bare⟩
def Inv.after {Q:VK}{u:Value}(I:Inv X pins σ H s)(h:CE X.stack X.prog X.w H s Q u s'):EP X pins σ Q u s':=by
 obtain ⟨v,H',os,bare,un,hok,r,q⟩:=h;obtain ⟨hh,g,d,t,os'⟩:=s';obtain rfl:os'=s.os:=os;exact ⟨v,H',I.call (h':=hh) (g':=g) (d':=d) (t':=t) (ch:=[]) un hok bare (fun b z=>absurd z (by simp)),r,q⟩
end
def OH (sp:Sp)(dvs:List V)(E:XK)(t:TA):TE:=fun σ H Q=>t σ H fun vs H1=>sp (vs++dvs) H1 Q E
def Binds (K:UU)(fd:FuncData)(ps:Us)(ds:Ug):Prop :=
 ∀ (s:Shared)(us:Ug),K.In s.heap->(us++ds).length=ps.length->BindsTo s fd ⟨us,[]⟩ (ps.zip (us++ds))
def Binds.all {K:UU}{fd:FuncData}{ps:Us}(h:∀ us:Ug,us.length=ps.length->bindArgs fd ⟨us,[]⟩=pure (ps.zip us)):Binds K fd ps []:=fun s us _ hl=>by
 rw [SN] at hl ⊢;exact .of_eq (h us hl)
def Passes (CX:mU)(X:Cx)(E:XK):Prop:=∀ (pins:UG)(σ:St)(H:Hp)(s:Shared)(e:Value)(s':Shared),Inv X pins σ H s->CX X.stack H s E e s'->X.xe e s'
section
variable {X:Cx}{CX:mU}{k:Nat}{f C:Addr}{fd:FuncData}{ps:Us}{sp:Sp}{dvs:List V}{ds:Ug}{E:XK}{x m:Str}{p pos apos:Pos}{e o:Expr}{es:Ul}{ta:TE}{t:TA}
def MV {pins:UG}{σ:St}{H:Hp}{s:Shared}{Q:VK}{us:Ug}{vs:List V}(F:gO X.prog X.w X.K X.mg X.base CX k f fd ps sp)(hr:eT k X.A)(hb:Binds X.K fd ps ds)(hd:Vals dvs ds)(hx:Passes CX X E)
  (I:Inv X pins σ H s)(r:Vals vs us)(h:sp (vs++dvs) H Q E):wpAny (model X.prog X.w) X.A (call (.ref f) us) (EP X pins σ Q) X.xe s:=by
 have r2:Vals (vs++dvs) (us++ds):=r.append hd;have hl:(us++ds).length=ps.length:=by rw [<- r2.length];exact F.len _ _ _ _ h
 refine wpAny_call (codeAny_mono (F.run X.A X.stack s H ⟨us,[]⟩ (us++ds) (vs++dvs) Q E hr I.QG (hb s us I.iU hl) r2 h) fun r s' hq=>?_)
 cases r with
 | error e=>exact hx pins σ H s e s' I hq
 | ok fl =>
  cases fl with
  | ret u=>exact I.after hq
  | next=>exact False.elim hq
  | brk=>exact False.elim hq
  | cont=>exact False.elim hq
def Ke (F:gO X.prog X.w X.K X.mg X.base CX k f fd ps sp)(hr:eT k X.A)(hg:Gl X x)(hm:X.mg x=some (.ref f))(hk:PySem.W.keepIn X.K (.ref f)=true)(hb:Binds X.K fd ps ds)(hd:Vals dvs ds)(hx:Passes CX X E)
  (ha:PA X (e::es) t)(hdb:(x == ("__debug__":Str))=false:=by decide)(he:starEach (e::es) X.env=(false,eval e X.env)::starEach es X.env:=by rfl)(hpl:(backTo pos (starEach es X.env)).any (·.1)=false:=by rfl) :
  PE X (.Call (.Name x p) (e::es) [] pos) (OH sp dvs E t):=by
 intro pins s σ H Q I h;refine wpAny_Call_Name_kw (AQ I hg hm ?_ hdb);refine PySem.W.callWith_K (h₀:=X.base) I.ok.mod.Ik hk (aN (ha pos pins s σ H _ I h) fun us s1 ⟨vs,H1,I1,r,q⟩=>⟨I1.iU,?_⟩) he hpl
 exact MV F hr hb hd hx I1 r q
end
def PK (X:Cx)(kws:List Keyword)(t:TA):Prop :=
 ∀ (pos:Pos)(pins:UG)(s:Shared)(σ:St)(H:Hp)(Q:List V->Hp->Prop),Inv X pins σ H s->t σ H Q->wpAny (model X.prog X.w) X.A (evalAll ((backToKw pos (keywordEach kws X.env)).map (·.2))) (AP X pins σ Q) X.xe s
section
variable {X:Cx}{CX:mU}{k:Nat}{f C:Addr}{fd:FuncData}{ps ks:Us}{sp:Sp}{E:XK}{x m:Str}{p pos apos kpos:Pos}{e o:Expr}{es:Ul}{kws:List Keyword}{te ta:TE}{t tk:TA}{nm:Option Str}
def MB:PK X [] uX:=fun _ _ _ _ H Q I h=>wpAny_evalAll_nil ⟨[],H,I,.nil,h⟩
def KP (ha:PE X e te)(hr:PK X kws t):PK X (⟨nm,e,kpos⟩:: kws) (rB te t):=by
 intro pos pins s σ H Q I h;show wpAny _ _ (evalAll ((do let v <- eval e X.env;standAt pos;pure v)::(backToKw pos (keywordEach kws X.env)).map (·.2))) _ _ s
 refine wpAny_evalAll_cons (R8 (aN (ha pins s σ H _ I h) fun u s1 ⟨x,H1,I1,r1,q1⟩=>R8 (T9 (R9 ?_))))
 exact aN (hr pos pins s1 σ H1 _ I1 q1) fun us s2 ⟨xs,H2,I2,r2,q2⟩=>⟨x::xs,H2,I2,.cons r1 r2,q2⟩
variable {g:Ug->Ug->Ug}{gV:List V->List V->List V}
end
structure aH (N P:Us)(sc:Scope):Prop where
 kind:sc.kind=.function
 co:sc.isCoroutine=false
 gen:sc.isGenerator=false
 nd:N.Nodup
 pre:N.take P.length=P
 par:∀ x∈P,sc.names.lookup x=some .local\/sc.names.lookup x=some .cell
 zu:∀ y∈sc.names,y.2≠.free
theorem wO {kindOf:Str->Option NameKind}{x:Str}:∀ {binds:List (Str×Value)}{m:UE},(∀ v,(x,v)∉binds)->bindL kindOf binds m x=m x
 | [],_,_=>rfl
 | (n,v)::r,m,h=>by
  unfold bindL;rw [wO fun w hw=>h w (RG _ hw)]
  split
  ·have:x≠n:=by rintro rfl;exact h v RA
   simp [this]
  ·rfl
theorem wm {kindOf:Str->Option NameKind}{x:Str}:∀ {binds:List (Str×Value)}{m:UE},(∀ v,(x,v)∉binds)->bindC kindOf binds m x=m x
 | [],_,_=>rfl
 | (n,v)::r,m,h=>by
  unfold bindC;rw [wm fun w hw=>h w (RG _ hw)]
  split
  ·rfl
  ·have:x≠n:=by rintro rfl;exact h v RA
   simp [this]
theorem wj {kindOf:Str->Option NameKind}{x:Str}{v:Value}:∀ {P:Us}{vs:Ug}{i:Nat}{m:UE},P.Nodup->P[i]?=some x->vs[i]?=some v->kindOf x=some .local ->
  bindL kindOf (P.zip vs) m x=some v
 | [],_,_,_,_,h,_,_=>by simp at h
 | _::_,[],_,_,_,_,h,_=>by simp at h
 | p::P,w::vs,0,m,nd,h1,h2,hk=>by
  simp at h1 h2;subst h1;subst h2;show bindL kindOf ((p,w)::P.zip vs) m p=_;unfold bindL;rw [wO fun v hv=>(S7.mp nd).1 (List.of_mem_zip hv).1,if_pos hk]
  simp
 | p::P,w::vs,i + 1,m,nd,h1,h2,hk=>by
  show bindL kindOf ((p,w)::P.zip vs) m x=_;unfold bindL;exact wj (i:=i) (S7.mp nd).2 (by simpa using h1) (by simpa using h2) hk
theorem wR {kindOf:Str->Option NameKind}{x:Str}{v:Value}:∀ {P:Us}{vs:Ug}{i:Nat}{m:UE},P.Nodup->P[i]?=some x->vs[i]?=some v->kindOf x≠some .local ->
  bindC kindOf (P.zip vs) m x=some v
 | [],_,_,_,_,h,_,_=>by simp at h
 | _::_,[],_,_,_,_,h,_=>by simp at h
 | p::P,w::vs,0,m,nd,h1,h2,hk=>by
  simp at h1 h2;subst h1;subst h2;show bindC kindOf ((p,w)::P.zip vs) m p=_;unfold bindC;rw [wm fun v hv=>(S7.mp nd).1 (List.of_mem_zip hv).1,if_neg hk]
  simp
 | p::P,w::vs,i + 1,m,nd,h1,h2,hk=>by
  show bindC kindOf ((p,w)::P.zip vs) m x=_;unfold bindC;exact wR (i:=i) (S7.mp nd).2 (by simpa using h1) (by simpa using h2) hk
def start (N:Us)(vs:List V):St:=vs.map some++List.replicate (N.length - vs.length) none
def gW (CX:mU)(P:Program)(w:World)(K:UU)(mg:UE)(base:Heap)(N:Us) (qual:Str)(scope:Scope)(f:Addr)(cd:Value)(A:Around)(outer:List Env)(s:Shared)(H:Hp)(E:XK):Cx where
 prog:=P
 w:=w
 K:=K
 mg:=mg
 base:=base
 A:=A.deeper (envOfC qual scope s.heap.objs.size f cd)
 N:=N
 s₀:=s
 H₀:=H
 env:=envOfC qual scope s.heap.objs.size f cd
 outer:=outer
 stack:=envOfC qual scope s.heap.objs.size f cd::outer
 ex:=[]
 calm:=true
 fn:=fun _=>true
 pn:=[]
 xe:=fun e s'=>wpAny (model P w) (A.deeper (envOfC qual scope s.heap.objs.size f cd)) (leaving (envOfC qual scope s.heap.objs.size f cd) e) (fun _ s''=>CX outer H s E e s'') (fun e' s''=>CX outer H s E e' s'') s'
def ye {sc:Scope}{n:Nat}{x:Str}(h:sc.names.lookup x=some .cell):∃ c,(cellsFrom n sc.names []).lookup x=some c:=by
 have q:=PySem.W.cellsFrom_some sc.names n [] (.inl h);exact Option.isSome_iff_exists.mp q
def Fj {CX:mU}{P:Program}{w:World}{K:UU}{mg:UE}{base:Heap}{N ps:Us}{qual:Str}{scope:Scope}{f:Addr}{cd:Value}{A:Around}{outer:List Env}{s s1:Shared}{H:Hp}{E:XK}{us:Ug}{vs:List V}
  (S:aH N ps scope)(hd:A.handled=none)(e0:Cw P w K mg base A outer s H)(hl:vs.length=ps.length)(r:Vals vs us)
  (x:InCallC s s.heap.objs.size (bindL (envOfC qual scope s.heap.objs.size f cd).kindOf (ps.zip us) fun _=>none) (cellsFrom (s.heap.objs.size + 1) scope.names []) (bindC (envOfC qual scope s.heap.objs.size f cd).kindOf (ps.zip us) fun _=>none) s1) :
  Inv (gW CX P w K mg base N qual scope f cd A outer s H E) [] (start N vs) H s1:=by
 have hpl:ps.length<=N.length:=by have:=congrArg List.length S.pre;rw [Sj] at this;omega
 obtain ⟨h1,tk,rfl,hk⟩:=x.done;have noA:∀ b:Addr,b∉(gW CX P w K mg base N qual scope f cd A outer s H E).ex:=fun b z=>absurd (show b∈([]:Uh) from z) (by simp)
 refine ⟨⟨e0.mod,S.kind,rfl,rfl,RE _,fun y z c h1 h2=>?_,fun y hy=>?_,fun y c _ h=>?_,fun _=>hd,Around.frames_deeper e0.frames,.inr ⟨rfl,rfl⟩,fun b z=>absurd z (noA b),e0.bs,e0.wu,fun b _ _=>noA b,fun b z=>absurd z (noA b),e0.lZ,e0.Au⟩,
  rfl,e0.bare,Un.kept hk,⟨_,x.toInCall.ns,fun i y v h1 h2 h3=>?_⟩,fun y c h=>⟨_,x.cell y c h⟩,e0.hok.fresh (RE _),fun y c h=>?_,fun p hp=>absurd (show p∈([]:UG) from hp) (by simp),e0.hok.kept hk,?_⟩
 ·exact name_of_addr x.apart (US h1) (US h2)
 ·have hy:scope.names.lookup y=some .cell\/scope.names.lookup y=some .free:=hy;rcases hy with hy | hy
  ·exact ye hy
  ·exact absurd rfl (S.zu _ (US hy))
 ·exact Nat.le_of_lt (x.above y c (US h))
 ·have hi:i < vs.length:=by
   unfold start at h2
   by_cases hi:i < vs.length
   ·exact hi
   ·rw [Ti (by simpa using hi)] at h2
    rw [List.getElem?_replicate] at h2;split at h2 <;> cases h2
  have ha:vs[i]?=some v:=by
   unfold start at h2;rw [U4 (by simpa using hi),RN] at h2
   cases e:vs[i]? with
   | none=>rw [e] at h2;cases h2
   | some a=>rw [e] at h2;cases h2;rfl
  obtain ⟨u,hu,rv⟩:=r.get ha;have hp:ps[i]?=some y:=by
   rw [<- S.pre,List.getElem?_take_of_lt (by omega)];exact h1
  have ndP:ps.Nodup:=by rw [<- S.pre];exact S.nd.sublist (List.take_sublist _ _)
  refine ⟨u,rv,?_⟩;rcases S.par y (Rt hp) with k | k
  ·exact .inl ⟨k,wj ndP hp hu k⟩
  ·obtain ⟨c,e⟩:=ye (n:=s.heap.objs.size + 1) k;refine .inr ⟨.inl k,c,e,?_⟩;have q:=x.cell y c e;rw [wR ndP hp hu (by show scope.names.lookup y≠_;rw [k];decide)] at q
   exact q
 ·exact e0.hok.fresh (Nat.le_of_lt (x.above y c (US h)))
 ·unfold start;show _=N.length;rw [RW,RD,Sg];omega
def OP {CX:mU}{P:Program}{w:World}{K:UU}{mg:UE}{base:Heap}{k:Nat}{f:Addr}{name qual:Str}{params:Arguments}{body:Up}{scope:Scope}{dV kV doc pm cdv ct oc:Value}{an od:Ue}
  {osl:TN}{N ps:Us}{sp:Sp}(lk:K.lookup f=some ⟨oc,od,.func (PySem.W.fnOf name qual params body scope dV kV doc pm an cdv ct),osl⟩)(hcd:PySem.W.codeIn K cdv qual=true)(S:aH N ps scope)
  (len:∀ vs H Q E,sp vs H Q E->vs.length=ps.length)
  (hbody:∀ (A:Around)(outer:List Env)(s:Shared)(H:Hp)(vs:List V)(Q:VK)(E:XK),eT k (A.deeper (envOfC qual scope s.heap.objs.size f cdv))->sp vs H Q E ->
   ∃ t,p9 (gW CX P w K mg base N qual scope f cdv A outer s H E) body t/\t { nx:=fun _ H'=>Q .bF H',rt:=Q } (start N vs) H) :
  gO P w K mg base CX (k + 1) f (PySem.W.fnOf name qual params body scope dV kV doc pm an cdv ct) ps sp:=by
 refine ⟨len,fun A outer s H args us vs Q E hr e0 hb r hsp=>?_⟩
 have hl:=len _ _ _ _ hsp;have KX:K.In s.heap:=e0.mod.Ik.keeps fun b o e=>(e0.bs b o e).1
 have lim:s.heap.NoLimit:=e0.mod.nolimit.keeps fun b o e=>(e0.bs b o e).1
 have hkind:∀ y∈ps.zip us,scope.names.lookup y.1=some .local\/(scope.names.lookup y.1=some .cell/\((cellsFrom (s.heap.objs.size + 1) scope.names []).lookup y.1).isSome=true):=fun ⟨n,v⟩ hy=>by
  rcases S.par n (List.of_mem_zip hy).1 with q | q
  ·exact .inl q
  ·exact .inr ⟨q,PySem.W.cellsFrom_some _ _ _ (.inl q)⟩
 refine codeAny_call_function hr.depth (KX _ _ lk) rfl S.co S.gen rfl (PySem.W.codeRec_of KX hcd) (hb _ _ _ _ ?_);refine wpAny_newFunctionEnv_cells S.kind hkind fun env he s1 x=>?_
 subst he;refine ⟨lim.keeps x.toInCall.keep,codeAny_func ?_⟩;obtain ⟨t,ht,hq⟩:=hbody A outer s H vs Q E (hr.deeper _) hsp;have I:Inv (gW CX P w K mg base N qual scope f cdv A outer s H E) [] (start N vs) H s1:=Fj S hr.hd e0 hl r x;refine Rr (ht [] s1 (start N vs) H _ I hq) (fun fl s' hs=>?_) fun e s' hs=>hs
 have fin:∀ {σ':St}{H':Hp}{v:V}{u:Value},Inv (gW CX P w K mg base N qual scope f cdv A outer s H E) [] σ' H' s'->RelV v u->Q v H'->CE outer P w H s Q u s' :=
  fun {σ' H' v u} J rv q=>⟨v,H',J.os,J.bare,J.base,J.hok,rv,q⟩
 cases fl with
 | ret u =>
  obtain ⟨v,σ',H',J,rv,q⟩:=hs;exact fin J rv q
 | next =>
  obtain ⟨σ',H',J,q⟩:=hs;exact fin (v:=V.bF) (u:=Value.none) J rfl q
 | brk =>
  obtain ⟨_,_,_,q⟩:=hs;exact False.elim q
 | cont =>
  obtain ⟨_,_,_,q⟩:=hs;exact False.elim q
section
variable {X:Cx}{x:Str}{p pos:Pos}{e:Expr}{es:Ul}{t:TA}{id T:String}{r:List V->Hp->VK->Prop}
def PD (r:List V->Hp->VK->Prop)(t:TA):TE:=fun σ H Q=>t σ H fun vs H1=>r vs H1 Q
def yg (hc:cQ X (.builtin id) r)(hg:Gl X x)(hm:X.mg x=none)(hv:bootBuiltins x=some (.builtin id))(ha:PA X (e::es) t)(hn:x≠"__name__":=by decide)(hdb:(x == ("__debug__":Str))=false:=by decide)
  (he:starEach (e::es) X.env=(false,eval e X.env)::starEach es X.env:=by rfl)(hpl:(backTo pos (starEach es X.env)).any (·.1)=false:=by rfl):PE X (.Call (.Name x p) (e::es) [] pos) (PD r t):=by
 intro pins s σ H Q I h;refine wpAny_Call_Name_kw (j7 I hg hm hv ?_ hn hdb);exact PyProof.Rows.callWith_builtin1 (aN (ha pos pins s σ H _ I h) fun us s1 ⟨vs,H1,I1,r1,q1⟩=>hc pins s1 σ H1 vs us Q I1 r1 q1) he hpl
def mP (hc:cQ X (.type T) r)(hg:Gl X x)(hm:X.mg x=none)(hv:bootBuiltins x=some (.type T))(ha:PA X (e::es) t)(hn:x≠"__name__":=by decide)(hdb:(x == ("__debug__":Str))=false:=by decide)
  (he:starEach (e::es) X.env=(false,eval e X.env)::starEach es X.env:=by rfl)(hpl:(backTo pos (starEach es X.env)).any (·.1)=false:=by rfl):PE X (.Call (.Name x p) (e::es) [] pos) (PD r t):=by
 intro pins s σ H Q I h;refine wpAny_Call_Name_kw (j7 I hg hm hv ?_ hn hdb);exact UR (aN (ha pos pins s σ H _ I h) fun us s1 ⟨vs,H1,I1,r1,q1⟩=>hc pins s1 σ H1 vs us Q I1 r1 q1) he hpl
end
end L2
namespace HT
open PySem PyProof.Rows
section
open PySem.SeqAt
open PySem.AutoSeq1 (wpAny_loadPart')
open PySem.MeetsSeq PySem.MeetsSeq2 PySem.MeetsSeq3
end
section
variable {prog:Program}{w:World}{A:Around}{E:Tn}{s:Shared}
def Kq {t b:Addr}{vs ws:Ug}{Q:Tn}(ht:IsTup s.heap t vs.toArray)(hb:IsTup s.heap b ws.toArray)(hv:vs≠[])
  (h1:ws=[]->Q (.ref t) s)(h2:ws≠[]->Q (.ref s.heap.objs.size) { s with heap:=s.heap.push { cls:=.type "tuple",data:=.seq (vs++ws).toArray } })
  (hsz:vs.length + ws.length<=sizeLine):wpAny (model prog w) A (binaryOp .Add (.ref t) (.ref b)) Q E s:=by
 obtain ⟨⟨cls,dd,data,sl⟩,ho,hc,n,hd⟩:=id ht;obtain ⟨⟨cls2,dd2,data2,sl2⟩,ho2,hc2,n2,hd2⟩:=id hb;simp only at hc hd hc2 hd2;subst hc hd hc2 hd2;have e:vs.toArray++ws.toArray=(vs++ws).toArray:=by simp
 by_cases hw:ws=[]
 ·exact concat_meets ⟨_,ho,rfl⟩ ⟨_,ho2,rfl⟩ noFill_tuple_add seq_tuple_add PySem.F.slot_tuple_add PySem.F.entry_tuple_add (PySem.F.args_tuple_add_2 _ _)
   (tuple_addW1 t b vs.toArray ws.toArray n n2 dd dd2 sl sl2 (by simpa using hv) (by simp [hw])) ⟨ho,ho2,h1 hw⟩
 ·refine concat_meets ⟨_,ho,rfl⟩ ⟨_,ho2,rfl⟩ noFill_tuple_add seq_tuple_add PySem.F.slot_tuple_add PySem.F.entry_tuple_add (PySem.F.args_tuple_add_2 _ _)
   (tuple_addW2 t b vs.toArray ws.toArray n n2 dd dd2 sl sl2 (by simpa using hv) (by simpa using hw) (by rw [RV,RV];exact hsz)) ⟨ho,ho2,?_⟩
  rw [e];exact h2 hw
def aW (n d:Nat):Option Int->Nat
 | none=>d
 | some v=>if v < 0 then (v + (n:Int)).toNat else min v.toNat n
def rA (n d k:Nat):aW n d (some (k:Int))=min k n:=by
 show (if (k:Int) < 0 then ((k:Int) + (n:Int)).toNat else min (k:Int).toNat n)=min k n
 rw [if_neg (by omega),Tj]
def N9 (n d:Nat)(hd:d<=n)(o:Option Int):aW n d o<=n:=by
 cases o with
 | none=>exact hd
 | some v =>
  show (if v < 0 then (v + (n:Int)).toNat else min v.toNat n)<=n
  by_cases hv:v < 0
  ·rw [if_pos hv];omega
  ·rw [if_neg hv];exact Nat.min_le_right _ _
def AG (v:Int) (n d:Nat):(if v < 0 then max (v + (n:Int)) 0 else min v (n:Int))=((aW n d (some v):Nat):Int):=by
 show (if v < 0 then max (v + (n:Int)) 0 else min v (n:Int))=(((if v < 0 then (v + (n:Int)).toNat else min v.toNat n):Nat):Int)
 by_cases hv:v < 0
 ·simp only [if_pos hv];omega
 ·simp only [if_neg hv];omega
def Cc (lo hi:Option Int) (n:Nat):Builtin.Slice.sliceAdjust lo hi 1 (n:Int)=(((aW n 0 lo:Nat):Int),((aW n n hi:Nat):Int)):=by
 have h1:¬ ((1:Int) < 0):=by omega
 unfold Builtin.Slice.sliceAdjust;simp only [h1,SW];refine Prod.ext ?_ ?_
 ·cases lo with
  | none=>rfl
  | some v=>exact AG v n 0
 ·cases hi with
  | none=>rfl
  | some v=>exact AG v n n
def Cg (i j:Nat):Builtin.Slice.slicePlaces (i:Int) (j:Int) 1=j - i:=by
 unfold Builtin.Slice.slicePlaces;have h1:(1:Int) > 0:=by omega
 simp only [h1,if_true,Int.ediv_one];split <;> omega
def uw {v:Value}{o:Option Int}{Q:Option Int->Shared->Prop}(p:IsPart v o)(h:Q o s):wpAny (model prog w) A (Builtin.Slice.slicePartIndex v) Q E s:=by
 cases p with
 | none=>exact slicePart_none h
 | int i t=>exact slicePart_int h
def lW {sl:Addr}{vl vu:Value}{lo hi:Option Int}{n:Nat}{Q:Int×Int×Nat->Shared->Prop}(hs:s.heap.IsSliceOf sl vl vu .none)(pl:IsPart vl lo)(pu:IsPart vu hi)
  (h:Q (((aW n 0 lo:Nat):Int),1,aW n n hi - aW n 0 lo) s):wpAny (model prog w) A (Builtin.Slice.sliceApplied (.ref sl) (pure (n:Int))) Q E s:=by
 obtain ⟨os,hos,hcs,hds⟩:=id hs;unfold Builtin.Slice.sliceApplied Builtin.Slice.sliceFields;refine R8 (R8 (wpAny_field hos hds (x:=vl) rfl (R8 (wpAny_field hos hds (x:=vu) rfl (R8 (wpAny_field hos hds (x:=.none) rfl (R9 ?_)))))));refine R8 (slicePart_none ?_);show wpAny _ _ (if ((1:Int) == 0)=true then _ else _) _ _ s
 rw [if_neg (by decide)]
 refine R8 (uw pl (R8 (uw pu (R8 (R9 ?_)))));show wpAny _ _ (match Builtin.Slice.sliceAdjust lo hi 1 (n:Int) with | (lo,hi)=>pure (lo,(1:Int),Builtin.Slice.slicePlaces lo hi 1)) _ _ s
 rw [Cc lo hi n];show wpAny _ _ (pure (((aW n 0 lo:Nat):Int),(1:Int),Builtin.Slice.slicePlaces ((aW n 0 lo:Nat):Int) ((aW n n hi:Nat):Int) 1)) _ _ s;rw [Cg];exact R9 h
def GU (xs:Ua) (i k:Nat):((List.range k).filterMap fun (m:Nat)=>xs[((i:Int) + (m:Int) * 1).toNat]?).toArray=((xs.toList.drop i).take k).toArray:=by
 have e:(fun (m:Nat)=>xs[((i:Int) + (m:Int) * 1).toNat]?)=fun m=>xs[i + m]?:=by
  funext m;have:((i:Int) + (m:Int) * 1).toNat=i + m:=by omega
  rw [this]
 rw [e];have:=pick_run xs i k;rw [List.filterMap_map] at this;have e2:((fun x=>xs[x]?) ∘ fun x=>i + x)=fun m=>xs[i + m]?:=rfl
 rw [e2] at this;rw [this]
def rG {t sl:Addr}{items:Ua}{vl vu:Value}{lo hi:Option Int}{Q:Tn}(ht:IsTup s.heap t items)(hs:s.heap.IsSliceOf sl vl vu .none)(pl:IsPart vl lo)(pu:IsPart vu hi)
  (hw:¬ (aW items.size 0 lo=0/\aW items.size items.size hi=items.size))
  (h:Q (.ref s.heap.objs.size) { s with heap:=s.heap.push { cls:=.type "tuple",data:=.seq ((items.toList.drop (aW items.size 0 lo)).take (aW items.size items.size hi - aW items.size 0 lo)).toArray } })
  (hsz:items.size<=sizeLine):wpAny (model prog w) A (getItem (.ref t) (.ref sl)) Q E s:=by
 have htake:sizeOk (.seq ((items.toList.drop (aW items.size 0 lo)).take (aW items.size items.size hi - aW items.size 0 lo)).toArray):=by
  show ((items.toList.drop (aW items.size 0 lo)).take (aW items.size items.size hi - aW items.size 0 lo)).toArray.size<=sizeLine;rw [RV,Sj,Sy,Sx];exact Rz (Nat.min_le_right _ _) (Rz (Nat.sub_le _ _) hsz)
 have hj:aW items.size items.size hi<=items.size:=N9 _ _ (RE _) hi;obtain ⟨os,hos,hcs,hds⟩:=id hs;have hTs:s.TypeIs (.ref sl) "slice":=⟨os,hos,hcs⟩;unfold getItem
 try with_reducible refine Sa ?_
 first | refine R8 (R9 ?_) | skip
 refine R8 (wpAny_sequenceKey ht.typeIs (by decide) ?_)
 refine R8 (U5 (name:=Str.ofString "__getitem__") ht.typeIs Uw
  (Sh Uw ht.typeIs entry_tuple_getitem ?_ (args_tuple_getitem _ _)))
 show wpAny _ _ (Builtin.Tuple.tupleItemsOf (.ref t) >>= _) _ _ s;refine R8 (tupleItemsOf_ ht ?_);refine R8 (wpAny_typeOf hTs ?_);rw [if_pos (by decide)]
 refine R8 (lW hs pl pu ?_);have hno:¬ ((((aW items.size 0 lo:Nat):Int) == 0 && (1:Int) == 1 && (aW items.size items.size hi - aW items.size 0 lo) == items.size)=true):=by
  intro q;rw [RK,RK] at q;have q1:((aW items.size 0 lo:Nat):Int)=0:=eq_of_beq q.1.1;have q2:aW items.size items.size hi - aW items.size 0 lo=items.size:=eq_of_beq q.2;exact hw ⟨by omega,by omega⟩
 show wpAny _ _ (if (((aW items.size 0 lo:Nat):Int) == 0 && (1:Int) == 1 && (aW items.size items.size hi - aW items.size 0 lo) == items.size)=true then _ else _) _ _ s
 rw [if_neg hno,GU]
 first
  | exact R8 (m:=Builtin.Tuple.tupleExact _) (SX (R9 ⟨_,rfl,R9 h⟩) htake)
  | exact R8 (m:=Builtin.Tuple.tupleExact _) (SX (R8 (R9 (R9 ⟨_,rfl,R9 h⟩))) htake)
  | exact R8 (R8 (m:=Builtin.Tuple.tupleExact _) (SX (R9 (R9 ⟨_,rfl,R9 h⟩)) htake))
  | exact R8 (R8 (m:=Builtin.Tuple.tupleExact _) (SX (R9 ⟨_,rfl,R9 h⟩) htake))
end
end HT
namespace L2
open PySem PySem.Spec PyProof.Rows
abbrev TO:=St->Hp->(Option Int->Hp->Prop)->Prop
def PO (X:Cx)(e:Option Expr)(t:TO):Prop :=
 ∀ (pins:UG)(s:Shared)(σ:St)(H:Hp)(Q:Option Int->Hp->Prop),Inv X pins σ H s->t σ H Q ->
  wpAny (model X.prog X.w) X.A (evalPart e X.env) (fun u s'=>∃ o H',Inv X pins σ H' s'/\IsPart u o/\Q o H') X.xe s
def Kp:TO:=fun _ H Q=>Q none H
def OB (t:TE):TO:=fun σ H Q=>t σ H fun x H1=>∃ i,x=.int i/\Q (some i) H1
def intsAre_of {ns:Ur}:∀ {us:Ug},Vals (ns.map V.int) us->IntsAre us ns:=by
 induction ns with
 | nil=>intro us r;rw [List.map_nil] at r;cases r;exact .nil
 | cons n ns ih =>
  intro us r;rw [RZ] at r;cases r with
  | cons r1 r2 =>
   obtain ⟨t,e⟩:=r1;subst e;exact .cons n t (ih r2)
section
variable {X:Cx}{e:Expr}{te:TE}{lo hi:Option Expr}{tl th:TO}{pos p2:Pos}
def Aw:PO X none Kp:=by
 intro pins s σ H Q I h;rw [evalPart_none];exact R9 ⟨none,H,I,.none,h⟩
def AR (h:PE X e te):PO X (some e) (OB te):=by
 intro pins s σ H Q I hw;rw [evalPart_some];refine aN (h pins s σ H _ I hw) fun u s1 ⟨x,H1,I1,r1,q1⟩=>?_
 obtain ⟨i,rfl,q⟩:=q1;obtain ⟨t,rfl⟩:=r1;exact ⟨some i,H1,I1,.int i t,q⟩
def EO (X:Cx)(r:V->Option Int->Option Int->Hp->VK->Prop):Prop :=
 ∀ (pins:UG)(s:Shared)(σ:St)(H:Hp) (x:V)(v vl vu:Value)(lo hi:Option Int)(sl:Addr)(Q:VK),Inv X pins σ H s->RelV x v->s.heap.IsSliceOf sl vl vu .none->IsPart vl lo->IsPart vu hi->r x lo hi H Q ->
  ∃ T id,typeLookup (.type T) "__getitem__"=pure (some (.builtin id))/\s.TypeIs v T/\wpAny (model X.prog X.w) X.A (getItem v (.ref sl)) (EP X pins σ Q) X.xe s
def QV (r:V->Option Int->Option Int->Hp->VK->Prop)(te:TE)(tl th:TO):TE:=fun σ H Q=>te σ H fun x H1=>tl σ H1 fun l H2=>th σ H2 fun u H3=>r x l u H3 Q
def yw {r:V->Option Int->Option Int->Hp->VK->Prop}(hr:EO X r)(he:PE X e te)(hl:PO X lo tl)(hu:PO X hi th):PE X (.Subscript e (.Slice lo hi none p2) pos) (QV r te tl th):=by
 intro pins s σ H Q I h;refine Subscript_ (aN (he pins s σ H _ I h) fun v s1 ⟨x,H1,I1,r1,q1⟩=>?_)
 refine wpAny_Slice (aN (hl pins s1 σ H1 _ I1 q1) fun vl s2 ⟨l,H2,I2,pl,q2⟩=>aN (hu pins s2 σ H2 _ I2 q2) fun vu s3 ⟨u,H3,I3,pu,q3⟩=>?_)
 rw [evalPart_none];refine R9 ?_;have I4:Inv X pins σ H3 { s3 with heap:=s3.heap.push { cls:=.type "slice",data:=.fields #[vl,vu,.none] } }:=I3.kept (t':=s3.toks) fun b ob q=>RO _ q
 obtain ⟨T,id,hT,ht,hg⟩:=hr pins { s3 with heap:=s3.heap.push { cls:=.type "slice",data:=.fields #[vl,vu,.none] } } σ H3 x v vl vu l u s3.heap.objs.size Q I4 r1 (Heap.IsSliceOf.new ..) pl pu q3
 show wpAny (model X.prog X.w) X.A (subscriptTail e (.Slice lo hi none p2) v (.ref s3.heap.objs.size)) (EP X pins σ Q) X.xe { s3 with heap:=s3.heap.push { cls:=.type "slice",data:=.fields #[vl,vu,.none] } }
 exact tail_any (ops:=[.ref s3.heap.objs.size,v]) ht hT hg (by with_unfolding_all rfl)
def pU (xs:List V)(lo hi:Option Int):List V:=(xs.drop (HT.aW xs.length 0 lo)).take (HT.aW xs.length xs.length hi - HT.aW xs.length 0 lo)
def rV (xs:List V)(lo hi:Option Int):(pU xs lo hi).length<=xs.length:=by
 unfold pU;rw [Sj,Sy];exact Rz (Nat.min_le_right _ _) (Nat.sub_le _ _)
def QB (K:UU):V->Option Int->Option Int->Hp->VK->Prop:=fun x lo hi H Q=>∃ a xs,x=.ref a/\cP K H a xs /\
 ¬ (HT.aW xs.length 0 lo=0/\HT.aW xs.length xs.length hi=xs.length)/\∀ p,H p=none->Q (.ref p) (upd H p (.tup (pU xs lo hi)))
def LQ:EO X (QB X.K):=by
 intro pins s σ H x v vl vu lo hi sl Q I rx hs pl pu h;obtain ⟨a,xs,rfl,hx,hw,q⟩:=h;cases rx;obtain ⟨its,r,ht,hz⟩:=I.tuple hx;have hlen:its.toArray.size=xs.length:=by rw [RV];exact r.length.symm
 refine ⟨"tuple",_,Uw.lookup,ht.typeIs,?_⟩;refine HT.rG ht hs pl pu (by rw [hlen];exact hw) ?_ (by rw [hlen];exact hz)
 rw [hlen];refine ⟨.ref s.heap.objs.size,_,I.laid (t':=s.toks) (o:=.tup (pU xs lo hi)) (fun b ob q=>RO _ q) (RE _) ?_,rfl,q _ (I.hok.fresh (RE _))⟩
 exact ⟨Rz (rV xs lo hi) hz,_,(r.drop (HT.aW xs.length 0 lo)).take (HT.aW xs.length xs.length hi - HT.aW xs.length 0 lo),IsTup.new _ _⟩
def IA (K:UU):R2:=fun x y H Q=>∃ a b xs ys,x=.ref a/\y=.ref b/\cP K H a xs/\cP K H b ys/\xs≠[]/\xs.length + ys.length<=sizeLine /\
 (ys=[]->Q (.ref a) H)/\(ys≠[]->∀ p,H p=none->Q (.ref p) (upd H p (.tup (xs++ys))))
def Vals.vP {xs:List V}{us:Ug}(r:Vals xs us):us=[]↔xs=[]:=by
 cases r with
 | nil=>simp
 | cons _ _=>simp
def Jz:bX X (binaryOp .Add) (IA X.K):=by
 intro pins s σ H x y v u Q I rx ry h;obtain ⟨a,b,xs,ys,rfl,rfl,ha,hb,hx,hz,q1,q2⟩:=h;cases rx;cases ry;obtain ⟨its,r1,p1,_⟩:=I.tuple ha;obtain ⟨its2,r2,p2,_⟩:=I.tuple hb;refine HT.Kq p1 p2 (fun z=>hx (r1.vP.mp z)) (fun z=>⟨.ref a,H,I,rfl,q1 (r2.vP.mp z)⟩) (fun z=>?_) (by rw [<- r1.length,<- r2.length];exact hz)
 refine ⟨.ref s.heap.objs.size,_,I.laid (t':=s.toks) (o:=.tup (xs++ys)) (fun b ob q=>RO _ q) (RE _) ?_,rfl,q2 (fun w=>z (r2.vP.mpr w)) _ (I.hok.fresh (RE _))⟩
 exact ⟨by rw [RW];exact hz,_,r1.append r2,IsTup.new _ _⟩
end
def p7 (n:Nat) (i:Int):Option Nat:=if 0<=i then (if i < n then some i.toNat else none) else if -(n:Int)<=i then some (i + n).toNat else none
def fc {α:Type}(xs:List α) (i:Int):Option α:=(p7 xs.length i).bind fun j=>xs[j]?
def Bc {n:Nat}{i:Int}{j:Nat}(h:p7 n i=some j):seqIndex? i n=some j/\j < n/\-(n:Int)<=i/\i < n:=by
 unfold p7 at h
 by_cases h0:0<=i
 ·rw [if_pos h0] at h
  by_cases h1:i < n
  ·rw [if_pos h1] at h;have e:i.toNat=j:=Option.some.inj h;exact ⟨by rw [seqIndex_of h0 h1,e],by omega,by omega,h1⟩
  ·rw [if_neg h1] at h;cases h
 ·rw [if_neg h0] at h
  by_cases h1:-(n:Int)<=i
  ·rw [if_pos h1] at h;have e:(i + n).toNat=j:=Option.some.inj h;exact ⟨by rw [seqIndex_neg (by omega) h1,e],by omega,h1,by omega⟩
  ·rw [if_neg h1] at h;cases h
def vG {α:Type}{xs:List α}{i:Int}{v:α}(h:fc xs i=some v):∃ j,seqIndex? i xs.length=some j/\xs[j]?=some v/\j < xs.length/\-(xs.length:Int)<=i/\i < xs.length:=by
 unfold fc at h;cases e:p7 xs.length i with
 | none=>rw [e] at h;cases h
 | some j =>
  rw [e] at h;obtain ⟨h1,h2,h3,h4⟩:=Bc e;exact ⟨j,h1,h,h2,h3,h4⟩
def nN (b:Expr):Prop:=∀ o i,subscripted b false o i=operate [o,i] (getItem o i)
def qb (X:Cx)(r:R2):Prop :=
 ∀ (value slice:Expr)(pins:UG)(s:Shared)(σ:St)(H:Hp) (x y:V)(v u:Value)(Q:VK),Inv X pins σ H s->RelV x v->RelV y u->r x y H Q ->
  subscripted slice false v u=operate [v,u] (getItem v u)->wpAny (model X.prog X.w) X.A (subscriptTail value slice v u) (EP X pins σ Q) X.xe s
def NQ (X:Cx)(id:String)(r:V->List V->Hp->VK->Prop):Prop :=
 ∀ (pins:UG)(s:Shared)(σ:St)(H:Hp) (x:V)(xs:List V)(v:Value)(us:Ug)(Q:VK),Inv X pins σ H s->RelV x v->Vals xs us->r x xs H Q ->
  wpAny (model X.prog X.w) X.A (call (.builtin id) (v::us)) (EP X pins σ Q) X.xe s
section
variable {X:Cx}{a b:Expr}{ta tb:TE}{pos:Pos}
def qb.or {r r':R2}(h:qb X r)(h':qb X r'):qb X (fun x y H Q=>r x y H Q\/r' x y H Q):=by
 intro value slice pins s σ H x y v u Q I rx ry q hs;rcases q with q | q
 ·exact h value slice pins s σ H x y v u Q I rx ry q hs
 ·exact h' value slice pins s σ H x y v u Q I rx ry q hs
def Jh {r:R2}(hr:qb X r)(ha:PE X a ta)(hb:PE X b tb)(hs:nN b):PE X (.Subscript a b pos) (LD r ta tb):=by
 intro pins s σ H Q I h;exact Subscript_ (Gk ha hb I h fun v u s2 x y H2 I2 rx ry q=>hr a b pins s2 σ H2 x y v u Q I2 rx ry q (hs _ _))
inductive Jd (K:UU) (x:V) (y:V)(H:Hp)(Q:VK):Prop
 | mk:∀ p xs i v,(x=.ref p)->(y=.int i)->(bT K H p xs)->(fc xs i=some v)->(Q v H)->Jd K x y H Q
def Np (K:UU):R2:=fun x y H Q=>Jd K x y H Q
inductive Ia (K:UU) (x:V) (y:V)(H:Hp)(Q:VK):Prop
 | mk:∀ p xs i v,(x=.ref p)->(y=.int i)->(cP K H p xs)->(fc xs i=some v)->(Q v H)->Ia K x y H Q
def MC (K:UU):R2:=fun x y H Q=>Ia K x y H Q
inductive IZ (x:V) (y:V)(H:Hp)(Q:VK):Prop
 | mk:∀ z i c,(x=.str z)->(y=.int i)->(z.length<=sizeLine)->(fc z.cps.toList i=some c)->(Q (.str ⟨#[c]⟩) H)->IZ x y H Q
def N8:R2:=fun x y H Q=>IZ x y H Q
def Jx:qb X (Np X.K):=by
 intro value slice pins s σ H x y v u Q I rx ry h hs;obtain ⟨p,xs,i,z,rfl,rfl,hq,he,q⟩:=h;cases rx;obtain ⟨t,rfl⟩:=ry;obtain ⟨its,r,pl,hz⟩:=I.list hq;obtain ⟨j,h1,h2,h3,h4,h5⟩:=vG he;obtain ⟨w,ew,rw'⟩:=r.get h2;have hl:=r.length;have hn:=nU;have fin:EP X pins σ Q w s:=⟨z,H,I,rw',q⟩
 by_cases h0:0<=i
 ·have hj:i.toNat=j:=by
   rw [seqIndex_of h0 h5] at h1;exact Option.some.inj h1
  exact item_listR pl.isList h0 (by omega) (by rw [hj];simpa using ew) fin hs
 ·have hj:(i + (its.toArray.size:Int)).toNat=j:=by
   rw [seqIndex_neg (by omega) h4] at h1
   rw [RV,<- hl];exact Option.some.inj h1
  exact subscriptTail_builtinR (x:=w) pl.isList.typeIs slot_list_getitem.lookup
   (wpAny_getItem_list_neg (Q:=fun r s'=>r=w/\EP X pins σ Q r s') pl.isList (by omega) (by rw [RV] <;> omega) (by omega) (by rw [hj];simpa using ew) ⟨rfl,fin⟩) hs
def La:qb X (MC X.K):=by
 intro value slice pins s σ H x y v u Q I rx ry h hs;obtain ⟨p,xs,i,z,rfl,rfl,hq,he,q⟩:=h;cases rx;obtain ⟨t,rfl⟩:=ry;obtain ⟨its,r,pl,hz⟩:=I.tuple hq;obtain ⟨j,h1,h2,h3,h4,h5⟩:=vG he;obtain ⟨w,ew,rw'⟩:=r.get h2;have hl:=r.length;have hn:=nU;have fin:EP X pins σ Q w s:=⟨z,H,I,rw',q⟩;exact subscriptTail_builtinR (x:=w) pl.typeIs slot_tuple_getitem.lookup
  (getItem_tuple (j:=j) (Q:=fun r s'=>r=w/\EP X pins σ Q r s') pl (by omega) (by omega) (by rw [RV,<- hl];exact h1) (by simpa using ew) ⟨rfl,fin⟩) hs
def MJ:qb X N8:=by
 intro value slice pins s σ H x y v u Q I rx ry h hs;obtain ⟨z,i,c,rfl,rfl,hz,he,q⟩:=h;obtain ⟨t,rfl⟩:=rx;obtain ⟨t',rfl⟩:=ry;obtain ⟨j,h1,h2,h3,h4,h5⟩:=vG he;have hl:z.cps.toList.length=z.length:=by simp [Str.length]
 rw [hl] at h1 h4 h5;have hn:=nU;exact tail_any (typeIs_str s z t) slot_str_getitem.lookup (getItem_str (c:=c) (by
  have e1:decide (i < -(2 ^ 63:Int))=false:=S6 (by omega)
  have e2:decide (i >= 2 ^ 63)=false:=S6 (by omega)
  rw [e1,e2,Bool.or_false]) (by rw [h1];simpa using h2) ⟨.str ⟨#[c]⟩,H,I.tok _,⟨_,rfl⟩,q⟩) hs
def NZ (K:UU):R2:=fun x y H Q=>Np K x y H Q\/MC K x y H Q\/N8 x y H Q
def DJ:qb X (NZ X.K):=Jx.or (La.or MJ)
def Cq (its:Ug) (n j:Nat)(u:Value):Obj.mapSeq (·.setIfInBounds j u) { cls:=.type "list",data:=.seq its.toArray n }={ cls:=.type "list",data:=.seq (its.set j u).toArray n }:=by
 simp [Obj.mapSeq]
theorem Inv.lst {pins:UG}{σ:St}{H:Hp}{s:Shared}{p:Addr}{xs:List V}(I:Inv X pins σ H s)(h:H p=some (.lst xs)) :
  ∃ (its:Ug) (n:Nat),Vals xs its/\s.heap.get? p=some { cls:=.type "list",data:=.seq its.toArray n }/\xs.length<=sizeLine:=by
 obtain ⟨z,its,n,r,e⟩:=I.hok p _ h;exact ⟨its,n,r,e,z⟩
def Inv.MX {pins:UG}{σ:St}{H:Hp}{s:Shared}{p:Addr}{xs ys:List V}{its its':Ug}{n n':Nat}{f:Obj->Obj}(I:Inv X pins σ H s)(h:H p=some (.lst xs))
  (ho:s.heap.get? p=some { cls:=.type "list",data:=.seq its.toArray n })(hf:f { cls:=.type "list",data:=.seq its.toArray n }={ cls:=.type "list",data:=.seq its'.toArray n' })(r:Vals ys its')(hz:ys.length<=sizeLine) (t:Nat) :
  Inv X pins σ (upd H p (.lst ys)) { s with heap:=s.heap.update p f,toks:=t }:=by
 have e:(s.heap.update p f).get? p=some { cls:=.type "list",data:=.seq its'.toArray n' }:=by
  rw [Sz f ho (by rw [hf] <;> rfl),hf]
 refine I.write (x:=p) (e:=p) (by rw [h];trivial) (.inl rfl) (fun b u hb q=>(SO _ _ (Ne.symm hb)).trans q) ⟨_,e⟩ ?_
 exact ⟨hz,its',n',r,e⟩
inductive Dl (o:V) (i:V) (v:V)(H:Hp)(Q:(Hp->Prop)):Prop
 | mk:∀ p xs k j,(o=.ref p)->(i=.int k)->(H p=some (.lst xs))->(p7 xs.length k=some j)->(Q (upd H p (.lst (xs.set j v))))->Dl o i v H Q
def Ic:V->V->V->Hp->(Hp->Prop)->Prop:=fun o i v H Q=>Dl o i v H Q
def set_list:G4 X Ic:=by
 intro pins s σ H o i v ov iv u Q I ro ri rv h;obtain ⟨p,xs,k,j,rfl,rfl,hp,hj,q⟩:=h;cases ro;obtain ⟨t,rfl⟩:=ri;obtain ⟨its,n,r,ho,hz⟩:=I.lst hp;obtain ⟨h1,h2,h3,h4⟩:=Bc hj;have hl:=r.length;have hn:=nU;have I':Inv X pins σ (upd H p (.lst (xs.set j v))) { s with heap:=s.heap.update p (Obj.mapSeq (·.setIfInBounds j u)) } :=
  I.MX hp ho (Cq its n j u) (r.set rv j) (by rw [SH];exact hz) s.toks
 by_cases h0:0<=k
 ·have hk:k.toNat=j:=by
   rw [seqIndex_of h0 h4] at h1;exact Option.some.inj h1
  exact PySem.W.ki_setAt ho h0 (by omega) (by rw [RV,<- hl];exact h4) (by rw [hk];exact ⟨_,I',q⟩)
 ·have hk:(k + (its.toArray.size:Int)).toNat=j:=by
   rw [seqIndex_neg (by omega) h3] at h1
   rw [RV,<- hl];exact Option.some.inj h1
  exact PySem.W.ki_setBack ho (by omega) (by rw [RV,<- hl];exact h3) (by omega) (by rw [hk];exact ⟨_,I',q⟩)
def yE (lo hi:Option Int) (n:Nat):(sliceBounds lo hi none n).1=((HT.aW n 0 lo:Nat):Int)/\(sliceBounds lo hi none n).2.1=((HT.aW n n hi:Nat):Int)/\(sliceBounds lo hi none n).2.2=1:=by
 have one:∀ i:Int,(sliceBounds (some i) none none n).1=((HT.aW n 0 (some i):Nat):Int):=fun i=>by
  simp only [sliceBounds,HT.aW,Option.getD_none,show (1:Int) > 0 by decide,if_true]
  by_cases h:i < 0
  ·simp only [h,if_true] <;> omega
  ·simp only [h,SW] <;> omega
 refine ⟨?_,?_,rfl⟩
 ·cases lo with
  | none=>simp [sliceBounds,HT.aW]
  | some i=>exact one i
 ·cases hi with
  | none=>simp [sliceBounds,HT.aW]
  | some i=>exact one i
def w5 (its:Ug)(lo hi:Option Int):slicePick its.toArray lo hi none=((its.drop (HT.aW its.length 0 lo)).take (HT.aW its.length its.length hi - HT.aW its.length 0 lo)).toArray:=by
 obtain ⟨h1,h2,h3⟩:=yE lo hi its.toArray.size;unfold slicePick;rw [h1,h2,h3];simp only [sliceRange_one,pick_run,RV] <;> rfl
inductive IS (K:UU) (x:V)(lo:Option Int)(hi:Option Int)(H:Hp)(Q:VK):Prop
 | mk:∀ a xs,(x=.ref a)->(bT K H a xs)->(∀ p,H p=none->Q (.ref p) (upd H p (.lst (pU xs lo hi))))->IS K x lo hi H Q
def NN (K:UU):V->Option Int->Option Int->Hp->VK->Prop:=fun x lo hi H Q=>IS K x lo hi H Q
def JQ:EO X (NN X.K):=by
 intro pins s σ H x v vl vu lo hi sl Q I rx hs pl pu h;obtain ⟨a,xs,rfl,hx,q⟩:=h;cases rx;obtain ⟨its,r,ht,hz⟩:=I.list hx;have hlen:=r.length;refine ⟨"list",_,slot_list_getitem.lookup,ht.isList.typeIs,?_⟩;refine wpAny_getItem_list_slice ht.isList hs pl pu .none (by simp) ?_ (by rw [RV] <;> omega)
 rw [w5,<- hlen];refine ⟨.ref s.heap.objs.size,_,I.laid (t':=s.toks) (o:=.lst (pU xs lo hi)) (fun b ob q=>RO _ q) (RE _) ?_,rfl,q _ (I.hok.fresh (RE _))⟩
 exact ⟨Rz (rV xs lo hi) hz,_,0,(r.drop (HT.aW xs.length 0 lo)).take (HT.aW xs.length xs.length hi - HT.aW xs.length 0 lo),Rx _ rfl⟩
def zT:cQ X (.builtin "len") (fun xs H Q=>∃ p ys,xs=[.ref p]/\(bT X.K H p ys\/cP X.K H p ys)/\Q (.int ys.length) H):=by
 intro pins s σ H xs us Q I r h;obtain ⟨p,ys,rfl,hq,q⟩:=h;obtain ⟨u,rfl,rx⟩:=vals1 r;cases rx;have hn:=nU;rcases hq with hq | hq
 ·obtain ⟨its,r',pl,hz⟩:=I.list hq;have hlen:=r'.length;exact Calls.call_len_list pl.isList (by simp only [RV] <;> omega) ⟨.int ys.length,H,I.tok _,⟨s.toks + 1,by rw [RV,hlen]⟩,q⟩
 ·obtain ⟨its,r',pl,hz⟩:=I.tuple hq;have hlen:=r'.length;exact len_tuple pl (by simp only [RV] <;> omega) ⟨.int ys.length,H,I.tok _,⟨s.toks + 1,by rw [RV,hlen]⟩,q⟩
def cQ.or {f:Value}{r r':List V->Hp->VK->Prop}(h:cQ X f r)(h':cQ X f r'):cQ X f (fun xs H Q=>r xs H Q\/r' xs H Q):=by
 intro pins s σ H xs us Q I rs q;rcases q with q | q
 ·exact h pins s σ H xs us Q I rs q
 ·exact h' pins s σ H xs us Q I rs q
def zq:cQ X (.type "list") (fun xs H Q=>∃ p ys,xs=[.ref p]/\(bT X.K H p ys\/cP X.K H p ys)/\∀ l,H l=none->Q (.ref l) (upd H l (.lst ys))):=by
 intro pins s σ H xs us Q I r h;obtain ⟨p,ys,rfl,hq,q⟩:=h;obtain ⟨u,rfl,rx⟩:=vals1 r;cases rx;have fin:∀ (its:Ug),Vals ys its->ys.length<=sizeLine->∀ (h':Heap) (c':Nat),(∀ b o',s.heap.get? b=some o'->h'.get? b=some o') ->
   h'.get? s.heap.objs.size=some { cls:=.type "list",dict:=none,data:=.seq its.toArray c',slots:=#[] }->EP X pins σ Q (.ref s.heap.objs.size) { s with heap:=h' }:=fun its r' hz h' c' kp e =>
  ⟨.ref s.heap.objs.size,_,I.laid (t':=s.toks) kp (RE _) (show bO X.prog X.w _ h' _ (.lst ys) from ⟨hz,its,c',r',e⟩),rfl,q _ (I.hok.fresh (RE _))⟩
 rcases hq with hq | hq
 ·obtain ⟨its,r',pl,hz⟩:=I.list hq;have hlen:=r'.length;obtain ⟨o,ho,hc,n,hd⟩:=pl.isList;exact call_list_seq p (.inl rfl) ho hc hd (fun h' c' kp e=>fin its r' hz h' c' kp e) (by simp only [RV] <;> omega)
 ·obtain ⟨its,r',pl,hz⟩:=I.tuple hq;have hlen:=r'.length;obtain ⟨o,ho,hc,n,hd⟩:=pl;exact call_list_seq p (.inr rfl) ho hc hd (fun h' c' kp e=>fin its r' hz h' c' kp e) (by simp only [RV] <;> omega)
def qc:cQ X (.type "tuple") (fun xs H Q=>∃ p ys,xs=[.ref p]/\((bT X.K H p ys/\∀ l,H l=none->Q (.ref l) (upd H l (.tup ys)))\/(cP X.K H p ys/\Q (.ref p) H))):=by
 intro pins s σ H xs us Q I r h;obtain ⟨p,ys,rfl,h⟩:=h;obtain ⟨u,rfl,rx⟩:=vals1 r;cases rx;rcases h with ⟨hq,q⟩ | ⟨hq,q⟩
 ·obtain ⟨its,r',pl,hz⟩:=I.list hq;have hlen:=r'.length;refine call_tuple_list pl.isList (fun h' kp=>?_) (by simp only [RV] <;> omega)
  have I1:Inv X pins σ H { s with heap:=h' }:=I.kept (t':=s.toks) kp
  have I2:Inv X pins σ (upd H h'.objs.size (.tup ys)) { s with heap:=h'.push { cls:=.type "tuple",data:=.seq its.toArray } } :=
   I1.laid (t':=s.toks) (fun b o e=>RO _ e) (RE _) (show bO X.prog X.w _ _ _ (.tup ys) from ⟨hz,its,r',IsTup.new _ _⟩)
  exact ⟨.ref h'.objs.size,_,I2,rfl,q _ (I1.hok.fresh (RE _))⟩
 ·obtain ⟨its,r',pl,hz⟩:=I.tuple hq;exact call_tuple_same pl ⟨.ref p,H,I,rfl,q⟩
def K4 (K:UU)(T:String) (x:V)(H:Hp):Prop:=match x with
 | .str _=>T="str"
 | .int _=>T="int"
 | .ref p=>(T="list"/\∃ xs,bT K H p xs)\/(T="tuple"/\∃ o,K.lookup p=some o/\o.cls=.type "tuple"/\o.dict=none) \/
   (T="dict"/\((∃ kvs,H p=some (.dK kvs))\/∃ kvs,H p=some (.dT kvs)))\/(T="set"/\∃ S n,H p=some (.set S n))
 | _=>False
def DW {pins:UG}{σ:St}{H:Hp}{s:Shared}{T:String}{x:V}{v:Value}(I:Inv X pins σ H s)(r:RelV x v)(ty:K4 X.K T x H) :
  s.TypeIs v T/\∀ a,v=.ref a->∃ ob,s.heap.get? a=some ob/\ob.dict=none:=by
 cases x with
 | str z =>
  obtain ⟨t,rfl⟩:=r;cases (show T="str" from ty)
  exact ⟨typeIs_str s z t,fun _ e=>nomatch e⟩
 | int i =>
  obtain ⟨t,rfl⟩:=r;cases (show T="int" from ty)
  exact ⟨typeIs_int s i t,fun _ e=>nomatch e⟩
 | ref p =>
  cases r;rcases ty with ⟨rfl,xs,hq⟩ | ⟨rfl,o,hk,hc,hd⟩ | ⟨rfl,hk⟩ | ⟨rfl,S,n,hk⟩
  ·obtain ⟨its,_,pl,_⟩:=I.list hq;refine ⟨pl.isList.typeIs,fun a e=>?_⟩
   cases e;obtain ⟨o,n,e,c,hd,_⟩:=pl;exact ⟨o,e,hd⟩
  ·refine ⟨⟨o,I.iU p o hk,hc⟩,fun a e=>?_⟩
   cases e;exact ⟨o,I.iU _ o hk,hd⟩
  ·have z:∃ o,s.heap.get? p=some o/\o.ExactDict:=by
    rcases hk with ⟨kvs,hk⟩ | ⟨kvs,hk⟩
    ·obtain ⟨_,_,_,_,o,_,_,e,ex,_⟩:=I.hok p _ hk;exact ⟨o,e,ex⟩
    ·obtain ⟨_,_,_,_,o,_,_,e,ex,_⟩:=I.hok p _ hk;exact ⟨o,e,ex⟩
   obtain ⟨o,e,ex⟩:=z;refine ⟨⟨o,e,ex.1⟩,fun a e2=>?_⟩
   cases e2;exact ⟨o,e,ex.2.1⟩
  ·obtain ⟨o,_,_,_,e,ex,_⟩:=I.hok p _ hk;refine ⟨⟨o,e,ex.1⟩,fun a e2=>?_⟩
   cases e2;exact ⟨o,e,ex.2.1⟩
 | _=>exact False.elim ty
def PY (K:UU)(T:String)(r:V->List V->Hp->VK->Prop)(to:TE):TE:=fun σ H Q=>to σ H fun x H1=>K4 K T x H1/\r x [] H1 Q
def QJ (K:UU)(T:String)(r:V->List V->Hp->VK->Prop)(to:TE)(t:TA):TE:=fun σ H Q=>to σ H fun x H1=>K4 K T x H1/\t σ H1 fun xs H2=>r x xs H2 Q
variable {o e:Expr}{es:Ul}{to:TE}{t:TA}{name:Str}{apos cpos:Pos}{T id:String}{r:V->List V->Hp->VK->Prop}
def LZ (pa:PlainAttrs T)(slot:Slot T name id)(hty:typeOf (.builtin id)=pure (.type "method_descriptor"))(hm:NQ X id r)(ho:PE X o to)
  (hbase:attributeBase o name X.env (eval o X.env)=eval o X.env:=by rfl)(hline:(apos.endLine == cpos.line)=true:=by rfl):PE X (.Call (.Attribute o name apos) [] [] cpos) (PY X.K T r to):=by
 intro pins s σ H Q I h;refine wpAny_Call_method0_late hbase hline (aN (ho pins s σ H _ I h) fun v s1 ⟨x,H1,I1,r1,ty,q1⟩=>?_)
 obtain ⟨h1,h2⟩:=DW I1 r1 ty;exact ⟨T,id,pa,slot,hty,h1,h2,Calls.callWith_builtin rfl (PySem.evalArgs_none (hm pins s1 σ H1 x [] v [] Q I1 r1 .nil q1))⟩
def xw (pa:PlainAttrs T)(slot:Slot T name id)(hty:typeOf (.builtin id)=pure (.type "method_descriptor"))(hm:NQ X id r)(ho:PE X o to)(ha:PA X (e::es) t)
  (hbase:attributeBase o name X.env (eval o X.env)=eval o X.env:=by rfl)
  (hfew:((backTo cpos (starEach (e::es) X.env)).all (fun x=>!x.1) && (backToKw cpos (keywordEach [] X.env)).all (fun x=>x.1.isSome)
   && decide ((e::es).length + ([]:List Keyword).length + (if ([]:List Keyword).isEmpty then 0 else 1) < 30))=true:=by rfl)
  (hline:(apos.endLine == cpos.line)=true:=by rfl)(hs:starEach (e::es) X.env=(false,eval e X.env)::starEach es X.env:=by rfl)(hplain:(backTo cpos (starEach es X.env)).any (·.1)=false:=by rfl) :
  PE X (.Call (.Attribute o name apos) (e::es) [] cpos) (QJ X.K T r to t):=by
 intro pins s σ H Q I h;refine wpAny_Call_method_late hbase hfew hline rfl (aN (ho pins s σ H _ I h) fun v s1 ⟨x,H1,I1,r1,ty,q1⟩=>?_)
 obtain ⟨h1,h2⟩:=DW I1 r1 ty;refine ⟨T,id,pa,slot,hty,h1,h2,?_⟩;have hA:=ha cpos pins s1 σ H1 _ I1 q1;rw [hs] at hA ⊢;refine Calls.callWith_builtin (by show (false || (backTo cpos (starEach es X.env)).any (·.1))=false;rw [hplain] <;> rfl) (Calls.evalArgs_plain ?_)
 exact aN hA fun us s2 ⟨vs,H2,I2,r2,q2⟩=>hm pins s2 σ H2 x vs v us Q I2 r1 r2 q2
/- xs.append(e),list.index on a module's tuple .. are MtR facts of 06m -/
end
def wg (X:Cx)(id:String)(r:V->List V->Hp->VK->Prop):Prop :=
 ∀ (pins:UG)(s:Shared)(σ:St)(H:Hp) (x:V)(xs:List V)(v:Value)(us:Ug)(Q:VK),Inv X pins σ H s->RelV x v->Vals xs us->r x xs H Q ->
  wpAny (model X.prog X.w) X.A (call (.builtin id) (v::us)) (EP X pins σ Q) X.xe s
def Vals.one:∀ {x:V}{us:Ug},Vals [x] us->∃ u,us=[u]/\RelV x u
 | _,_,.cons r .nil=>⟨_,rfl,r⟩
def Vals.two:∀ {x y:V}{us:Ug},Vals [x,y] us->∃ u v,us=[u,v]/\RelV x u/\RelV y v
 | _,_,_,.cons r (.cons q .nil)=>⟨_,_,rfl,r,q⟩
def Vals.zero:∀ {us:Ug},Vals [] us->us=[]
 | _,.nil=>rfl
theorem Vals.dropLast {xs:List V}{us:Ug}(h:Vals xs us):Vals xs.dropLast us.dropLast:=by
 induction h with
 | nil=>exact .nil
 | cons r t ih =>
  cases t with
  | nil=>exact .nil
  | cons q t'=>exact .cons r ih
theorem Vals.eraseIdx:∀ {xs:List V}{us:Ug} (i:Nat),Vals xs us->Vals (xs.eraseIdx i) (us.eraseIdx i)
 | _,_,_,.nil=>.nil
 | _,_,0,.cons _ t=>t
 | _,_,i + 1,.cons r t=>.cons r (Vals.eraseIdx i t)
theorem Vals.rep {xs:List V}{us:Ug}(h:Vals xs us):∀ k:Nat,Vals (List.replicate k xs).flatten (List.replicate k us).flatten
 | 0=>.nil
 | k + 1=>by
  rw [To,To,U6,U6];exact Vals.append h (Vals.rep h k)
def Cy {α:Type}(l:List α):l.eraseIdx (l.length - 1)=l.dropLast:=by
 induction l with
 | nil=>rfl
 | cons a r ih =>
  cases r with
  | nil=>rfl
  | cons b r =>
   have e:(a::b::r).length - 1=((b::r).length - 1) + 1:=by
    have h1:(a::b::r).length=r.length + 2:=rfl;have h2:(b::r).length=r.length + 1:=rfl;omega
   rw [e,List.eraseIdx_cons_succ,ih]
   all_goals rfl
theorem wG {α:Type}:∀ (l:List α) (i:Nat),(l.eraseIdx i).length<=l.length
 | [],_=>RE _
 | _::_,0=>Nat.le_succ _
 | _::r,i + 1=>Nat.succ_le_succ (wG r i)
theorem foldl_rep (its:Ug):∀ (k:Nat)(acc:Ug),
  List.foldl (fun x1 x2=>x1++x2) acc.toArray (List.replicate k its.toArray)=(acc++(List.replicate k its).flatten).toArray
 | 0,acc=>by simp
 | k + 1,acc=>by
  have e:acc.toArray++its.toArray=(acc++its).toArray:=by simp
  have e2:(acc++its)++(List.replicate k its).flatten=acc++(List.replicate (k + 1) its).flatten:=by
   rw [To,U6,S0]
  rw [<- e2,<- foldl_rep its k (acc++its),<- e,To,List.foldl_cons]
section
variable {X:Cx}{pins:UG}{σ:St}{H:Hp}{s:Shared}{l b:Addr}{xs ys zs:List V}
def Inv.CD {its its':Ug}{n:Nat}{f:Ua->Ua}{t':Nat}(I:Inv X pins σ H s)(hH:H l=some (.lst xs))
  (e:s.heap.get? l=some { cls:=.type "list",data:=.seq its.toArray n })(hf:f its.toArray=its'.toArray)(hv:Vals ys its')(hz:ys.length<=sizeLine) :
  Inv X pins σ (upd H l (.lst ys)) { s with heap:=s.heap.update l (Obj.mapSeq f),toks:=t' }:=by
 have q:=PySem.IsL.update e f;rw [hf] at q;refine I.write (x:=l) (e:=l) (by rw [hH];exact trivial) (.inl rfl) (fun b' u hb hu=>(SO s.heap (Obj.mapSeq f) (Ne.symm hb)).trans hu) ⟨_,q⟩ ?_
 exact ⟨hz,its',_,hv,q⟩
def Inv.MU {its:Ug}{t':Nat}(I:Inv X pins σ H s)(hv:Vals ys its)(hz:ys.length<=sizeLine) :
  Inv X pins σ (upd H s.heap.objs.size (.lst ys)) { s with heap:=s.heap.push { cls:=.type "list",data:=.seq its.toArray },toks:=t' } :=
 I.laid (fun _ _ q=>RO _ q) (RE _) ⟨hz,its,0,hv,Rx _ rfl⟩
theorem Inv.fresh (I:Inv X pins σ H s):H s.heap.objs.size=none:=I.hok.fresh (RE _)
def Inv.C6 (I:Inv X pins σ H s)(hH:H l=some (.lst xs)):xs.length<=sizeLine/\∃ (its:Ug) (n:Nat),Vals xs its/\xs.length=its.length/\s.heap.get? l=some { cls:=.type "list",data:=.seq its.toArray n }:=by
 obtain ⟨z,its,n,r,e⟩:=I.hok l _ hH;exact ⟨z,its,n,r,r.length,e⟩
def xO {n:Nat}(h:n<=sizeLine):Builtin.List.listTooLong n=false:=by
 unfold Builtin.List.listTooLong;exact S6 (by omega)
end
section
variable {X:Cx}
def AL:V->List V->Hp->VK->Prop:=fun x vs H Q=>∃ l xs y,x=.ref l/\vs=[y]/\H l=some (.lst xs)/\xs.length < sizeLine/\Q .bF (upd H l (.lst (xs++[y])))
def iO:wg X "list.append" AL:=by
 intro pins s σ H x vs v us Q I rx rv h;obtain ⟨l,xs,y,rfl,rfl,hH,hz,q⟩:=h;cases rx;obtain ⟨u,rfl,ru⟩:=rv.one;obtain ⟨z,its,n,r,hl,e⟩:=I.C6 hH;refine call_meets F.slot_list_append ⟨_,e,rfl⟩ F.entry_list_append (F.args_list_append_2 _ _) (PySem.list_append l its.toArray n u (by rw [RV];omega)) ⟨e,?_⟩
 refine ⟨.bF,_,I.CD (its':=its++[u]) hH e (by simp) (r.append (.cons ru .nil)) ?_,rfl,q⟩
 rw [RW,List.length_singleton];omega
inductive Jb (x:V)(vs:List V)(H:Hp)(Q:VK):Prop
 | mk:∀ l xs y,(x=.ref l)->(vs=[])->(H l=some (.lst xs))->(xs[xs.length - 1]?=some y)->(Q y (upd H l (.lst xs.dropLast)))->Jb x vs H Q
def HB:V->List V->Hp->VK->Prop:=fun x vs H Q=>Jb x vs H Q
def NY:wg X "list.pop" HB:=by
 intro pins s σ H x vs v us Q I rx rv h;obtain ⟨l,xs,y,rfl,rfl,hH,hy,q⟩:=h;cases rx;have hus:=rv.zero;subst hus;obtain ⟨z,its,n,r,hl,e⟩:=I.C6 hH;obtain ⟨u,hu,ru⟩:=r.get hy;have hy':its.toArray[its.toArray.size - 1]?=some u:=by
  show its.toArray[its.length - 1]?=some u;rw [<- So,<- hl];exact hu
 refine call_meets F.slot_list_pop ⟨_,e,rfl⟩ F.entry_list_pop (F.args_list_pop_1 _) (MeetsSeq.list_pop_last l its.toArray n u hy' (by rw [RV];omega)) ⟨e,?_⟩
 refine ⟨y,_,I.CD (its':=its.dropLast) hH e ?_ r.dropLast ?_,ru,q⟩
 ·show its.toArray.eraseIdxIfInBounds (its.toArray.size - 1)=its.dropLast.toArray;rw [RV,List.eraseIdxIfInBounds_toArray,Cy]
 ·rw [List.length_dropLast];omega
inductive AO (x:V)(vs:List V)(H:Hp)(Q:VK):Prop
 | mk:∀ l xs i k y,(x=.ref l)->(vs=[.int i])->(H l=some (.lst xs))->(-(2 ^ 63)<=i)->(i < 2 ^ 63)->(seqIndex? i xs.length=some k)->(xs[k]?=some y)->(Q y (upd H l (.lst (xs.eraseIdx k))))->AO x vs H Q
def yd:V->List V->Hp->VK->Prop:=fun x vs H Q=>AO x vs H Q
def GK:wg X "list.pop" yd:=by
 intro pins s σ H x vs v us Q I rx rv h;obtain ⟨l,xs,i,k,y,rfl,rfl,hH,h1,h2,hk,hy,q⟩:=h;cases rx;obtain ⟨u,rfl,ru⟩:=rv.one;obtain ⟨t,rfl⟩:=ru;obtain ⟨z,its,n,r,hl,e⟩:=I.C6 hH;obtain ⟨w,hw,rw'⟩:=r.get hy;refine call_meets F.slot_list_pop ⟨_,e,rfl⟩ F.entry_list_pop (F.args_list_pop_2 _ _)
  (MeetsSeq.list_pop_at l its.toArray n i t k w (fitsIndex_both h1 h2) (by rw [RV,<- hl];exact hk) (by rw [<- So];exact hw) (by rw [RV];omega)) ⟨e,?_⟩
 refine ⟨y,_,I.CD (its':=its.eraseIdx k) hH e ?_ (r.eraseIdx k) ?_,rw',q⟩
 ·show its.toArray.eraseIdxIfInBounds k=(its.eraseIdx k).toArray;rw [List.eraseIdxIfInBounds_toArray]
 ·have:=wG xs k;omega
def len_rep {α:Type}(xs:List α) (k:Nat):(List.replicate k xs).flatten.length=k * xs.length:=by
 induction k with
 | zero=>simp
 | succ k ih=>rw [To,U6,RW,ih,Nat.succ_mul,Nat.add_comm]
end
section
variable {prog:Program}{w:World}{A:Around}{E:Tn}{s:Shared}
end
section
variable {X:Cx}
end
section
variable {κ:Type} [DecidableEq κ]
def cg (kvs:List (κ×V))(k:κ):Option V:=(kvs.find? fun kv=>decide (kv.1=k)).map (·.2)
def putK (kvs:List (κ×V))(k:κ) (v:V):List (κ×V) :=
 if (kvs.any fun kv=>decide (kv.1=k))=true then kvs.map (fun kv=>if kv.1=k then (kv.1,v) else kv) else kvs++[(k,v)]
def sD {p:κ×V}{r:List (κ×V)}{k:κ}(e:p.1=k):cg (p::r) k=some p.2:=by simp [cg,List.find?_cons,e]
def sL {p:κ×V}{r:List (κ×V)}{k:κ}(e:¬ p.1=k):cg (p::r) k=cg r k:=by simp [cg,List.find?_cons,e]
theorem tG (k:κ):∀ kvs:List (κ×V),(kvs.any fun kv=>decide (kv.1=k))=(cg kvs k).isSome
 | []=>rfl
 | p::r=>by
  rw [TJ]
  by_cases e:p.1=k
  ·simp only [sD e,Rq e,Bool.true_or,Option.isSome_some]
  ·rw [sL e,S6 e,Bool.false_or];exact tG k r
def rR (kvs:List (κ×V))(k:κ) (v:V):(putK kvs k v).length<=kvs.length + 1:=by
 unfold putK;split
 ·rw [RD];omega
 ·rw [RW,Ru,List.length_nil];omega
def kH.j6 {o:Option V}{u:UZ}(r:kH o u):o.isSome=u.isSome:=by
 cases o with
 | none=>cases u with
  | none=>rfl
  | some _=>exact (show False from r).elim
 | some _=>cases u with
  | none=>exact (show False from r).elim
  | some _=>rfl
def KV.val {kvs:List (κ×V)}{vs:List (κ×Value)}(r:KV kvs vs)(k:κ):kH (cg kvs k) (valueAt vs k):=by
 unfold KV at r
 induction r with
 | nil=>exact Sn
 | @cons p q ps qs h t ih =>
  obtain ⟨h1,h2⟩:=h
  by_cases e:p.1=k
  ·have e':q.1=k:=h1.symm.trans e;have b:valueAt (q::qs) k=some q.2:=by simp [valueAt,List.find?_cons,e']
   rw [sD e,b];exact h2
  ·have e':¬ q.1=k:=fun z=>e (h1.trans z)
   have b:valueAt (q::qs) k=valueAt qs k:=by simp [valueAt,List.find?_cons,e']
   rw [sL e,b];exact ih
theorem KV.any {kvs:List (κ×V)}{vs:List (κ×Value)}(r:KV kvs vs)(k:κ):(kvs.any fun kv=>decide (kv.1=k))=vs.any fun kv=>decide (kv.1=k):=by
 unfold KV at r
 induction r with
 | nil=>rfl
 | cons h t ih=>rw [TJ,TJ,ih,h.1]
def KV.repl {kvs:List (κ×V)}{vs:List (κ×Value)}(r:KV kvs vs)(k:κ){y:V}{u:Value}(ry:RelV y u) :
  KV (kvs.map fun kv=>if kv.1=k then (kv.1,y) else kv) (vs.map fun kv=>if kv.1=k then (kv.1,u) else kv):=by
 unfold KV at r ⊢
 induction r with
 | nil=>exact .nil
 | @cons p q ps qs h t ih =>
  rw [RZ,RZ];refine .cons ?_ ih;obtain ⟨h1,h2⟩:=h
  by_cases e:p.1=k
  ·rw [if_pos e,if_pos (h1.symm.trans e)];exact ⟨h1,ry⟩
  ·rw [if_neg e,if_neg (fun z=>e (h1.trans z))];exact ⟨h1,h2⟩
def KV.put {kvs:List (κ×V)}{vs:List (κ×Value)}(r:KV kvs vs)(k:κ){y:V}{u:Value}(ry:RelV y u):KV (putK kvs k y) (stored vs k u):=by
 unfold putK stored;rw [r.any k]
 by_cases e:(vs.any fun kv=>decide (kv.1=k))=true
 ·rw [if_pos e,if_pos e];exact r.repl k ry
 ·rw [if_neg e,if_neg e];exact Paired.snoc r ⟨rfl,ry⟩
theorem KV.length {kvs:List (κ×V)}{vs:List (κ×Value)}(r:KV kvs vs):kvs.length=vs.length:=Paired.length r
end
def xr {P:Program}{w:World}{k:Key}{u:Value}(r:RelV (kV k) u):(c8 P w).is k u=true:=by
 cases k with
 | inl i=>obtain ⟨t,e⟩:=(show ∃ t,u=Value.int i t from r);subst e;exact z5 P w i t
 | inr x=>obtain ⟨t,e⟩:=(show ∃ t,u=Value.str x t from r);subst e;exact z3 P w x t
theorem wB {P:Program}{w:World}:∀ {ks:List Key}{us:Ug},Vals (ks.map kV) us->ItemsAre (c8 P w) ks us
 | [],_,r=>by rw [List.map_nil] at r;cases r;exact .nil
 | k::ks,_,r=>by
  rw [RZ] at r;cases r with
  | cons h t=>exact .cons (xr h) (wB t)
abbrev KT (H:Hp):List (List Key×V)->List (List Key×Addr×Value)->Prop:=Paired fun p q=>p.1=q.1/\H q.2.1=some (.tup (p.1.map kV))/\RelV p.2 q.2.2
def KT.val {H:Hp}{kvs:List (List Key×V)}{xs:List (List Key×Addr×Value)}(r:KT H kvs xs)(k:List Key):kH (cg kvs k) ((atKey xs k).map (·.2)):=by
 induction r with
 | nil=>exact Sn
 | @cons p q ps qs h t ih =>
  obtain ⟨h1,_,h2⟩:=h
  by_cases e:p.1=k
  ·have e':q.1=k:=h1.symm.trans e;have b:atKey (q::qs) k=some q.2:=by simp [atKey,List.find?_cons,e']
   rw [sD e,b];exact h2
  ·have e':¬ q.1=k:=fun z=>e (h1.trans z)
   have b:atKey (q::qs) k=atKey qs k:=by simp [atKey,List.find?_cons,e']
   rw [sL e,b];exact ih
def KT.repl {H:Hp}{kvs:List (List Key×V)}{xs:List (List Key×Addr×Value)}(r:KT H kvs xs)(k:List Key){y:V}{u:Value}(ry:RelV y u) :
  KT H (kvs.map fun kv=>if kv.1=k then (kv.1,y) else kv) (xs.map (putAt k u)):=by
 induction r with
 | nil=>exact .nil
 | @cons p q ps qs h t ih =>
  rw [RZ,RZ];refine .cons ?_ ih;obtain ⟨h1,h2,h3⟩:=h;unfold putAt
  by_cases e:p.1=k
  ·rw [if_pos e,if_pos (h1.symm.trans e)];exact ⟨h1,h2,ry⟩
  ·rw [if_neg e,if_neg (fun z=>e (h1.trans z))];exact ⟨h1,h2,h3⟩
def KT.put {H:Hp}{kvs:List (List Key×V)}{xs:List (List Key×Addr×Value)}(r:KT H kvs xs)(k:List Key){b:Addr}{y:V}{u:Value}(hb:H b=some (.tup (k.map kV)))(ry:RelV y u) :
  KT H (putK kvs k y) (storedH xs k b u):=by
 have e:(kvs.any fun kv=>decide (kv.1=k))=(atKey xs k).isSome:=by
  rw [tG,(r.val k).j6,Option.isSome_map]
 unfold putK storedH;rw [e]
 by_cases q:(atKey xs k).isSome=true
 ·rw [if_pos q,if_pos q];exact r.repl k ry
 ·rw [if_neg q,if_neg q];exact Paired.snoc r ⟨rfl,hb,ry⟩
def KT.keeps {H H':Hp}{kvs:List (List Key×V)}{xs:List (List Key×Addr×Value)}(r:KT H kvs xs)(ht:∀ b ys,H b=some (.tup ys)->H' b=some (.tup ys)):KT H' kvs xs :=
 Paired.CZ r fun _ _ z=>⟨z.1,ht _ _ z.2.1,z.2.2⟩
section
variable {P:Program}{w:World}{H:Hp}{h:Heap}{a:Addr}
def Jj {u:HO}(ok:dQ P w H h)(e:Rd H a u):bO P w H h a u:=e.ok ok
def uL {kvs:List (Key×V)}(ok:dQ P w H h)(e:Rd H a (.dK kvs)):kvs.length<=sizeLine/\(a == sysModules)=false/\∃ vs,KV kvs vs/\h.DictOf (c8 P w) a vs :=
 show bO P w H h a (.dK kvs) from Jj ok e
def OM {kvs:List (Key×V)}(ok:dQ P w H h)(e:H a=some (.dK kvs)):kvs.length<=sizeLine/\(a == sysModules)=false/\∃ vs,KV kvs vs/\h.DictOf (c8 P w) a vs:=uL ok (.inl e)
def qK {ks:List Key}(ok:dQ P w H h)(e:H a=some (.tup (ks.map kV))):(tupleKind (c8 P w)).is h ks a:=by
 obtain ⟨_,its,r,o,h1,h2,n,h3⟩:=(show bO P w H h a (.tup (ks.map kV)) from ok a _ e)
 exact ⟨o,its.toArray,n,h1,h2,h3,by simpa using wB r⟩
def xm {kvs:List (List Key×V)}(ok:dQ P w H h)(e:Rd H a (.dT kvs)):kvs.length<=sizeLine/\(a == sysModules)=false /\
  ∃ xs,KT H kvs xs/\h.DictOfH (tupleKind (c8 P w)) a xs:=by
 obtain ⟨z,y,xs,r,o,es,ep,h1,h2,h3,h4,h5⟩:=(show bO P w H h a (.dT kvs) from Jj ok e)
 refine ⟨z,y,xs,r,o,es,ep,h1,h2,h3,h4,fun x hx=>?_,h5⟩
 have all:∀ {l:List (List Key×V)}{m:List (List Key×Addr×Value)},KT H l m->∀ x∈m,(tupleKind (c8 P w)).is h x.1 x.2.1:=by
  intro l m q
  induction q with
  | nil=>intro x hx;exact nomatch hx
  | @cons p q ps qs hq t ih =>
   intro x hx;rcases RJ.mp hx with e | hx
   ·subst e;exact qK ok (by rw [<- hq.1];exact hq.2.1)
   ·exact ih x hx
 exact all r x hx
def IV {kvs:List (List Key×V)}(ok:dQ P w H h)(e:H a=some (.dT kvs)):kvs.length<=sizeLine/\(a == sysModules)=false /\
  ∃ xs,KT H kvs xs/\h.DictOfH (tupleKind (c8 P w)) a xs:=xm ok (.inl e)
end
def jS (H:Hp)(a:Addr) (y:V)(r:Option V):Prop :=
 (∃ kvs k,Rd H a (.dK kvs)/\y=kV k/\r=cg kvs k)\/∃ kvs k b,Rd H a (.dT kvs)/\y=.ref b/\H b=some (.tup (k.map kV))/\r=cg kvs k
def qt (H:Hp)(a:Addr) (y v:V)(H':Hp):Prop :=
 (∃ kvs k,H a=some (.dK kvs)/\y=kV k/\kvs.length < sizeLine/\H'=upd H a (.dK (putK kvs k v))) \/
 ∃ kvs k b,H a=some (.dT kvs)/\y=.ref b/\H b=some (.tup (k.map kV))/\kvs.length < sizeLine/\H'=upd H a (.dT (putK kvs k v))
theorem jS.k {H:Hp}{a:Addr}{kvs:List (Key×V)}{k:Key}(e:H a=some (.dK kvs)):jS H a (kV k) (cg kvs k):=.inl ⟨kvs,k,.inl e,rfl,rfl⟩
def jS.t {H:Hp}{a b:Addr}{kvs:List (List Key×V)}{k:List Key}(e:H a=some (.dT kvs))(eb:H b=some (.tup (k.map kV))):jS H a (.ref b) (cg kvs k):=.inr ⟨kvs,k,b,.inl e,rfl,eb,rfl⟩
theorem qt.k {H:Hp}{a:Addr}{kvs:List (Key×V)}{k:Key}{v:V}(e:H a=some (.dK kvs))(hl:kvs.length < sizeLine):qt H a (kV k) v (upd H a (.dK (putK kvs k v))):=.inl ⟨kvs,k,e,rfl,hl,rfl⟩
def qt.t {H:Hp}{a b:Addr}{kvs:List (List Key×V)}{k:List Key}{v:V}(e:H a=some (.dT kvs))(eb:H b=some (.tup (k.map kV)))(hl:kvs.length < sizeLine) :
  qt H a (.ref b) v (upd H a (.dT (putK kvs k v))):=.inr ⟨kvs,k,b,e,rfl,eb,hl,rfl⟩
section
variable {X:Cx}{pins:UG}{σ:St}{H:Hp}{s:Shared}{a:Addr}{y v:V}{u r:Value}{o:Option V}{A:Around}{E:Tn}
def Inv.big (I:Inv X pins σ H s):sysModules < s.heap.objs.size:=by
 have h:mainGlobals < s.heap.objs.size:=(I.mod.glob.keeps I.bk).lt;exact Nat.lt_trans (by decide) h
def Fg {Q:Tn}(hu:A.units + 1 < cLine)(I:Inv X pins σ H s)(g:jS H a y (some v))(ry:RelV y u)(h:∀ w' s',Inv X pins σ H s'->RelV v w'->Q w' s') :
  wpAny (model X.prog X.w) A (getItem (.ref a) u) Q E s:=by
 rcases g with ⟨kvs,k,e,ey,l⟩ | ⟨kvs,k,b,e,ey,eb,l⟩
 ·subst ey;obtain ⟨z,hd,vs,rel,dd⟩:=uL I.hok e;obtain ⟨w',hw,rw'⟩:=kH.some_of (v:=v) (o:=valueAt vs k) (by rw [l];exact rel.val k)
  exact wpAny_getItem_of (xr ry) dd.mapOf hw (h w' _ (I.tok _) rw')
 ·subst ey;cases (show u=Value.ref b from ry)
  obtain ⟨z,hd,xs,rel,dd⟩:=xm I.hok e;obtain ⟨w',hw,rw'⟩:=kH.some_of (v:=v) (o:=(atKey xs k).map (·.2)) (by rw [l];exact rel.val k)
  obtain ⟨p,hp,hp2⟩:=SQ.mp hw;refine wpAny_getItem_heap (tupleKind_room_in1 hu) (qK I.hok eb) dd hp ?_;rw [hp2];exact h w' _ (I.tok _) rw'
def Qt {Q:Tn}(hu:A.units + 1 < cLine)(I:Inv X pins σ H s)(g:jS H a y o)(ry:RelV y u)(h:∀ s',Inv X pins σ H s'->Q (.bool o.isSome) s') :
  wpAny (model X.prog X.w) A (compareOp .In u (.ref a)) Q E s:=by
 rcases g with ⟨kvs,k,e,ey,l⟩ | ⟨kvs,k,b,e,ey,eb,l⟩
 ·subst ey;obtain ⟨z,hd,vs,rel,dd⟩:=uL I.hok e;refine wpAny_in_of (xr ry) hd dd.mapOf ?_;rw [<- (rel.val k).j6,<- l];exact h _ (I.tok _)
 ·subst ey;cases (show u=Value.ref b from ry)
  obtain ⟨z,hd,xs,rel,dd⟩:=xm I.hok e;refine wpAny_in_heap (tupleKind_room_in1 hu) (qK I.hok eb) hd dd ?_;have q:=(rel.val k).j6;rw [Option.isSome_map] at q;rw [<- q,<- l];exact h _ (I.tok _)
def uY {h':Heap}{t':Nat}{ob:HO}(I:Inv X pins σ H s)(mu:E7 (H a))(hs:Heap.SameBut a s.heap h')(he:∃ q,h'.get? a=some q)(new:bO X.prog X.w (upd H a ob) h' a ob) :
  Inv X pins σ (upd H a ob) { s with heap:=h',toks:=t' } :=
 I.write (x:=a) (e:=a) mu (.inl rfl) (fun b q hb z=>(hs.2 b hb).trans z) he new
def Lx {P:Program}{w:World}{H':Hp}{h':Heap}{kvs:List (Key×V)}{vs:List (Key×Value)}(z:kvs.length<=sizeLine)(hd:(a == sysModules)=false)(rel:KV kvs vs)(dd:h'.DictOf (c8 P w) a vs) :
  bO P w H' h' a (.dK kvs):=⟨z,hd,vs,rel,dd⟩
def Ef {H':Hp}{Q:Unit->Shared->Prop}(hu:A.units + 1 < cLine)(I:Inv X pins σ H s)(g:qt H a y v H')(ry:RelV y u)(rv:RelV v r)(h:∀ s',Inv X pins σ H' s'->Q () s') :
  wpAny (model X.prog X.w) A (setItem (.ref a) u r) Q E s:=by
 rcases g with ⟨kvs,k,e,ey,l,eH⟩ | ⟨kvs,k,b,e,ey,eb,l,eH⟩
 ·subst ey eH;obtain ⟨z,hd,vs,rel,dd⟩:=OM I.hok e;have hz:vs.length<=sizeLine:=by rw [<- rel.length];exact z
  have hl:(putK kvs k v).length<=sizeLine:=by have:=rR kvs k v;omega
  refine wpAny_setItem_pairs (hsz:=hz) (xr ry) dd fun h' dd' hs=>h _ ?_
  have he:∃ q,h'.get? a=some q:=let ⟨q,_,_,hq,_⟩:=dd';⟨q,hq⟩
  exact uY I (by rw [e];exact Sn) hs he (Lx hl hd (rel.put k rv) dd')
 ·subst ey eH;cases (show u=Value.ref b from ry)
  obtain ⟨z,hd,xs,rel,dd⟩:=IV I.hok e;have hz:xs.length<=sizeLine:=by rw [<- Paired.length rel];exact z
  have hl:(putK kvs k v).length<=sizeLine:=by have:=rR kvs k v;omega
  refine wpAny_setItem_heap (hsz:=hz) (tupleKind_room_in1 hu) (qK I.hok eb) dd fun h' dd' hs=>h _ ?_
  obtain ⟨q,es,ep,hq,h2,h3,h4,_,h5⟩:=dd';refine uY I (by rw [e];exact Sn) hs ⟨q,hq⟩ ⟨hl,hd,_,(rel.put k eb rv).keeps fun c ys ec=>?_,q,es,ep,hq,h2,h3,h4,h5⟩
  rw [ao (Cb ec e (fun z=>nomatch z))]
  exact ec
end
section
variable {X:Cx}{pins:UG}{σ:St}{H:Hp}{s:Shared}{a:Addr}{kvs:List (Key×V)}{k:Key}{u:Value}{A:Around}{E:Tn}
def O1 {Q:Tn}(I:Inv X pins σ H s)(e:Rd H a (.dK kvs))(h:∀ t s',Inv X pins σ H s'->Q (.int kvs.length t) s'):wpAny (model X.prog X.w) A (call (.builtin "len") [.ref a]) Q E s:=by
 obtain ⟨z,hd,vs,rel,dd⟩:=uL I.hok e;refine call_len_dict hd dd (by rw [<- rel.length];rw [sizeLine_eq] at z;omega) ?_
 rw [<- rel.length];exact h _ _ (I.tok _)
end
def Ad {X:Cx}{pins:UG}{σ:St}{H:Hp}{s:Shared}{a:Addr}{y:V}{o:Option V}(I:Inv X pins σ H s)(g:jS H a y o):s.TypeIs (.ref a) "dict":=by
 rcases g with ⟨kvs,k,e,_,_⟩ | ⟨kvs,k,b,e,_,_,_⟩
 ·obtain ⟨_,_,vs,_,dd⟩:=uL I.hok e;exact dd.typeIs
 ·obtain ⟨_,_,xs,_,dd⟩:=xm I.hok e;exact dd.typeIs
section
variable {X:Cx}{o i e value:Expr}{pos pos' tpos:Pos}{td ty tv:TE}
end
def Hi {P:Program}{w:World}{H:Hp}(h:Heap)(hb:sysModules < h.objs.size):bO P w H (h.push { cls:=.type "dict",data:=.dict #[] }) h.objs.size (.dK []) :=
 ⟨S8 _,beq_eq_false_iff_ne.mpr (Ne.symm (RQ hb)),[],.nil,Heap.DictOf.new h⟩
def HD {P:Program}{w:World}{H:Hp}(h:Heap)(hb:sysModules < h.objs.size):bO P w H (h.push { cls:=.type "dict",data:=.dict #[] }) h.objs.size (.dT []) :=
 ⟨S8 _,beq_eq_false_iff_ne.mpr (Ne.symm (RQ hb)),[],.nil,_,#[],0,Rx _ rfl,⟨rfl,rfl,rfl⟩,rfl,rfl,Sq⟩
def FD:TE:=fun _ H Q=>∀ p,H p=none->Q (.ref p) (upd H p (.dK []))
def DF:TE:=fun _ H Q=>∀ p,H p=none->Q (.ref p) (upd H p (.dT []))
section
variable {X:Cx}{pos:Pos}
def HP:PE X (.Dict [] [] pos) FD:=fun pins s σ H Q I h =>
 wpAny_Dict_empty ⟨.ref s.heap.objs.size,_,I.laid (a:=s.heap.objs.size) (o:=.dK []) (t':=s.toks) (fun _ _ q=>RO _ q) (RE _) (Hi s.heap I.big),rfl,h _ (I.hok.fresh (RE _))⟩
def zd:PE X (.Dict [] [] pos) DF:=fun pins s σ H Q I h =>
 wpAny_Dict_empty ⟨.ref s.heap.objs.size,_,I.laid (a:=s.heap.objs.size) (o:=.dT []) (t':=s.toks) (fun _ _ q=>RO _ q) (RE _) (HD s.heap I.big),rfl,h _ (I.hok.fresh (RE _))⟩
end
section
variable {X:Cx}{pins:UG}{σ:St}{H:Hp}{s:Shared}{a:Addr}{y d:V}{u r:Value}{o:Option V}{A:Around}{E:Tn}
end
section
variable {X:Cx}{o e f:Expr}{apos cpos:Pos}{td ty tx:TE}
end
section
variable {X:Cx}{pins:UG}{σ:St}{H:Hp}{s:Shared}{a:Addr}{kvs:List (Key×V)}{A:Around}{E:Tn}
end
section
variable {X:Cx}{pins:UG}{σ:St}{H:Hp}{s:Shared}{a:Addr}{y:V}{u:Value}{A:Around}{E:Tn}
end
end L2
namespace PJ
open PySem PySem.W PySem.Calls PyProof.Rows
def uF {P:Params}{h:Heap}:∀ (ns:Ur)(vs:Ug),WellAll P h vs (ns.map WData.int)->IntsAre vs ns:=by
 intro ns
 induction ns with
 | nil =>
  intro vs w;rw [List.map_nil] at w;cases w;exact .nil
 | cons n ns ih =>
  intro vs w;rw [RZ] at w;cases w with
  | cons a b =>
   cases a;exact .cons _ _ (ih _ b)
def C9 {l:OpenLaw}{n:Nat}(hn:l.most=some n){P:Params}{h:Heap}{args:List WData}{vals:Ug}
  (hpre:l.row.toRowW.claim.pre args=true)(hwl:WellAll P h vals args) :
  ∃ a vs ns,vals=[Value.ref a]/\args=[WData.list (ns.map WData.int)]/\h.get? a=some { cls:=.type "list",data:=.seq vs.toArray }/\IntsAre vs ns/\ns.length<=n:=by
 have hsh:WShape.hasAll [] args [.list .int]=true:=(pre_splitW hpre).1;have hc:l.pre.holds [] { args:=args }=true:=(pre_splitW hpre).2;obtain ⟨d,r,rfl,h1,h2⟩:=hasAllW_cons hsh;obtain rfl:=hasAllW_nil h2;obtain ⟨xs,rfl,h3⟩:=hasW_list h1;obtain ⟨ns,rfl⟩:=items_int h3;have hlen:ns.length<=n:=by
  unfold OpenLaw.pre at hc;have h4:(WTm.not (.lt (.lit (.int (n:Int))) (.len (.arg 0)))).holds [] { args:=[.list (ns.map .int)] }=true:=by
   have h4:=(holds_andW hc).1;rw [hn] at h4;exact h4
  have h5:=condW_of h4 (w_not (w_lt w_lit (w_len_list (w_arg rfl))));rw [RD] at h5;refine Nat.le_of_not_lt fun q=>?_
  have q':(n:Int) < ((ns.length:Nat):Int):=by omega
  first
   | (rw [Rq q'] at h5;exact absurd h5 (by decide))
   | (simp at h5;omega)
 cases hwl with
 | cons w1 w2 =>
  cases w2;cases w1 with
  | list ho hall=>exact ⟨_,_,ns,rfl,rfl,ho,uF ns _ hall,hlen⟩
def EJ (l:OpenLaw)(args:List WData):l.row.toRowW.claim.post args (.bool true) args=true :=
 postW_of (r:=l.row.toRowW) (X:=(true == true))
  (show WShape.has [] (.bool true) .bool=true by first | rfl | decide | simp [WShape.has,WShape.arms,WShape.armsAll])
  (show (WTm.eq .res (.lit (.bool true))).value [] { args:=args,res:=some (.bool true),after:=args }=some (.bool (true == true)) from w_eq_bool (w_res rfl) w_lit) rfl
def Ah {l:OpenLaw}{n:Nat}{q:Program}{loose:Us}{XP:(UE)->Heap->Prop}{YP:World->Heap->Prop}{d:DefRec}
  (hn:l.most=some n)(hdf:d.params.defaults=[])
  (call:∀ (w:World)(s₀ s₁:Shared)(mg mb:UE)(fa:Addr)(o:Obj)(pm cd doc:Value)(a:Addr)(vs:Ug)(ns:Ur),
   Ground q loose [] XP w s₀ mg mb s₁.heap->YP w s₁.heap ->
   s₁.heap.get? fa=some o->o.data=.func (docDef d.name d.params d.body d.scope pm cd doc)->s₁.heap.CodeRec cd d.name->mg d.name=some (.ref fa) ->
   s₁.heap.get? a=some { cls:=.type "list",data:=.seq vs.toArray }->IntsAre vs ns->ns.length<=n->s₁.gens=#[] ->
   codeAny (model l.prog w) callerA (.call (.ref fa) ⟨[.ref a],[]⟩) (fun r s'=>r=.ok (.ret (.bool true))/\OldK s₁.heap s'.heap/\s'.os=s₁.os/\AllBare s'.gens) s₁) :
  WalkO q loose XP YP l.row.toRowW d [] (fun f vs=>PySem.call f vs):=by
 intro w s₀ s₁ mg mb G Y fa o pm cd doc dV kV ho hd hcd hD hmg hg args vals as hpre hlay hrd hwl hlo;obtain rfl:dV=.none:=Dflts.none hD hdf;obtain rfl:kV=.none:=Dflts.noKw hD;obtain ⟨a,vs,ns,rfl,rfl,hobj,hints,hlen⟩:=C9 hn hpre hwl;refine enter_call (codeAny_mono (call w s₀ s₁ mg mb fa o pm cd doc a vs ns G Y ho (fd_plain hd) hcd hmg hobj hints hlen hg) fun r s' hq=>?_)
 obtain ⟨rfl,h2,h3,h4⟩:=hq;exact ⟨.inl ⟨.bool true,.bool true,[],rfl,fun _=>rfl,.bool true,EJ l _,fun _=>⟨List.Pairwise.nil,fun _ hm=>(nomatch hm)⟩⟩,h2,h3,h4⟩
section
variable {prog:Program}{w:World}{A:Around}{E:Tn}{s:Shared}{K:Frag}
end
end PJ
namespace L2
open PySem PySem.Spec PyProof.Rows
theorem wN:∀ {vs:Ug}{ns:Ur},IntsAre vs ns->Vals (ns.map V.int) vs
 | _,_,.nil=>.nil
 | _,_,.cons n t h=>.cons ⟨t,rfl⟩ (wN h)
def GI (H:Hp):Prop:=∀ b,H b=none\/∃ o xs,H b=some (.cJ o (.lst xs))
end L2
/- THE LAST THEOREM (shape;LID,My.* are yours):
   My.Adr: a structure of the addresses that your layer names (classes,functions);My.Txt K t: a structure (Prop) of the equations over K;
   My.txt_mk:{K} {implicit addresses ..}(e1:nsIn K mainGlobals "law"=some (some (.ref f)))(e2:K.lookup f=some ⟨oc,od,.func (fnOf "law" "law" params body scope dV kV doc pm an cdv ct),sl⟩)(e3:codeIn K cdv "law"=true) ..:∃ t,My.Txt K t
set_option maxRecDepth 100000 in
set_option maxHeartbeats 0 in
theorem PySem.Challenge.cw_LID_holds : PySem.Challenge.rw_LID.Holds := by
 w_on;o_law;k_head;(case hw=>w_witness2)
 k_fill
 refine L2.walk_of (l:=PySem.Challenge.rw_LID) (n:=63) (k:=40) (x:="script") (CX:=fun w=>..) (sp:=fun _=>My.sp_law) rfl (by decide) rfl ⟨rfl,by decide,by decide⟩ (fun w h Y=>PySem.W.kIn_of Y) ?F ?S ?C
 case F =>
  intro w mg fa h KX G hmg;have T:∃ t,My.Txt (L2.KOf KX) t:=by
   dsimp only [L2.KOf]                          -- K must stand as «<heap const> w.params» for k_is
   refine' My.txt_mk ?e1 ?e2 ?e3 ..
   (case e1=>PySem.W.k_is)                    -- in the order: a name -> its address -> its object -> its parts
   (case e2=>PySem.W.k_is)
   ..
  obtain ⟨t,T⟩:=T;have e0:=hmg.symm.trans (PySem.W.mg_of KX G T.law);cases e0                                       -- fa is the law's own address;exact ⟨_,fun s u=>.of_eq rfl,fun base kb nb=>My.law_fn T kb nb⟩     -- if «.of_eq rfl» comes too early: refine' ⟨_,?b,fun base kb nb=>My.law_fn T kb nb⟩;exact fun s u=>.of_eq rfl
 case S=>exact fun w H a ns hl hO hS=>..
 case C=>exact ..
(the tactic k_is has no namespace: write k_is) -/
namespace L2
open PySem PySem.Spec PyProof.Rows
def kW (s:Stmt):Arguments:=match s with
 | .FunctionDef _ a _ _ _ _ _ _ _ _=>a
 | _=>{ posonlyargs:=[],args:=[],vararg:=none,kwonlyargs:=[],kw_defaults:=[],kwarg:=none,defaults:=[] }
def iN (s:Stmt):Up:=match s with
 | .FunctionDef _ _ b _ _ _ _ _ _ _=>b
 | _=>[]
def ay (s:Stmt):Scope:=match s with
 | .FunctionDef _ _ _ _ _ _ sc _ _ _=>sc
 | _=>{ kind:=.function,names:=[],isGenerator:=false,isCoroutine:=false }
abbrev E0:XK:=fun _ _ _=>False
structure uu (K:UU) (x qual:Str)(st:Stmt)(f:Addr)(fd:FuncData):Prop where
 ex:∃ (oc:Value)(od:Ue)(kV doc pm:Value)(an:Ue)(cdv ct:Value)(osl:TN),
  fd=PySem.W.fnOf x qual (kW st) (iN st) (ay st) .none kV doc pm an cdv ct/\K.lookup f=some ⟨oc,od,.func fd,osl⟩/\PySem.W.codeIn K cdv qual=true
 kp:PySem.W.keepIn K (.ref f)=true
section
variable {P:Program}{w:World}{K:UU}{mg:UE}{base:Heap}
def uu.binds {x qual:Str}{st:Stmt}{f:Addr}{fd:FuncData}{ps:Us}(F:uu K x qual st f fd)
  (h:∀ (kV doc pm:Value)(an:Ue)(cdv ct:Value)(us:Ug),us.length=ps.length->bindArgs (PySem.W.fnOf x qual (kW st) (iN st) (ay st) .none kV doc pm an cdv ct) ⟨us,[]⟩=pure (ps.zip us)):Binds K fd ps []:=by
 obtain ⟨oc,od,kV,doc,pm,an,cdv,ct,osl,rfl,lk,hcd⟩:=F.ex;exact .all (h kV doc pm an cdv ct)
def Lv {x qual:Str}{st:Stmt}{f:Addr}{oc:Value}{od an:Ue}{osl:TN}{kV doc pm cdv ct:Value}(l:K.lookup f=some ⟨oc,od,.func (PySem.W.fnOf x qual (kW st) (iN st) (ay st) .none kV doc pm an cdv ct),osl⟩)
  (c:PySem.W.codeIn K cdv qual=true)(k:PySem.W.keepIn K (.ref f)=true):uu K x qual st f (PySem.W.fnOf x qual (kW st) (iN st) (ay st) .none kV doc pm an cdv ct):=⟨⟨oc,od,kV,doc,pm,an,cdv,ct,osl,rfl,l,c⟩,k⟩
end
section
variable {X:Cx}
def Fz:cQ X (.builtin "len") (fun xs H Q=>∃ a kvs,xs=[V.ref a]/\H a=some (.dK kvs)/\Q (.int kvs.length) H):=by
 intro pins s σ H xs us Q I r h;obtain ⟨a,kvs,rfl,ha,q⟩:=h;obtain ⟨u,rfl,ru⟩:=vals1 r;cases ru;exact O1 I (.inl ha) fun t s' I'=>⟨.int kvs.length,H,I',⟨t,rfl⟩,q⟩
end
def oO {A B:Prop}(h:B):if false=true then A else B:=by
 rw [if_neg RX];exact h
def pI {A B:Prop}(h:A):if true=true then A else B:=by
 rw [if_pos rfl];exact h
def aj (H H':Hp):Prop:=∀ b o,H b=some o->H' b=some o
def aj.refl (H:Hp):aj H H:=fun _ _ h=>h
def aj.trans {H H1 H2:Hp}(a:aj H H1)(b:aj H1 H2):aj H H2:=fun c o h=>b c o (a c o h)
def aj.free {H H':Hp}(e:aj H H'){l:Addr}(h:H' l=Option.none):H l=Option.none:=by
 cases q:H l with
 | none=>rfl
 | some o =>
  rw [e l o q] at h;cases h
section
variable {κ:Type} [DecidableEq κ]
end
def cu (cells:List (Str×Addr)):List (Str×NameKind)->List (Str×Addr)->List (Str×Addr)
 | [],acc=>acc
 | (n,k)::r,acc=>cu cells r (if (k == NameKind.free)=true then (n,(cells.lookup n).getD 0)::acc else acc)
theorem nC {c:Addr}:∀ (names:List (Str×NameKind))(acc:List (Str×Addr)),(cu cells names acc).lookup y=some c ->
  ((y,NameKind.free)∈names/\(cells.lookup y).getD 0=c)\/acc.lookup y=some c
 | [],_,h=>.inr h
 | (n,k)::r,acc,h=>by
  rcases nC r _ h with ⟨a,b⟩ | z
  ·exact .inl ⟨RG _ a,b⟩
  ·clear h
   by_cases e:(k == NameKind.free)=true
   ·rw [if_pos e] at z;rw [SD] at z;cases q:(y == n) with
    | true =>
     rw [q] at z;have ek:k=NameKind.free:=by simpa using e
     have en:y=n:=by simpa using q
     subst ek en;exact .inl ⟨RA,Option.some.inj z⟩
    | false =>
     rw [q] at z;exact .inr z
   ·rw [if_neg e] at z;exact .inr z
theorem fN:∀ (names:List (Str×NameKind))(acc:List (Str×Addr)),((y,NameKind.free)∈names\/∃ c,acc.lookup y=some c)->∃ c,(cu cells names acc).lookup y=some c
 | [],_,h=>by
  rcases h with h | h
  ·cases h
  ·exact h
 | (n,k)::r,acc,h=>by
  refine fN r _ ?_;rcases h with h | ⟨c,h⟩
  ·rcases RJ.mp h with e | h
   ·cases e;refine .inr ⟨(cells.lookup y).getD 0,?_⟩;rw [if_pos (by decide),SD,beq_self_eq_true]
   ·exact .inl h
  ·by_cases e:(k == NameKind.free)=true
   ·rw [if_pos e,SD];cases q:(y == n) with
    | true=>exact .inr ⟨_,rfl⟩
    | false=>exact .inr ⟨c,h⟩
   ·rw [if_neg e];exact .inr ⟨c,h⟩
def mR (h:∀ n,(n,NameKind.free)∈scope.names->∃ c,env.cells.lookup n=some c):closureFor scope env=pure (cu env.cells scope.names []):=by
 have key:∀ (names:List (Str×NameKind))(cs:List (Str×Addr)),(∀ n,(n,NameKind.free)∈names->∃ c,env.cells.lookup n=some c) ->
   (forIn names cs fun (x:Str×NameKind)(r:List (Str×Addr))=>(if (x.2 == NameKind.free)=true then (cellOf env x.1 >>= fun a=>pure (ForInStep.yield ((x.1,a)::r))) else pure (ForInStep.yield r):Sem _))=pure (cu env.cells names cs):=by
  intro names
  induction names with
  | nil=>intro cs _;rfl
  | cons p r ih =>
   intro cs hp;obtain ⟨n,k⟩:=p;rw [List.forIn_cons]
   by_cases e:(k == NameKind.free)=true
   ·have ek:k=NameKind.free:=by simpa using e
    obtain ⟨c,hc⟩:=hp n (by rw [ek];exact RA)
    rw [if_pos e];have e2:cellOf env n=pure c:=by unfold cellOf;rw [hc]
    show ((cellOf env n >>= fun a=>pure (ForInStep.yield ((n,a)::cs))) >>= _)=_
    rw [e2];show (forIn r ((n,c)::cs) _:Sem _)=_;rw [ih _ fun n' h'=>hp n' (RG _ h')]
    show _=pure (cu env.cells r (if (k == NameKind.free)=true then (n,(env.cells.lookup n).getD 0)::cs else cs))
    rw [if_pos e,hc];rfl
   ·rw [if_neg e];show (forIn r cs _:Sem _)=_;rw [ih _ fun n' h'=>hp n' (RG _ h')]
    show _=pure (cu env.cells r (if (k == NameKind.free)=true then (n,(env.cells.lookup n).getD 0)::cs else cs))
    rw [if_neg e]
 unfold closureFor;have e:=key scope.names [] h;show ((forIn scope.names [] fun (x:Str×NameKind)(r:List (Str×Addr))=>(if (x.2 == NameKind.free)=true then (cellOf env x.1 >>= fun a=>pure (ForInStep.yield ((x.1,a)::r))) else pure (ForInStep.yield r):Sem _)) >>= fun r=>pure r)=_
 rw [e];rfl
theorem dO {α:Type}{y:Str}{k:α}:∀ {l:List (Str×α)},l.lookup y=some k->(y,k)∈l
 | [],h=>by cases h
 | (n,j)::r,h=>by
  rw [SD] at h;cases q:(y == n) with
  | true =>
   rw [q] at h;have en:y=n:=by simpa using q
   cases h;rw [en];exact RA
  | false =>
   rw [q] at h;exact RG _ (dO h)
theorem oX {env:Env}{x:Str}{k:NameKind}:∀ {names:List (Str×NameKind)},names.lookup x=some k ->
  (relabel { (default:Scope) with names:=names } env).names.lookup x=some k\/(k=.free/\(relabel { (default:Scope) with names:=names } env).names.lookup x=some .cell)
 | [],h=>by cases h
 | (n,j)::r,h=>by
  have ih:=@oX env x k r;rw [SD] at h;show List.lookup x ((if (j == NameKind.free && env.scope.kind == .function && env.kindOf n == some .cell)=true then (n,NameKind.cell) else (n,j))::_)=_\/(_/\List.lookup x ((if (j == NameKind.free && env.scope.kind == .function && env.kindOf n == some .cell)=true then (n,NameKind.cell) else (n,j))::_)=_)
  cases q:(x == n) with
  | true =>
   rw [q] at h;cases h
   by_cases e:(k == NameKind.free && env.scope.kind == .function && env.kindOf n == some .cell)=true
   ·rw [if_pos e,SD,q];refine .inr ⟨?_,rfl⟩;have z:=(RK _ _ ▸ (RK _ _ ▸ e).1:_/\_).1
    simpa using z
   ·rw [if_neg e,SD,q];exact .inl rfl
  | false =>
   rw [q] at h
   by_cases e:(j == NameKind.free && env.scope.kind == .function && env.kindOf n == some .cell)=true
   ·rw [if_pos e,SD,q];exact ih h
   ·rw [if_neg e,SD,q];exact ih h
theorem sZ {env:Env}{x:Str}{k:NameKind}:∀ {names:List (Str×NameKind)},(relabel { (default:Scope) with names:=names } env).names.lookup x=some k->names.lookup x=some k\/(names.lookup x=some .free/\k=.cell)
 | [],h=>by cases h
 | (n,j)::r,h=>by
  have ih:=@sZ env x k r;have h:List.lookup x ((if (j == NameKind.free && env.scope.kind == .function && env.kindOf n == some .cell)=true then (n,NameKind.cell) else (n,j))::(relabel { (default:Scope) with names:=r } env).names)=some k:=h
  rw [SD];cases q:(x == n) with
  | true =>
   by_cases e:(j == NameKind.free && env.scope.kind == .function && env.kindOf n == some .cell)=true
   ·rw [if_pos e,SD,q] at h;cases h;have z:=(RK _ _ ▸ (RK _ _ ▸ e).1:_/\_).1;exact .inr ⟨by simpa using z,rfl⟩
   ·rw [if_neg e,SD,q] at h;exact .inl h
  | false =>
   by_cases e:(j == NameKind.free && env.scope.kind == .function && env.kindOf n == some .cell)=true
   ·rw [if_pos e,SD,q] at h;exact ih h
   ·rw [if_neg e,SD,q] at h;exact ih h
def caps (ix:Uq)(σ:St):St:=ix.map fun i=>(σ[i]?).join
def Cx.block (X:Cx)(scope:Scope)(C:Addr)(NB:Us)(s2:Shared)(H2:Hp)(fp:Uh):Cx :=
 { X with N:=NB,s₀:=s2,H₀:=H2,env:=compEnvC scope (cu X.env.cells scope.names []) C X.env,outer:=X.stack,ex:=fp,fn:=fun _=>false,pn:=[],xe:=fun _ _=>False }
def oB (X:Cx)(ifs:Ul)(t:TT):Prop :=
 ∀ (pins:UG)(s:Shared)(σ:St)(H:Hp)(Q:Bool->Hp->Prop),Inv X pins σ H s->t σ H Q ->
  wpAny (model X.prog X.w) X.A (forIn ifs true fun c r=>if r=true then do let ok <- isTrue c X.env (eval c X.env);pure (ForInStep.yield ok) else pure (ForInStep.yield r)) (TP X pins σ Q) X.xe s
def P0:TT:=fun _ H Q=>Q true H
def J8:oB X [] P0:=fun _ _ _ H _ I h=>wpAny_tests_nil ⟨H,I,h⟩
def Jv (h:PT X c t):oB X [c] t:=fun pins s σ H Q I hw=>wpAny_tests_one (h pins s σ H Q I hw)
abbrev dU (its:Ug) (n:Nat):Obj:={ cls:=.type "list",data:=.seq its.toArray n }
section
variable {X:Cx}{scope:Scope}{x:Str}{NB:Us}{ix:Uq}{pins:UG}{σ:St}{H2:Hp}{s2:Shared}{fp:Uh}
def yH (ix:Uq)(σ:St):(caps ix σ).length=ix.length:=by unfold caps;rw [RD]
end
section
variable {X:Cx}{scope:Scope}{x:Str}{NB:Us}{ix:Uq}{pins:UG}{σ:St}{H2:Hp}{s2:Shared}{fp:Uh}
def Dw {C D:Addr}{n:Nat}(I2:Inv X pins σ H2 s2)(f2:∀ b∈fp,dY X pins H2 b)(hD:s2.heap.objs.size<=D)
  (I4:Inv (X.block scope C NB s2 H2 fp) [(D,dU its n)] σB H' s4)(rv:Vals ys its)(hz:ys.length<=sizeLine):Inv X pins σ (upd H' D (.lst ys)) s4:=by
 have hp:=I4.pin (D,dU its n) (by show _∈[]++[(D,dU its n)];simp)
 have hfree:H' D=none:=hp.2.1;have neD:∀ b o,s2.heap.get? b=some o->b≠D:=fun b o e=>RQ (RY (RL e) hD)
 have neT:∀ b o,H2 b=some o->b≠D:=fun b o e=>RQ (RY (I2.hok.lt e) hD)
 have u:Un (frs X.stack) fp H2 H' s2.heap s4.heap:=I4.base;refine I2.CG (ch:=fp) I4.os ⟨u.keep,u.slot,fun b o e n hx=>?_,u.there,fun b xs e=>?_,fun b o v e=>?_,fun b ps e=>?_⟩ (fun b o e=>?_) I4.bare fun b hb=>?_
 ·rw [ao (neD b o e)];exact u.free b o e n hx
 ·rw [ao (neT b _ e)];exact u.tups b xs e
 ·rw [ao (neT b _ e)];exact u.kG b o v e
 ·rw [ao (neT b _ e)];exact u.lE b ps e
 ·by_cases hb:b=D
  ·subst hb;rw [aL] at e;cases e;exact ⟨hz,its,n,rv,hp.1⟩
  ·rw [ao hb] at e;have ne:∀ {c:Addr}{w:HO},H' c=some w->c≠D:=fun {c w} q z=>by rw [z,hfree] at q;cases q
   exact (I4.hok b o e).stay (fun _ _ _ q=>q) (fun c q=>by rw [ao (ne q)];exact q) fun c xs q=>by rw [ao (ne q)];exact q
 ·obtain ⟨_,g1,g2,g3,g4,g5⟩:=f2 b hb;exact ⟨g3,g1,g4,g5⟩
end
end L2
namespace L2
open PySem PySem.Spec PyProof.Rows PySem.W
def pZ (a C:Addr)(dd:Ue):Heap->Prop:=fun h=>∃ (t0:Addr)(v1 v2 v3 v4 v5:Value)(sl:TN),h.get? a=some ⟨.ref C,dd,.fields #[.ref t0,v1,v2,v3,v4,v5],sl⟩
def D0 {a C:Addr}(x:pZ a C dd h):bO P w H h a (.ext (pZ a C dd)):=by
 obtain ⟨t0,v1,v2,v3,v4,v5,sl,e⟩:=id x;exact ⟨x,⟨_,e⟩,fun h1 h2 ⟨t0,v1,v2,v3,v4,v5,sl,e⟩ k=>⟨t0,v1,v2,v3,v4,v5,sl,k _ e⟩⟩
def six (newId:String)(l:List (UZ)):Bool:=l.length == 6 && (match (l[4]?:Option (UZ)) with | some (some (Value.builtin n))=>n == newId | _=>false)
def BB (K:Frag)(C:Addr)(bmB:Ug):Ug->Bool
 | .ref C'::bm=>C' == C && tailIn K bmB bm
 | _=>false
def f7 (K:Frag)(C:Addr)(bmB:Ug)(newId:String)(r:UZ):Bool:=match K.lookup C with
 | some ob=>(match ob.cls with | .type t=>t == "type" | _=>false) && (match ob.data with
  | .cls cd=>(BB K C bmB cd.mro && six newId ob.slots.toList) && !cd.hasDel && (nsOkIn K cd.ns && nsIn K cd.ns "__init__" == some r)
  | _=>false)
 | none=>false
def MO (h:six newId l=true):∃ k0 k1 k2 k3 k5,l=[k0,k1,k2,k3,some (.builtin newId),k5]:=by
 unfold six at h;rw [RK] at h;obtain ⟨h1,h2⟩:=h;have h1:l.length=6:=eq_of_beq h1;rcases l with _ | ⟨k0,_ | ⟨k1,_ | ⟨k2,_ | ⟨k3,_ | ⟨k4,_ | ⟨k5,_ | ⟨k6,l⟩⟩⟩⟩⟩⟩⟩
 case cons.cons.cons.cons.cons.cons.nil =>
  cases k4 with
  | none=>cases h2
  | some v =>
   cases v with
   | builtin n=>exact ⟨k0,k1,k2,k3,k5,by rw [show n=newId from eq_of_beq h2]⟩
   | _=>cases h2
 case cons.cons.cons.cons.cons.cons.cons=>cases h1
 all_goals cases h1
def CA {K:Frag}{C:Addr}{bmB l:Ug}(h:BB K C bmB l=true):∃ bm,l=.ref C::bm/\tailIn K bmB bm=true:=by
 cases l with
 | nil=>cases h
 | cons v bm =>
  cases v with
  | ref a =>
   have h:(a == C && tailIn K bmB bm)=true:=h;rw [RK] at h;exact ⟨bm,by rw [show a=C from eq_of_beq h.1],h.2⟩
  | _=>cases h
structure Qy (C:Addr)(bmB:Ug)(newId:String)(r:UZ)(h:Heap):Prop where
 obj:∃ bm N nm q bs hdct sn sub ab col dd k0 k1 k2 k3 k5 mN,h.get? C=some (excClassObj nm q C N bs bm hdct sn sub ab col dd k0 k1 k2 k3 k5 newId)/\h.Ns N mN/\mN "__init__"=r/\OwnTail h bmB bm
def BL {K:Frag}{h:Heap}{N:Addr}{mg:UE}(X:K.In h)(G:h.Ns N mg)(e:nsIn K N n=some r):mg n=r:=by
 obtain ⟨o,es,ep,ho,hd,_,hf⟩:=G;unfold nsIn at e;split at e
 ·rename_i c d es' n' sl q;have z:=X _ _ q;rw [ho] at z;cases z;cases hd;split at e
  ·rename_i en he;rw [<- hf];unfold nsFind findBy;rw [<- Array.find?_toList,he]
   first
    | (cases e;rfl)
    | (split at e <;> cases e <;> rfl)
  ·rename_i he;rw [<- hf];unfold nsFind findBy;rw [<- Array.find?_toList,he];split at e
   ·cases e
   ·cases e;rfl
 ·cases e
def J1 {K:Frag}{C:Addr}(X:K.In h)(q:f7 K C bmB newId r=true):Qy C bmB newId r h:=by
 unfold f7 at q;cases ho:K.lookup C with
 | none =>
  rw [ho] at q;cases q
 | some ob =>
  rw [ho] at q;obtain ⟨cls,dd,data,sl⟩:=ob;dsimp only at q;rw [RK] at q;obtain ⟨q0,q⟩:=q;have hc:cls=.type "type":=by
   cases cls with
   | type t=>exact congrArg Value.type (eq_of_beq q0)
   | _=>cases q0
  subst hc;cases data with
  | cls cd =>
   dsimp only at q;rw [RK,RK,RK,RK] at q;obtain ⟨⟨⟨q1,q2⟩,hdel⟩,hok,hni⟩:=q;obtain ⟨bm,hm,ht⟩:=CA q1;obtain ⟨l⟩:=sl;obtain ⟨k0,k1,k2,k3,k5,hs⟩:=MO q2;have hs:l=_:=hs;obtain ⟨nm,bs,mro,ns,qn,hd,sn,sub,ab,col,del⟩:=cd;dsimp only at hm hdel hok hni;have hdel:del=false:=by cases del <;> first | rfl | cases hdel
   have hni:=eq_of_beq hni;subst hm hdel hs;have G:h.Ns ns (h.nsMap ns):=.of_isNs (isNs_of_in X hok);exact ⟨bm,ns,nm,qn,bs,hd,sn,sub,ab,col,dd,k0,k1,k2,k3,k5,_,X _ _ ho,G,BL X G hni,tail_of_in X ht⟩
  | _=>cases q
def Gz {a:Addr}(x:bO P w H h a o):∃ ob,h.get? a=some ob:=by
 cases o with
 | lst xs=>obtain ⟨_,_,_,_,e⟩:=x;exact ⟨_,e⟩
 | tup xs=>obtain ⟨_,_,_,ob,e,_⟩:=x;exact ⟨_,e⟩
 | dK kvs=>obtain ⟨_,_,_,_,ob,_,_,e,_⟩:=x;exact ⟨_,e⟩
 | dT kvs=>obtain ⟨_,_,_,_,ob,_,_,e,_⟩:=x;exact ⟨_,e⟩
 | set S n=>obtain ⟨ob,_,_,_,e,_⟩:=x;exact ⟨_,e⟩
 | ins C dx fs=>obtain ⟨_,_,_,e,_⟩:=x;exact ⟨_,e⟩
 | own y=>exact x
 | xd fs=>obtain ⟨_,⟨od,_,_,e,_⟩,_⟩:=x;exact ⟨_,e⟩
 | sj lo hi=>obtain ⟨_,_,_,e⟩:=x;exact ⟨_,e⟩
 | cJ ob u=>obtain ⟨e,_⟩:=x;exact ⟨_,e⟩
 | v9 ps=>exact ⟨_,x⟩
 | met f y=>exact ⟨_,x⟩
 | ext φ=>obtain ⟨_,e,_⟩:=x;exact e
section
variable {X:Cx}{pins:UG}{σ:St}{H:Hp}{s:Shared}{h':Heap}
def Inv.kZ (I:Inv X pins σ H s){a:Addr}(hn:s.heap.get? a=none):H a=none:=by
 cases z:H a with
 | none=>rfl
 | some o =>
  obtain ⟨ob,e⟩:=Gz (I.hok a o z);rw [hn] at e;cases e
def Inv.Cf {a:Addr}{t':Nat}(I:Inv X pins σ H s)(k:∀ b u,s.heap.get? b=some u->h'.get? b=some u)(hn:s.heap.get? a=none)(new:bO X.prog X.w (upd H a o) h' a o) :
  Inv X pins σ (upd H a o) { s with heap:=h',toks:=t' }:=by
 have hf:=I.kZ hn;have neA:∀ b u,s.heap.get? b=some u->b≠a:=fun b u e z=>by rw [z,hn] at e;cases e
 have neT:∀ b u,H b=some u->b≠a:=fun b u e z=>by rw [z,hf] at e;cases e
 refine I.un ⟨fun b u e _ _ _=>k b u e,fun b u e _ _ _=>⟨u.slots,k b u e⟩,fun b u e n _=>by rw [ao (neA b u e)];exact n,fun b u e _=>⟨u,k b u e⟩,fun b xs e=>by rw [ao (neT b _ e)];exact e,
  fun b u v e=>by rw [ao (neT b _ e)];exact e,fun b ps e=>⟨#[],by rw [ao (neT b _ e),e];simp⟩⟩ fun b u e=>?_
 by_cases hb:b=a
 ·subst hb;rw [aL] at e;cases e;exact new
 ·rw [ao hb] at e;exact (I.hok b u e).stay (fun c v _ q=>k c v q) (fun c q=>by rw [ao (neT c _ q)];exact q) fun c xs q=>by rw [ao (neT c _ q)];exact q
end
abbrev uh:Ug:=[.type "ValueError",.type "Exception",.type "BaseException",.type "object"]
section
variable {X:Cx}{x:Str}{p pos:Pos}{e:Expr}{es:Ul}{t:TA}{C:Addr}
variable {CX:mU}{k:Nat}{f:Addr}{fd:FuncData}{ps:Us}{sp:Sp}{E:XK}
end
end L2
namespace L2
open PySem PySem.Spec PyProof.Rows
section
variable {X:Cx}
theorem Ba:∀ {xs:List V}{us:Ug},Vals xs us->∀ (i:Nat)(u:Value),us[i]?=some u->∃ x,xs[i]?=some x/\RelV x u
 | _,_,.nil,i,u,h=>by cases h
 | _,_,.cons h r,0,u,e=>by
  cases e;exact ⟨_,rfl,h⟩
 | _,_,.cons h r,i + 1,u,e=>Ba r i u e
end
end L2
namespace L2
open PySem PySem.Spec PyProof.Rows PySem.SeqAt PySem.W
mutual
inductive mD (K:UU)(H:Hp):V->PyData->Prop
 | bF:mD K H .bF .none
 | bl (b:Bool):mD K H (.bl b) (.bool b)
 | int (i:Int):mD K H (.int i) (.int i)
 | str (x:Str):mD K H (.str x) (.str x)
 | lst {a:Addr}{xs:List V}{ds:Ub}:bT K H a xs->tO K H xs ds->mD K H (.ref a) (.list ds)
 | tup {a:Addr}{xs:List V}{ds:Ub}:cP K H a xs->tO K H xs ds->mD K H (.ref a) (.tuple ds)
inductive tO (K:UU)(H:Hp):List V->Ub->Prop
 | nil:tO K H [] []
 | cons {x:V}{d:PyData}{xs:List V}{ds:Ub}:mD K H x d->tO K H xs ds->tO K H (x::xs) (d::ds)
end
section
variable {X:Cx}{pins:UG}{σ:St}{H:Hp}{s:Shared}
mutual
theorem Inv.reads (I:Inv X pins σ H s):∀ {v:V}{d:PyData}{u:Value},mD X.K H v d->RelV v u->∃ as,Reads s.heap u d as
 | _,_,_,.bF,r=>by cases r;exact ⟨_,.none⟩
 | _,_,_,.bl b,r=>by cases r;exact ⟨_,.bool b⟩
 | _,_,_,.int i,r=>by obtain ⟨t,rfl⟩:=r;exact ⟨_,.int i t⟩
 | _,_,_,.str x,r=>by obtain ⟨t,rfl⟩:=r;exact ⟨_,.str x t⟩
 | _,_,_,.lst hq hs,r=>by
  cases r;obtain ⟨its,rv,p,_⟩:=I.list hq;obtain ⟨as,ra⟩:=I.readsAll hs rv;obtain ⟨o,ho,hc,n,hd⟩:=p.isList;exact ⟨_,.list ho hc hd (by simpa using ra)⟩
 | _,_,_,.tup hq hs,r=>by
  cases r;obtain ⟨its,rv,p,_⟩:=I.tuple hq;obtain ⟨as,ra⟩:=I.readsAll hs rv;obtain ⟨o,ho,hc,n,hd⟩:=(show s.heap.IsTuple _ its.toArray from p)
  exact ⟨_,.tuple ho hc hd (by simpa using ra)⟩
theorem Inv.readsAll (I:Inv X pins σ H s):∀ {vs:List V}{ds:Ub}{us:Ug},tO X.K H vs ds->Vals vs us->∃ as,ReadsAll s.heap us ds as
 | _,_,_,.nil,r=>by cases r;exact ⟨_,.nil⟩
 | _,_,_,.cons h hs,r=>by
  cases r with
  | cons r1 r2 =>
   obtain ⟨as,ra⟩:=I.reads h r1;obtain ⟨bs,rb⟩:=I.readsAll hs r2;exact ⟨_,.cons ra rb⟩
end
inductive II (K:UU)(neg:Bool) (x:V) (y:V)(H:Hp)(Q:VK):Prop
 | mk:∀ d e,(mD K H x d)->(mD K H y e)->(shaped d=true)->(shaped e=true)->(noMix d e=true)->(Q (.bl (if neg then !same d e else same d e)) H)->II K neg x y H Q
def GV (K:UU)(neg:Bool):R2:=fun x y H Q=>II K neg x y H Q
def NF (hu:X.A.units + 64 < cLine):bX X (compareOp .Eq) (GV X.K false):=by
 intro pins s σ H x y v u Q I rx ry h;obtain ⟨d,e,h1,h2,s1,s2,nm,q⟩:=h;obtain ⟨as,ra⟩:=I.reads h1 rx;obtain ⟨bs,rb⟩:=I.reads h2 ry;exact eq_dataH_same ra rb s1 s2 hu nm ⟨.bl _,H,I,rfl,q⟩
def Nv (hu:X.A.units + 64 < cLine):bX X (compareOp .NotEq) (GV X.K true):=by
 intro pins s σ H x y v u Q I rx ry h;obtain ⟨d,e,h1,h2,s1,s2,nm,q⟩:=h;obtain ⟨as,ra⟩:=I.reads h1 rx;obtain ⟨bs,rb⟩:=I.reads h2 ry;exact ne_dataH_same ra rb s1 s2 hu nm ⟨.bl _,H,I,rfl,q⟩
end
end L2
namespace L2
open PySem PySem.Spec PyProof.Rows
section
variable {prog:Program}{w:World}{A:Around}{E:Tn}{s:Shared}
end
section
variable {X:Cx}{e:Expr}{te:TE}
def ET (hc:X.calm=true):cQ X (.builtin "all") (fun xs H Q=>∃ (a:Addr)(bs:Uk),xs=[.ref a]/\bT X.K H a (bs.map V.bl)/\Q (.bl (bs.all id)) H):=by
 intro pins s σ H xs us Q I r h;obtain ⟨a,bs,rfl,hq,q⟩:=h;obtain ⟨u,rfl,ru⟩:=vals1 r;cases ru;obtain ⟨its,rv,p,_⟩:=I.list hq;have hl:=p.isList;have hlt:a < s.heap.objs.size:=by
  obtain ⟨o,ho,_⟩:=id hl;exact RL ho
 have hh:X.A.in1.handled=none:=by simp [I.ok.hd hc]
 refine call_all_walk (wpAny_pyIter_list hl ?_);refine ⟨_,_,_,_,_,_,fun i=>bs.getD i false,rfl,Walks.list hh _ a (RQ hlt) its.toArray,⟨⟨_,Rx _ rfl,rfl,rfl⟩,hl.push _⟩,fun i v s' Q' E' hP hQ=>?_,fun h' tk hk=>?_⟩
 ·have hP':its[i]?=some v:=by simpa using hP
  obtain ⟨x,hx,rx⟩:=Ba rv i v hP';rw [RN] at hx;cases e:bs[i]? with
  | none=>rw [e] at hx;cases hx
  | some b =>
   rw [e] at hx;cases hx;cases rx;have e2:bs.getD i false=b:=by rw [Sk,e];rfl
   dsimp only at hQ;rw [e2] at hQ;exact Sw hQ
 ·have kp:∀ b o,s.heap.get? b=some o->h'.get? b=some o:=fun b o hb=>hk b o (by
   have:=RL hb;simp only [RH];exact RQ this) (RO _ hb)
  have len:its.toArray.size=bs.length:=by rw [RV,<- rv.length,RD]
  refine ⟨.bl _,H,I.kept (t':=tk) kp,rfl,?_⟩;have e:(List.range its.toArray.size).all (fun i=>bs.getD i false)=bs.all id:=by
   rw [len];rw [Su,RP,RP];constructor
   ·intro h b hb;obtain ⟨i,hi⟩:=UA hb;have:=h i (Ro.mpr (Te.mp hi).1);rw [Sk,hi] at this;exact this
   ·intro h i hi;have hi':=Ro.mp hi;rw [Sk,RS hi'];exact h _ (UB hi')
  rw [e];exact q
end
end L2
namespace L2
open PySem PySem.Spec PyProof.Rows PySem.W Builtin Builtin.ObjectAttr
section
variable {prog:Program}{w:World}{A:Around}{E:Tn}{s:Shared}{K:Frag}{x C:Addr}{ox:Obj}{od:Option Obj}{name:Str}{v:Value}{tk:Tok}{fill expr:Bool}
end
section
variable {X:Cx}{pins:UG}{σ:St}{H:Hp}{s:Shared}{a C:Addr}
end
section
variable {X:Cx}{pins:UG}{σ:St}{H:Hp}{s:Shared}{a C:Addr}{dd:Ue}
def Ht:cQ X (.builtin "isinstance") (fun xs H Q=>∃ x c t b,xs=[x,c]/\gU X.K H x t/\(∀ u,RelV c u->kitOne X.K t u=some b)/\Q (.bl b) H):=by
 intro pins s σ H xs us Q I r h;obtain ⟨x,c,t,b,rfl,ty,k,q⟩:=h;obtain ⟨u1,u2,rfl,ru1,ru2⟩:=r.two;exact FN I ru1 ty (k u2 ru2) fun tk=>⟨.bl b,H,I.tok tk,rfl,q⟩
variable {o e value:Expr}{f y:Str}{pos pos' yp apos:Pos}{ta tv:TE}{es:Ul}{t:TA}
end
end L2
namespace L2
open PySem PySem.Spec PyProof.Rows
def bZ {a:Addr}(h:H a=none):aj H (upd H a o):=fun b u e=>by rw [ao (gI e h)];exact e
end L2
namespace Dv
open PySem L2 PySem.W
def bq:Key->PyData
 | .inl i=>.int i
 | .inr x=>.str x
def cG (K:Frag)(H:Hp)(a:Addr)(xs:List V):Prop:=Rd H a (.lst xs)\/∃ (its:Ug) (n:Nat),K.lookup a=some { cls:=.type "list",data:=.seq its.toArray n }/\its.length<=sizeLine/\Vals xs its
def Rd.mono {a:Addr}(s:aj H H'):Rd H a u->Rd H' a u
 | .inl h=>.inl (s _ _ h)
 | .inr ⟨o,h⟩=>.inr ⟨o,s _ _ h⟩
theorem cG.mono {a:Addr}(s:aj H H'):cG K H a xs->cG K H' a xs
 | .inl h=>.inl (Rd.mono s h)
 | .inr h=>.inr h
def cG.sq {a:Addr}(h:cG K H a xs):bT K H a xs:=by
 rcases h with h | ⟨its,n,hk,hl,r⟩
 ·exact .inl h
 ·exact .inr ⟨_,its.toArray,n,hk,rfl,rfl,rfl,by rw [RV];exact hl,by simpa using r⟩
theorem cG.get {a:Addr}(I:L2.Inv X pins σ H s)(h:cG X.K H a xs):xs.length<=sizeLine/\∃ its n,Vals xs its/\s.heap.get? a=some { cls:=.type "list",data:=.seq its.toArray n }:=by
 rcases h with h | ⟨its,n,hk,hl,r⟩
 ·obtain ⟨z,its,n,r,e⟩:=h.ok I.hok;exact ⟨z,its,n,r,e⟩
 ·exact ⟨by rw [r.length];exact hl,its,n,r,I.iU a _ hk⟩
mutual
inductive Rp (K:Frag)(H:Hp):V->PyData->Prop
 | bF:Rp K H .bF .none
 | bl (b:Bool):Rp K H (.bl b) (.bool b)
 | int (i:Int):Rp K H (.int i) (.int i)
 | str (x:Str):Rp K H (.str x) (.str x)
 | lst {a:Addr}{xs:List V}{ds:Ub}:cG K H a xs->aG K H xs ds->Rp K H (.ref a) (.list ds)
 | tup {a:Addr}{xs:List V}{ds:Ub}:H a=some (.tup xs)->aG K H xs ds->Rp K H (.ref a) (.tuple ds)
 | dk {a:Addr}{kvs:List (Key×V)}{ds:TH}:H a=some (.dK kvs)->fG K H kvs ds->Rp K H (.ref a) (.dict ds)
 | dt {a:Addr}{kvs:List (List Key×V)}{ds:TH}:H a=some (.dT kvs)->fm K H kvs ds->Rp K H (.ref a) (.dict ((.none,.none)::ds))
inductive aG (K:Frag)(H:Hp):List V->Ub->Prop
 | nil:aG K H [] []
 | cons {x:V}{d:PyData}{xs:List V}{ds:Ub}:Rp K H x d->aG K H xs ds->aG K H (x::xs) (d::ds)
inductive fG (K:Frag)(H:Hp):List (Key×V)->List (PyData×PyData)->Prop
 | nil:fG K H [] []
 | cons {k:Key}{v:V}{d:PyData}{kvs:List (Key×V)}{ds:TH}:Rp K H v d->fG K H kvs ds->fG K H ((k,v)::kvs) ((bq k,d)::ds)
inductive fm (K:Frag)(H:Hp):List (List Key×V)->List (PyData×PyData)->Prop
 | nil:fm K H [] []
 | cons {k:List Key}{v:V}{d:PyData}{kvs:List (List Key×V)}{ds:TH}:Rp K H v d->fm K H kvs ds->fm K H ((k,v)::kvs) ((.tuple (k.map bq),d)::ds)
end
mutual
theorem Rp.mono (s:aj H H'):∀ {v:V}{d:PyData},Rp K H v d->Rp K H' v d
 | _,_,.bF=>.bF
 | _,_,.bl b=>.bl b
 | _,_,.int i=>.int i
 | _,_,.str x=>.str x
 | _,_,.lst h r=>.lst (cG.mono s h) (r.mono s)
 | _,_,.tup h r=>.tup (s _ _ h) (r.mono s)
 | _,_,.dk h r=>.dk (s _ _ h) (r.mono s)
 | _,_,.dt h r=>.dt (s _ _ h) (r.mono s)
theorem aG.mono (s:aj H H'):∀ {vs:List V}{ds:Ub},aG K H vs ds->aG K H' vs ds
 | _,_,.nil=>.nil
 | _,_,.cons h r=>.cons (h.mono s) (r.mono s)
theorem fG.mono (s:aj H H'):∀ {kvs:List (Key×V)}{ds:TH},fG K H kvs ds->fG K H' kvs ds
 | _,_,.nil=>.nil
 | _,_,.cons h r=>.cons (h.mono s) (r.mono s)
theorem fm.mono (s:aj H H'):∀ {kvs:List (List Key×V)}{ds:TH},fm K H kvs ds->fm K H' kvs ds
 | _,_,.nil=>.nil
 | _,_,.cons h r=>.cons (h.mono s) (r.mono s)
end
def nd:PyData->Bool
 | .list ds=>nds ds
 | .tuple ds=>nds ds
 | .dict _=>false
 | _=>true
where nds:Ub->Bool
 | []=>true
 | d::ds=>nd d && nds ds
mutual
theorem Rp.qq:∀ {v:V}{d:PyData},Rp K H v d->nd d=true->mD K H v d
 | _,_,.bF,_=>.bF
 | _,_,.bl b,_=>.bl b
 | _,_,.int i,_=>.int i
 | _,_,.str x,_=>.str x
 | _,_,.lst h r,e=>.lst h.sq (r.qq (by rw [nd] at e;exact e))
 | _,_,.tup h r,e=>.tup (cP.of h) (r.qq (by rw [nd] at e;exact e))
 | _,_,.dk _ _,e=>by rw [nd] at e;cases e
 | _,_,.dt _ _,e=>by rw [nd] at e;cases e
theorem aG.qq:∀ {vs:List V}{ds:Ub},aG K H vs ds->nd.nds ds=true->tO K H vs ds
 | _,_,.nil,_=>.nil
 | _,_,.cons h r,e=>by
  rw [nd.nds,RK] at e;exact .cons (h.qq e.1) (r.qq e.2)
end
def mZ (H H':Hp):Prop:=∀ a xs,H a=some (.tup xs)->H' a=some (.tup xs)
mutual
theorem Rp.lf (s:mZ H H'):∀ {v:V}{d:PyData},Rp K H v d->Dv.lf d=true->Rp K H' v d
 | _,_,.bF,_=>.bF
 | _,_,.bl b,_=>.bl b
 | _,_,.int i,_=>.int i
 | _,_,.str x,_=>.str x
 | _,_,.lst h r,e=>by rw [Dv.lf] at e;cases e
 | _,_,.tup h r,e=>by
  rw [Dv.lf] at e;exact .tup (s _ _ h) (r.lf s e)
 | _,_,.dk _ _,e=>by rw [Dv.lf] at e;cases e
 | _,_,.dt _ _,e=>by rw [Dv.lf] at e;cases e
theorem aG.lf (s:mZ H H'):∀ {vs:List V}{ds:Ub},aG K H vs ds->Dv.lf.lfs ds=true->aG K H' vs ds
 | _,_,.nil,_=>.nil
 | _,_,.cons h r,e=>by
  rw [Dv.lf.lfs,RK] at e;exact .cons (h.lf s e.1) (r.lf s e.2)
end
section
variable {K:Frag}{H:Hp}
theorem aG.len:∀ {vs:List V}{ds:Ub},aG K H vs ds->vs.length=ds.length
 | _,_,.nil=>rfl
 | _,_,.cons _ r=>congrArg (· + 1) r.len
theorem aG.get:∀ {vs:List V}{ds:Ub}{i:Nat}{d:PyData},aG K H vs ds->ds[i]?=some d->∃ v,vs[i]?=some v/\Rp K H v d
 | _,_,_,_,.nil,e=>by simp at e
 | _,_,0,_,.cons h _,e=>by simp at e;subst e;exact ⟨_,rfl,h⟩
 | _,_,i + 1,_,.cons _ r,e=>r.get (i:=i) (by simpa using e)
theorem aG.NO:∀ {vs:List V}{ds:Ub}{i:Nat}{v:V},aG K H vs ds->vs[i]?=some v->∃ d,ds[i]?=some d/\Rp K H v d
 | _,_,_,_,.nil,e=>by simp at e
 | _,_,0,_,.cons h _,e=>by simp at e;subst e;exact ⟨_,rfl,h⟩
 | _,_,i + 1,_,.cons _ r,e=>r.NO (i:=i) (by simpa using e)
theorem aG.app:∀ {vs us:List V}{ds es:Ub},aG K H vs ds->aG K H us es->aG K H (vs++us) (ds++es)
 | _,_,_,_,.nil,s=>s
 | _,_,_,_,.cons h r,s=>.cons h (r.app s)
def aG.snoc (r:aG K H vs ds)(h:Rp K H v d):aG K H (vs++[v]) (ds++[d]):=r.app (.cons h .nil)
theorem aG.take:∀ {vs:List V}{ds:Ub} (n:Nat),aG K H vs ds->aG K H (vs.take n) (ds.take n)
 | _,_,0,_=>.nil
 | _,_,_ + 1,.nil=>.nil
 | _,_,n + 1,.cons h r=>.cons h (r.take n)
theorem aG.drop:∀ {vs:List V}{ds:Ub} (n:Nat),aG K H vs ds->aG K H (vs.drop n) (ds.drop n)
 | _,_,0,r=>r
 | _,_,_ + 1,.nil=>.nil
 | _,_,n + 1,.cons _ r=>r.drop n
theorem aG.set (h:Rp K H v d):∀ {vs:List V}{ds:Ub} (i:Nat),aG K H vs ds->aG K H (vs.set i v) (ds.set i d)
 | _,_,_,.nil=>.nil
 | _,_,0,.cons _ r=>.cons h r
 | _,_,i + 1,.cons g r=>.cons g (r.set h i)
theorem aG.rev:∀ {vs:List V}{ds:Ub},aG K H vs ds->aG K H vs.reverse ds.reverse
 | _,_,.nil=>.nil
 | _,_,.cons h r=>by rw [List.reverse_cons,List.reverse_cons];exact r.rev.snoc h
end
inductive eW (K:Frag)(H Hm:Hp):List V->Ub->Uh->Prop
 | nil:eW K H Hm [] [] []
 | lY {x:V}{d:PyData}{xs:List V}{ds:Ub}{fp:Uh}:Bt d=false->Rp K Hm x d->eW K H Hm xs ds fp->eW K H Hm (x::xs) (d::ds) fp
 | own {b:Addr}{ys:List V}{es:Ub}{xs:List V}{ds:Ub}{fp:Uh}:H b=some (.lst ys)->aG K Hm ys es->b∉fp->eW K H Hm xs ds fp->eW K H Hm (.ref b::xs) (.list es::ds) (b::fp)
inductive kq (K:Frag)(H Hm:Hp):List (List Key×V)->List (PyData×PyData)->Uh->Prop
 | nil:kq K H Hm [] [] []
 | own {k:List Key}{b:Addr}{ys:List V}{es:Ub}{kvs:List (List Key×V)}{ds:TH}{fp:Uh}:H b=some (.lst ys)->aG K Hm ys es->b∉fp->kq K H Hm kvs ds fp->kq K H Hm ((k,.ref b)::kvs) ((.tuple (k.map bq),.list es)::ds) (b::fp)
inductive Own (K:Frag)(H Hm:Hp):Kd->V->PyData->Uh->Prop
 | sh {v:V}{d:PyData}:Rp K Hm v d->Own K H Hm .sh v d []
 | ow {p:Bool}{a:Addr}{xs:List V}{ds:Ub}:H a=some (.lst xs)->aG K Hm xs ds->Own K H Hm (.ow p) (.ref a) (.list ds) [a]
 | dp {p:Bool}{a:Addr}{xs:List V}{ds:Ub}{fp:Uh}:H a=some (.lst xs)->a∉fp->eW K H Hm xs ds fp->Own K H Hm (.dp p) (.ref a) (.list ds) (a::fp)
 | dk {p:Bool}{a:Addr}{kvs:List (Key×V)}{ds:TH}:H a=some (.dK kvs)->fG K Hm kvs ds->Own K H Hm (.dk p) (.ref a) (.dict ds) [a]
 | dt {p:Bool}{a:Addr}{kvs:List (List Key×V)}{ds:TH}:H a=some (.dT kvs)->fm K Hm kvs ds->Own K H Hm (.dt p) (.ref a) (.dict ((.none,.none)::ds)) [a]
 | st {p:Bool}{a:Addr}{kvs:List (List Key×V)}{ds:TH}{fp:Uh}:H a=some (.dT kvs)->a∉fp->kq K H Hm kvs ds fp->Own K H Hm (.st p) (.ref a) (.dict ((.none,.none)::ds)) (a::fp)
section
variable {K:Frag}{H H' Hm Hm':Hp}
def eW.step (s:aj Hm Hm'){xs:List V}{ds:Ub}{fp:Uh}(i:eW K H Hm xs ds fp):(∀ a∈fp,H' a=H a)->eW K H' Hm' xs ds fp:=by
 induction i with
 | nil=>exact fun _=>.nil
 | lY e r _ ih=>exact fun h=>.lY e (r.mono s) (ih h)
 | own e r n _ ih=>exact fun h=>.own ((h _ RA).trans e) (r.mono s) n (ih fun a ha=>h a (RG _ ha))
def eW.live (i:eW K H Hm xs ds fp):∀ a∈fp,∃ ys,H a=some (.lst ys):=by
 induction i with
 | nil=>exact fun _ h=>absurd h Rv
 | lY _ _ _ ih=>exact ih
 | own e _ _ _ ih =>
  intro a h;rcases RJ.mp h with rfl | h
  ·exact ⟨_,e⟩
  ·exact ih a h
def kq.step (s:aj Hm Hm'){xs:List (List Key×V)}{ds:TH}{fp:Uh}(i:kq K H Hm xs ds fp):(∀ a∈fp,H' a=H a)->kq K H' Hm' xs ds fp:=by
 induction i with
 | nil=>exact fun _=>.nil
 | own e r n _ ih=>exact fun h=>.own ((h _ RA).trans e) (r.mono s) n (ih fun a ha=>h a (RG _ ha))
def kq.live (i:kq K H Hm xs ds fp):∀ a∈fp,∃ ys,H a=some (.lst ys):=by
 induction i with
 | nil=>exact fun _ h=>absurd h Rv
 | own e _ _ _ ih =>
  intro a h;rcases RJ.mp h with rfl | h
  ·exact ⟨_,e⟩
  ·exact ih a h
theorem Own.step {k:Kd}{v:V}{d:PyData}{fp:Uh}(o:Own K H Hm k v d fp)(s:aj Hm Hm')(h:∀ a∈fp,H' a=H a):Own K H' Hm' k v d fp:=by
 cases o with
 | sh r=>exact .sh (r.mono s)
 | ow e r=>exact .ow ((h _ RA).trans e) (r.mono s)
 | dp e n t=>exact .dp ((h _ RA).trans e) n (t.step s fun a ha=>h a (RG _ ha))
 | dk e r=>exact .dk ((h _ RA).trans e) (r.mono s)
 | dt e r=>exact .dt ((h _ RA).trans e) (r.mono s)
 | st e n t=>exact .st ((h _ RA).trans e) n (t.step s fun a ha=>h a (RG _ ha))
def rK (u:HO):Prop:=∀ xs,u≠.tup xs
def lB:rK (.lst xs):=fun _ z=>by cases z
def wV:rK (.dK xs):=fun _ z=>by cases z
def rZ:rK (.dT xs):=fun _ z=>by cases z
theorem Own.live (o:Own K H Hm k v d fp):∀ a∈fp,∃ u,H a=some u/\rK u:=by
 intro a ha;cases o with
 | sh _=>cases ha
 | ow e _=>rw [RH.mp ha];exact ⟨_,e,by first | exact lB | exact wV | exact rZ⟩
 | dp e _ t =>
  rcases RJ.mp ha with rfl | ha
  ·exact ⟨_,e,by first | exact lB | exact wV | exact rZ⟩
  ·obtain ⟨ys,e⟩:=t.live a ha;exact ⟨_,e,by first | exact lB | exact wV | exact rZ⟩
 | dk e _=>rw [RH.mp ha];exact ⟨_,e,by first | exact lB | exact wV | exact rZ⟩
 | dt e _=>rw [RH.mp ha];exact ⟨_,e,by first | exact lB | exact wV | exact rZ⟩
 | st e _ t =>
  rcases RJ.mp ha with rfl | ha
  ·exact ⟨_,e,by first | exact lB | exact wV | exact rZ⟩
  ·obtain ⟨ys,e⟩:=t.live a ha;exact ⟨_,e,by first | exact lB | exact wV | exact rZ⟩
def eW.Q4 (s:aj Hm Hm')(i:eW K H Hm xs ds fp):(∀ a∈fp,Hm' a=H a)->aG K Hm' xs ds:=by
 induction i with
 | nil=>exact fun _=>.nil
 | lY _ r _ ih=>exact fun h=>.cons (r.mono s) (ih h)
 | own e r _ _ ih=>exact fun h=>.cons (.lst (.inl (.inl ((h _ RA).trans e))) (r.mono s)) (ih fun a ha=>h a (RG _ ha))
def Own.rp (o:Own K H Hm k v d fp)(hk:k.rd=true)(s:aj Hm Hm')(h:∀ a∈fp,Hm' a=H a):Rp K Hm' v d:=by
 cases o with
 | sh r=>exact r.mono s
 | ow e r=>exact .lst (.inl (.inl ((h _ RA).trans e))) (r.mono s)
 | dp e _ t=>exact .lst (.inl (.inl ((h _ RA).trans e))) (t.Q4 s fun a ha=>h a (RG _ ha))
 | dk e r=>exact .dk ((h _ RA).trans e) (r.mono s)
 | dt e r=>exact .dt ((h _ RA).trans e) (r.mono s)
 | st _ _ _=>cases hk
def aG.yL (s:mZ Hm Hm')(r:aG K Hm xs ds)(h:ds.all Dv.lf=true):aG K Hm' xs ds:=r.lf s (by rw [u5];exact h)
theorem eW.flat (s:mZ Hm Hm'):∀ {xs:List V}{ds:Ub}{fp:Uh},eW K H Hm xs ds fp->(ds.all fun d=>match d with | .list es=>es.all Dv.lf | d=>Dv.lf d)=true->eW K H Hm' xs ds fp
 | _,_,_,.nil,_=>.nil
 | _,_,_,.lY (d:=d) e r t,h=>by
  rw [RU,RK] at h;refine .lY e (r.lf s ?_) (t.flat s h.2);have h1:=h.1;cases d <;> first | exact h1 | cases e
 | _,_,_,.own e r n t,h=>by
  rw [RU,RK] at h;exact .own e (r.yL s h.1) n (t.flat s h.2)
theorem fG.flat (s:mZ Hm Hm'):∀ {kvs:List (Key×V)}{ds:TH},fG K Hm kvs ds->(ds.all fun kv=>Dv.lf kv.2)=true->fG K Hm' kvs ds
 | _,_,.nil,_=>.nil
 | _,_,.cons r t,h=>by
  rw [RU,RK] at h;exact .cons (r.lf s h.1) (t.flat s h.2)
theorem fm.flat (s:mZ Hm Hm'):∀ {kvs:List (List Key×V)}{ds:TH},fm K Hm kvs ds->(ds.all fun kv=>Dv.lf kv.2)=true->fm K Hm' kvs ds
 | _,_,.nil,_=>.nil
 | _,_,.cons r t,h=>by
  rw [RU,RK] at h;exact .cons (r.lf s h.1) (t.flat s h.2)
theorem Own.flat (o:Own K H Hm k v d fp)(s:mZ Hm Hm')(h:Dv.flat k d=true):Own K H Hm' k v d fp:=by
 cases o with
 | sh r=>exact .sh (r.lf s h)
 | ow e r=>exact .ow e (r.yL s h)
 | dp e n t=>exact .dp e n (t.flat s h)
 | dk e r=>exact .dk e (r.flat s h)
 | dt e r =>
  have h:(Dv.lf .none && _)=true:=h;rw [RK] at h;exact .dt e (r.flat s h.2)
 | st _ _ _=>cases h
end
def OE (o p:Option HO):Prop:=o=p\/(p=none/\∃ xs,o=some (.tup xs))
def OE.rfl':OE o o:=.inl rfl
def OE.trans (h:OE a b)(k:OE b c):OE a c:=by
 rcases h with rfl | ⟨rfl,h⟩
 ·exact k
 ·rcases k with rfl | ⟨rfl,_⟩
  ·exact .inr ⟨rfl,h⟩
  ·exact .inr ⟨rfl,h⟩
def OE.off {a:Addr}(h:OE (Hm a) p)(hp:p=none)(s:aj Hm H)(hu:H a=some u)(nt:rK u):Hm a=none:=by
 rcases h with e | ⟨_,xs,e⟩
 ·rw [e,hp]
 ·have:=s _ _ e;rw [hu] at this;cases this;exact absurd rfl (nt xs)
structure Gh where
 H0:Hp
 fF:Hp
 pins:List (Nat×Addr)
def Gh.M (g:Gh):Uh:=g.pins.map (·.2)
structure Rl (K:Frag)(g:Gh)(E:En)(σ:St)(H Hm:Hp)(F:Nat->Uh):Prop where
 len:E.length=σ.length
 sub:aj Hm H
 slot:∀ i k d,E[i]?=some (some (k,d))->∃ v,σ[i]?=some (some v)/\Own K H Hm k v d (F i)
 off:∀ i a,a∈F i->Hm a=none
 bW:∀ i a,a∈F i->∃ u,H a=some u/\rK u
 aV:∀ i j a,a∈F i->a∈F j->i=j
 fr:∀ p o,p∉g.M->g.H0 p=some o->H p=some o
 new:∀ i a,a∈F i->a∈g.M\/g.H0 a=none
 pin:∀ q∈g.pins,σ[q.1]?=some (some (.ref q.2))/\∃ ds,E[q.1]?=some (some (.ow true,.list ds))
 old:∀ a,g.H0 a≠none->OE (Hm a) (g.fF a)
structure Tm (K:Frag)(g:Gh)(F:Nat->Uh)(H Hm:Hp)(k:Kd) (v:V)(d:PyData)(fp:Uh):Prop where
 own:Own K H Hm k v d fp
 off:∀ a∈fp,Hm a=none
 aV:∀ a∈fp,∀ i,a∉F i
 new:∀ a∈fp,g.H0 a=none
section
variable {K:Frag}{g:Gh}{E:En}{σ:St}{H H' Hm Hm':Hp}{F:Nat->Uh}
def Rl.grow (R:Rl K g E σ H Hm F)(h:aj H H')(s:aj Hm Hm')(b:aj Hm' H')(o:∀ i a,a∈F i->Hm' a=none)(od:∀ a,g.H0 a≠none->OE (Hm' a) (Hm a)):Rl K g E σ H' Hm' F where
 len:=R.len
 sub:=b
 slot:=fun i k d e=>by
  obtain ⟨v,h1,h2⟩:=R.slot i k d e;refine ⟨v,h1,h2.step s fun a ha=>?_⟩
  obtain ⟨u,hu,_⟩:=h2.live a ha;rw [hu];exact h _ _ hu
 off:=o
 bW:=fun i a ha=>let ⟨u,hu,n⟩:=R.bW i a ha;⟨u,h _ _ hu,n⟩
 aV:=R.aV
 fr:=fun p o hp ho=>h _ _ (R.fr p o hp ho)
 new:=R.new
 pin:=R.pin
 old:=fun a ha=>(od a ha).trans (R.old a ha)
def Rl.more (R:Rl K g E σ H Hm F)(s:aj Hm Hm')(b:aj Hm' H)(o:∀ i a,a∈F i->Hm' a=none)(od:∀ a,g.H0 a≠none->OE (Hm' a) (Hm a)):Rl K g E σ H Hm' F:=R.grow (aj.refl _) s b o od
def Rl.B7 (R:Rl K g E σ H Hm F)(hq:q∈g.pins):F q.1=[q.2]:=by
 obtain ⟨h1,ds,h2⟩:=R.pin q hq;obtain ⟨v,h3,h4⟩:=R.slot _ _ _ h2;rw [h1] at h3;cases h3;generalize F q.1=fi at h4;cases h4;rfl
def Rl.notM (R:Rl K g E σ H Hm F){i:Nat}(e:E[i]?=some (some (k,d)))(hk:k.pin=false){a:Addr}(ha:a∈F i):g.H0 a=none:=by
 rcases R.new i a ha with m | m
 ·obtain ⟨q,hq,rfl⟩:=RI.mp m;have:=R.aV i q.1 q.2 ha (by rw [R.B7 hq];exact RA)
  obtain ⟨_,ds,h2⟩:=R.pin q hq;rw [<- this,e] at h2;cases h2;cases hk
 ·exact m
def Rl.Ov (R:Rl K g E σ H Hm F){a:Addr}(ha:a∈g.M):H a≠none:=fun z=>by
 obtain ⟨q,hq,rfl⟩:=RI.mp ha;obtain ⟨u,hu,_⟩:=R.bW q.1 q.2 (by rw [R.B7 hq];exact RA)
 rw [z] at hu;cases hu
def Rl.uH (R:Rl K g E σ H Hm F){a:Addr}(ha:g.H0 a≠none):H a≠none:=fun z=>by
 by_cases m:a∈g.M
 ·exact R.Ov m z
 ·cases e:g.H0 a with
  | none=>exact ha e
  | some o=>rw [R.fr a o m e] at z;cases z
def Rl.fresh (R:Rl K g E σ H Hm F){p:Addr}(h:H p=none){i:Nat}:p∉F i:=fun z=>by
 obtain ⟨u,hu,_⟩:=R.bW i p z;rw [h] at hu;cases hu
def Rl.lG (R:Rl K g E σ H Hm F){p:Addr}(h:H p=none):Hm p=none:=by
 cases e:Hm p with
 | none=>rfl
 | some o=>rw [R.sub _ _ e] at h;cases h
def Rl.fj (R:Rl K g E σ H Hm F){p:Addr}(h:H p=none):g.H0 p=none:=by
 cases e:g.H0 p with
 | none=>rfl
 | some o=>exact absurd h (R.uH (by rw [e];simp))
end
open Classical in
def lend (Hm H:Hp)(fp:Uh):Hp:=fun a=>if a∈fp then H a else Hm a
open Classical in
def back (Hm:Hp)(fp:Uh):Hp:=fun a=>if a∈fp then none else Hm a
section
variable {Hm H:Hp}{fp:Uh}{a:Addr}
def dh (h:a∈fp):lend Hm H fp a=H a:=by unfold lend;rw [if_pos h]
def cj (h:a∉fp):lend Hm H fp a=Hm a:=by unfold lend;rw [if_neg h]
def jH (h:a∈fp):back Hm fp a=none:=by unfold back;rw [if_pos h]
def dP (h:a∉fp):back Hm fp a=Hm a:=by unfold back;rw [if_neg h]
def iP (n:∀ a∈fp,Hm a=none):aj Hm (lend Hm H fp):=fun b o e=>by
 have:b∉fp:=fun z=>by rw [n b z] at e;cases e
 rw [cj this];exact e
def iJ (s:aj Hm H):aj (lend Hm H fp) H:=fun b o e=>by
 by_cases h:b∈fp
 ·rw [dh h] at e;exact e
 ·rw [cj h] at e;exact s _ _ e
def zm (s:aj Hm H):aj (back Hm fp) H:=fun b o e=>by
 by_cases h:b∈fp
 ·rw [jH h] at e;cases e
 ·rw [dP h] at e;exact s _ _ e
end
section
variable {K:Frag}{g:Gh}{E:En}{σ:St}{H H' Hm Hm':Hp}{F:Nat->Uh}{k:Kd}{v:V}{d:PyData}{fp:Uh}
def Tm.cJ (T:Tm K g F H Hm k v d fp)(R:Rl K g E σ H Hm F)(hk:k.fz=true):∃ Hm',aj Hm Hm'/\Rl K g E σ H Hm' F/\Rp K Hm' v d:=by
 have up:=iP (Hm:=Hm) (H:=H) T.off;refine ⟨lend Hm H fp,up,R.more up (iJ R.sub) (fun i a ha=>?_) fun a ha=>.inl (cj fun z=>ha (T.new a z)),T.own.rp (by cases k <;> first | rfl | cases hk) up fun a ha=>dh ha⟩
 rw [cj fun z=>T.aV a z i ha]
 exact R.off i a ha
def aM {α:Type}{l:List α}{i:Nat}{a:α}(h:i < l.length):(l.set i a)[i]?=some a:=by rw [U1];simp [h]
def au {α:Type}{l:List α}{i j:Nat}{a:α}(h:i≠j):(l.set i a)[j]?=l[j]?:=by rw [U1];simp [h]
def Rl.put (R:Rl K g E σ H Hm F)(T:Tm K g F H Hm k v d fp){i:Nat}(o:b9 E i=true):Rl K g (E.set i (some (k,d))) (σ.set i (some v)) H Hm (fun j=>if j=i then fp else F j) where
 len:=by rw [SH,SH];exact R.len
 sub:=R.sub
 slot:=fun j k' d' e=>by
  by_cases c:j=i
  ·subst c;have hl:j < E.length:=by
    rcases SG j E.length with h | h
    ·exact h
    ·rw [S4 (by rw [SH];exact h)] at e;cases e
   rw [aM hl] at e;cases e;exact ⟨v,aM (R.len ▸ hl),by rw [if_pos rfl];exact T.own⟩
  ·rw [au (Ne.symm c)] at e;obtain ⟨u,h1,h2⟩:=R.slot j k' d' e;exact ⟨u,by rw [au (Ne.symm c)];exact h1,by rw [if_neg c];exact h2⟩
 off:=fun j a ha=>by
  by_cases c:j=i
  ·rw [if_pos c] at ha;exact T.off a ha
  ·rw [if_neg c] at ha;exact R.off j a ha
 bW:=fun j a ha=>by
  by_cases c:j=i
  ·rw [if_pos c] at ha;exact T.own.live a ha
  ·rw [if_neg c] at ha;exact R.bW j a ha
 aV:=fun j l a h1 h2=>by
  by_cases c:j=i
  ·rw [if_pos c] at h1
   by_cases c':l=i
   ·rw [c,c']
   ·rw [if_neg c'] at h2;exact absurd h2 (T.aV a h1 l)
  ·rw [if_neg c] at h1
   by_cases c':l=i
   ·rw [if_pos c'] at h2;exact absurd h1 (T.aV a h2 j)
   ·rw [if_neg c'] at h2;exact R.aV j l a h1 h2
 fr:=R.fr
 new:=fun j a ha=>by
  by_cases c:j=i
  ·rw [if_pos c] at ha;exact .inr (T.new a ha)
  ·rw [if_neg c] at ha;exact R.new j a ha
 pin:=fun q hq=>by
  obtain ⟨h1,ds,h2⟩:=R.pin q hq;have c:i≠q.1:=fun z=>by
   unfold b9 at o;rw [z,h2] at o;cases o
  exact ⟨by rw [au c];exact h1,ds,by rw [au c];exact h2⟩
 old:=R.old
theorem Tm.sh (h:Rp K Hm v d):Tm K g F H Hm .sh v d []:=⟨.sh h,(fun _ z=>by cases z),(fun _ z=>by cases z),fun _ z=>by cases z⟩
def Rl.chg (R:Rl K g E σ H Hm F){i:Nat}{p:Bool}{ds es:Ub}{ys:List V}(e:E[i]?=some (some (.ow p,.list ds)))(r:aG K Hm ys es):∃ a xs,σ[i]?=some (some (.ref a))/\H a=some (.lst xs)/\aG K Hm xs ds/\Hm a=none/\Rl K g (E.set i (some (.ow p,.list es))) σ (upd H a (.lst ys)) Hm F:=by
 obtain ⟨v,h1,h2⟩:=R.slot i _ _ e;generalize hf:F i=fi at h2;cases h2 with
 | @ow _ a xs _ ha hr =>
  have ma:a∈F i:=by rw [hf];exact RA
  have na:=R.off i a ma;have up:∀ b,b≠a->upd H a (.lst ys) b=H b:=fun b hb=>ao hb
  have li:i < E.length:=by
   rcases SG i E.length with h | h
   ·exact h
   ·rw [S4 h] at e;cases e
  refine ⟨a,xs,h1,ha,hr,na,?_⟩;exact {
   len:=by rw [SH];exact R.len
   sub:=fun b o hb=>by
    have:b≠a:=fun z=>by rw [z,na] at hb;cases hb
    rw [up b this];exact R.sub b o hb
   slot:=fun j k' d' e'=>by
    by_cases c:j=i
    ·subst c;rw [aM li] at e';cases e';exact ⟨_,h1,by rw [hf];exact .ow aL r⟩
    ·rw [au (Ne.symm c)] at e';obtain ⟨u,g1,g2⟩:=R.slot j k' d' e';refine ⟨u,g1,g2.step (aj.refl _) fun b hb=>up b fun z=>c (R.aV j i a (z ▸ hb) ma)⟩
   off:=R.off
   bW:=fun j b hb=>by
    by_cases c:b=a
    ·rw [c];exact ⟨_,aL,lB⟩
    ·rw [up b c];exact R.bW j b hb
   aV:=R.aV
   fr:=fun q o hq ho=>by
    have:q≠a:=fun z=>by
     rcases R.new i a ma with y | y
     ·exact hq (z ▸ y)
     ·rw [z,y] at ho;cases ho
    rw [up q this];exact R.fr q o hq ho
   new:=R.new
   pin:=fun q hq=>by
    obtain ⟨g1,ds',g2⟩:=R.pin q hq
    by_cases c:i=q.1
    ·rw [<- c] at g1 g2 ⊢;rw [e] at g2;cases g2;exact ⟨g1,es,aM li⟩
    ·exact ⟨g1,ds',by rw [au c];exact g2⟩
   old:=R.old }
theorem Rl.dD (R:Rl K g E σ H Hm F){i:Nat}{E':En}{d:PyData}{k:Kd}(e:E[i]?=some (some (k,d)))(h:Dv.dD E i=some E'):∃ v Hm' F',σ[i]?=some (some v)/\aj Hm Hm'/\Rl K g E' σ H Hm' F'/\Rp K Hm' v d:=by
 unfold Dv.dD at h;rw [e] at h;have h:(if k.fz=true then some (E.set i (some (.sh,d))) else none)=some E':=h
 by_cases hk:k.fz=true
 ·rw [if_pos hk] at h;cases h;obtain ⟨v,h1,h2⟩:=R.slot i k d e;have up:=iP (Hm:=Hm) (H:=H) (fp:=F i) (R.off i);have rp:=h2.rp (by cases k <;> first | rfl | cases hk) up fun a ha=>dh ha
  have li:i < E.length:=by
   rcases SG i E.length with h | h
   ·exact h
   ·rw [S4 h] at e;cases e
  refine ⟨v,lend Hm H (F i),fun j=>if j=i then [] else F j,h1,up,?_,rp⟩
  exact {
   len:=by rw [SH];exact R.len
   sub:=iJ R.sub
   slot:=fun j k' d' e'=>by
    by_cases c:j=i
    ·subst c;rw [aM li] at e';cases e';exact ⟨v,h1,by rw [if_pos rfl];exact .sh rp⟩
    ·rw [au (Ne.symm c)] at e';obtain ⟨u,g1,g2⟩:=R.slot j k' d' e';exact ⟨u,g1,by rw [if_neg c];exact g2.step up fun _ _=>rfl⟩
   off:=fun j a ha=>by
    by_cases c:j=i
    ·rw [if_pos c] at ha;cases ha
    ·rw [if_neg c] at ha;rw [cj fun z=>c (R.aV j i a ha z)]
     exact R.off j a ha
   bW:=fun j a ha=>by
    by_cases c:j=i
    ·rw [if_pos c] at ha;cases ha
    ·rw [if_neg c] at ha;exact R.bW j a ha
   aV:=fun j l a g1 g2=>by
    by_cases c:j=i
    ·rw [if_pos c] at g1;cases g1
    ·rw [if_neg c] at g1
     by_cases c':l=i
     ·rw [if_pos c'] at g2;cases g2
     ·rw [if_neg c'] at g2;exact R.aV j l a g1 g2
   fr:=R.fr
   new:=fun j a ha=>by
    by_cases c:j=i
    ·rw [if_pos c] at ha;cases ha
    ·rw [if_neg c] at ha;exact R.new j a ha
   pin:=fun q hq=>by
    obtain ⟨g1,ds',g2⟩:=R.pin q hq;have c:i≠q.1:=fun z=>by
     rw [<- z,e] at g2;cases g2;cases hk
    exact ⟨g1,ds',by rw [au c];exact g2⟩
   old:=fun a ha=>by
    rw [cj fun z=>ha (R.notM e (by cases k <;> first | rfl | (rename_i p;cases p <;> first | rfl | cases hk) | cases hk) z)]
    exact R.old a ha }
 ·rw [if_neg hk] at h;cases h
end
end Dv
namespace L2
open PySem PySem.Spec PyProof.Rows
def mF (h:Heap)(e C T:Addr)(dd:Ue):Prop :=
 ∃ (t0:Addr)(v2 v3 v4 v5:Value)(sl:TN)(oT:Obj)(ts:Ua),h.get? e=some ⟨.ref C,dd,.fields #[.ref t0,.ref T,v2,v3,v4,v5],sl⟩/\T≠e/\h.get? T=some oT/\oT.data=.fields ts/\ts[3]?=some .none
structure Way (fs:Uh)(e T:Addr)(h h':Heap):Prop where
 keep:∀ b o,b≠e->b≠T->b∉fs->h.get? b=some o->h'.get? b=some o
 slot:∀ b o,b≠e->b≠T->h.get? b=some o->∃ sl,h'.get? b=some { o with slots:=sl }
section
variable {M:Model}{A:Around}{E:Tn}{s:Shared}
def vZ {L e C t0 T0:Addr}{hadNext:Bool}
  (hfr:A.frames=some (env::outer))(hl:s.heap.FunFrames base (env::outer))(hf:env.frame=some L)(he:s.heap.get? e=some ⟨.ref C,dd,.fields #[.ref t0,w1,v2,v3,v4,v5],sl0⟩)
  (q:∀ h' T,s.heap.get? T=none->Way (frs (env::outer)) e T s.heap h'->mF h' e C T dd->Q () { s with heap:=h' }) :
  wpAny M A (do let a <- frameOf env;let pl <- entryPlaceOf L hadNext;let b <- EntryCells.newEntry head a .none (rawInt L) .none pl;setField (.ref e) 1 b) (fun _ s'=>wpAny M A (setFlight (.ref e) none) Q E s') E s:=by
 have ene:e∉frs (env::outer):=fun hm=>by
  obtain ⟨_,o,ho,hnf⟩:=hl.mem hm;rw [he] at ho;cases ho;exact hnf _ rfl
 refine R8 (wpAny_frameOf_fun hfr hl hf fun h1 hs1=>R8 (wpAny_entryPlaceOf fun pl hpl=>?_))
 unfold EntryCells.newEntry newFields;refine R8 (SX ?_ (hpl.sizeOk5 _ _ _ _ _));have he1:h1.get? e=some ⟨.ref C,dd,.fields #[.ref t0,w1,v2,v3,v4,v5],sl0⟩:=(hs1.2.1 e ene).trans he;generalize hO:({ cls:=.type "traceback",dict:=none,data:=.fields ([head,.ref L,.none,rawInt L,.none]++(if pl.isEmpty then List.replicate 6 Value.none else pl)).toArray }:Obj)=oT
 have he2:=RO (h:=h1) oT he1;refine Tq he2 rfl (by show 1 < 6;decide) ?_
 have ne:h1.objs.size≠e:=TF (RL he1);have hdT:oT.data=.fields ([head,.ref L,.none,rawInt L,.none]++(if pl.isEmpty then List.replicate 6 Value.none else pl)).toArray:=by rw [<- hO]
 have fr:oT.isFreed=false:=by rw [<- hO];rfl
 have he3:((h1.push oT).update e (Obj.mapFields (·.setIfInBounds 1 (Value.ref h1.objs.size)))).get? e=some ⟨.ref C,dd,.fields #[.ref t0,.ref h1.objs.size,v2,v3,v4,v5],sl0⟩:=Sz _ he2 rfl;have hT3:((h1.push oT).update e (Obj.mapFields (·.setIfInBounds 1 (Value.ref h1.objs.size)))).get? h1.objs.size=some oT:=(SO _ _ (Ne.symm ne)).trans (Rx h1 fr);unfold setFlight;refine R8 (wpAny_field he3 rfl (x:=.ref h1.objs.size) rfl ?_);rw [if_pos (show (Value.ref h1.objs.size != Value.none)=true by simp)]
 have sz:s.heap.objs.size=h1.objs.size:=hs1.1.symm;refine Tq hT3 hdT (by simp only [RV,RW,Ru,List.length_nil] <;> omega) (q _ h1.objs.size ?_ ⟨fun b o b1 b2 b3 hb=>?_,fun b o b1 b2 hb=>?_⟩ ?_)
 ·exact Heap.get?_none_of_le (TM sz)
 ·have hb1:h1.get? b=some o:=(hs1.2.1 b b3).trans hb;rw [SO _ _ (Ne.symm b2),SO _ _ (Ne.symm b1)];exact RO _ hb1
 ·obtain ⟨sl,hb1⟩:=hs1.2.2 b o hb;refine ⟨sl,?_⟩;rw [SO _ _ (Ne.symm b2),SO _ _ (Ne.symm b1)];exact RO _ hb1
 ·have dt:=UC hdT (·.setIfInBounds 3 ((none:Ue).elim Value.none fun f=>rawInt f))
  refine ⟨t0,v2,v3,v4,v5,sl0,_,_,?_,ne,Sz _ hT3 (Obj.isFreed_of_fields dt),dt,?_⟩
  ·rw [SO _ _ ne];exact he3
  ·first | (simp;done) | (rcases hpl with rfl | ⟨_,_,_,_,_,_,_,rfl⟩ <;> simp)
def leave_new {L e C t0:Addr}
  (hfr:A.frames=some (env::outer))(hl:s.heap.FunFrames base (env::outer))(hf:env.frame=some L)(he:s.heap.get? e=some ⟨.ref C,dd,.fields #[.ref t0,.none,v2,v3,v4,v5],sl0⟩)
  (q:∀ h' T,s.heap.get? T=none->Way (frs (env::outer)) e T s.heap h'->mF h' e C T dd->Q () { s with heap:=h' }):wpAny M A (leaving env (.ref e)) Q E s:=by
 unfold leaving noteFrame;simp only [hf];refine R8 (R8 (wpAny_field he rfl (x:=.none) rfl ?_));rw [if_neg (show ¬ ((Value.none != Value.none)=true) by decide)]
 exact vZ (T0:=e) hfr hl hf he q
def Gp {L e C T:Addr}
  (hfr:A.frames=some (env::outer))(hl:s.heap.FunFrames base (env::outer))(hf:env.frame=some L)(ho:mF s.heap e C T dd)
  (q:∀ h' T2,s.heap.get? T2=none->(∀ b o,b≠e->b≠T->b≠T2->b∉frs (env::outer)->s.heap.get? b=some o->h'.get? b=some o)->(∀ b o,b≠e->b≠T->b≠T2->s.heap.get? b=some o->∃ sl,h'.get? b=some { o with slots:=sl })->mF h' e C T2 dd->Q () { s with heap:=h' }):wpAny M A (leaving env (.ref e)) Q E s:=by
 obtain ⟨t0,v2,v3,v4,v5,sl0,oT,ts,he,hTe,hT,hdT,h3⟩:=ho;unfold leaving noteFrame;simp only [hf];refine R8 (R8 (wpAny_field he rfl (x:=.ref T) rfl ?_));rw [if_pos (show (Value.ref T != Value.none)=true by simp)]
 refine R8 (wpAny_field hT hdT h3 ?_);rw [if_neg (show ¬ ((Value.none == rawInt L)=true) by simp [rawInt])]
 refine R8 (Tq hT hdT (V2.mp h3).1 ?_);have other:∀ b,b≠T->(s.heap.update T (Obj.mapFields (·.setIfInBounds 3 Value.none))).get? b=s.heap.get? b:=fun b hb=>SO _ _ (Ne.symm hb)
 have noRec:∀ b o,s.heap.get? b=some o->(∀ vs,o.data≠.fields vs)->b≠T:=fun b o hb hnf z=>by
  rw [z,hT] at hb;cases hb;exact hnf ts hdT
 refine vZ (s:={ s with heap:=s.heap.update T (Obj.mapFields (·.setIfInBounds 3 Value.none)) }) (T0:=T) hfr (hl.of_keeps fun b o hb hnf=>⟨o,(other b (noRec b o hb hnf)).trans hb,rfl⟩) hf ((other e (Ne.symm hTe)).trans he) fun h' T2 n2 W O=>?_
 have n2':s.heap.get? T2=none:=by
  cases c:s.heap.get? T2 with
  | none=>rfl
  | some o =>
   exfalso
   by_cases z:T2=T
   ·subst z;rw [Sz _ hT (Obj.isFreed_of_fields (UC hdT _))] at n2;cases n2
   ·rw [show ({ s with heap:=s.heap.update T (Obj.mapFields (·.setIfInBounds 3 Value.none)) }:Shared).heap.get? T2=s.heap.get? T2 from other T2 z,c] at n2
    cases n2
 exact q h' T2 n2' (fun b o b1 b2 b3 b4 hb=>W.keep b o b1 b3 b4 ((other b b2).trans hb)) (fun b o b1 b2 b3 hb=>W.slot b o b1 b3 ((other b b2).trans hb)) O
end
end L2
namespace L2
open PySem PySem.Spec PyProof.Rows PySem.W
def fY (P:Program)(w:World):mU:=fun outer H s E e s' =>
 ∃ a C T H',e=.ref a/\s'.os=s.os/\AllBare s'.gens/\Un (frs outer) [] H H' s.heap s'.heap/\dQ P w H' s'.heap/\mF s'.heap a C T none/\s.heap.get? T=none/\H' T=none/\s.heap.get? a=none/\H' a=some (.ext (pZ a C none))/\E (.ref C) (some a) H'
def mF.Rg {e C T:Addr}(o:mF h e C T dd):pZ e C dd h:=by
 obtain ⟨t0,v2,v3,v4,v5,sl,_,_,he,_⟩:=o;exact ⟨t0,_,v2,v3,v4,v5,sl,he⟩
def Kc {P:Program}{w:World}{H:Hp}{h h':Heap}{a C:Addr}{fs:Uh}{N:Addr->Prop}(ok:dQ P w H h)(ha:H a=some (.ext (pZ a C none)))(hN:∀ b,N b->H b=none)(hf:∀ b∈fs,H b=none)
  (k:∀ b o,b≠a->¬ N b->b∉fs->h.get? b=some o->h'.get? b=some o)(x:pZ a C none h'):dQ P w H h':=fun b u e=>by
 by_cases z:b=a
 ·subst z;rw [ha] at e;cases e;exact D0 x
 ·have nn:∀ c v,H c=some v->¬ N c/\c∉fs:=fun c v q=>⟨fun y=>(by rw [hN c y] at q;cases q),fun y=>(by rw [hf c y] at q;cases q)⟩
  refine (ok b u e).stay (fun c v hc r=>k c v ?_ ?_ ?_ r) (fun c r=>r) fun c xs r=>r
  ·rcases hc with y | y
   ·rw [y];exact z
   ·intro q;rw [q,ha] at y;cases y
  ·rcases hc with y | y
   ·rw [y];exact (nn b u e).1
   ·exact (nn c _ y).1
  ·rcases hc with y | y
   ·rw [y];exact (nn b u e).2
   ·exact (nn c _ y).2
section
variable {CX:mU}{P:Program}{w:World}{K:Frag}{mg:UE}{base:Heap}{N:Us}{qual:Str}{scope:Scope}{f:Addr}{cd:Value}{A:Around}{outer:List Env}{s0:Shared}{H0:Hp}{E:XK}
def As {pins:UG}{σ:St}{H:Hp}{s:Shared}{a C T:Addr}{h':Heap}{Nw:Addr->Prop}(I:Inv (gW CX P w K mg base N qual scope f cd A outer s0 H0 E) pins σ H s)(ha:H a=some (.ext (pZ a C none)))(na:s0.heap.get? a=none)
  (hN:∀ b,Nw b->H b=none)(hN0:∀ b,Nw b->s0.heap.get? b=none)(hT:Nw T)
  (k:∀ b o,b≠a->¬ Nw b->b∉frs (envOfC qual scope s0.heap.objs.size f cd::outer)->s.heap.get? b=some o->h'.get? b=some o)(sl:∀ b o,b≠a->¬ Nw b->s.heap.get? b=some o->∃ sl,h'.get? b=some { o with slots:=sl })
  (O:mF h' a C T none)(q:E (.ref C) (some a) H):fY P w outer H0 s0 E (.ref a) { s with heap:=h' }:=by
 have B:Un (frs outer) [] H0 H s0.heap s.heap:=I.base;have old:∀ b o,s0.heap.get? b=some o->b≠a/\¬ Nw b:=fun b o e=>⟨(fun z=>by rw [z,na] at e;cases e),fun z=>by rw [hN0 b z] at e;cases e⟩
 have notloc:∀ b o,s0.heap.get? b=some o->b∉frs outer->b∉frs (envOfC qual scope s0.heap.objs.size f cd::outer):=fun b o e nb z=>by
  have z2:b∈(envOfC qual scope s0.heap.objs.size f cd).frame.toList++frs outer:=by
   have:frs (envOfC qual scope s0.heap.objs.size f cd::outer)=s0.heap.objs.size::frs outer:=rfl;rw [this] at z;exact z
  rcases RM.mp z2 with y | y
  ·have y:some s0.heap.objs.size=some b:=by
    have y0:(envOfC qual scope s0.heap.objs.size f cd).frame=some b:=by simpa using y
    exact y0
   have y:s0.heap.objs.size=b:=Option.some.inj y;exact absurd (RL e) (by rw [<- y];exact SA _)
  ·exact nb y
 refine ⟨a,C,T,H,rfl,I.os,I.bare,⟨fun b o e n nf nx=>?_,fun b o e n nf nx=>?_,fun b o e n nx=>B.free b o e n nx,fun b o e nx=>?_,B.tups,B.kG,B.lE⟩,?_,O,hN0 T hT,hN T hT,na,ha,q⟩
 ·exact k b o (old b o e).1 (old b o e).2 (notloc b o e nf) (B.keep b o e n nf nx)
 ·obtain ⟨sl1,e1⟩:=B.slot b o e n nf nx;obtain ⟨sl2,e2⟩:=sl b _ (old b o e).1 (old b o e).2 e1;exact ⟨sl2,e2⟩
 ·obtain ⟨o1,e1⟩:=B.there b o e nx;obtain ⟨sl2,e2⟩:=sl b _ (old b o e).1 (old b o e).2 e1;exact ⟨_,e2⟩
 ·exact Kc I.hok ha hN (I.rD) (fun b o b1 b2 b3 e=>k b o b1 b2 b3 e) O.Rg
def ND {a C t0:Addr}(I:Inv (gW (fY P w) P w K mg base N qual scope f cd A outer s0 H0 E) pins σ H s)(ha:H a=some (.ext (pZ a C none)))
  (he:s.heap.get? a=some ⟨.ref C,none,.fields #[.ref t0,.none,v2,v3,v4,v5],sl0⟩)(na:s0.heap.get? a=none)(q:E (.ref C) (some a) H):(gW (fY P w) P w K mg base N qual scope f cd A outer s0 H0 E).xe (.ref a) s:=by
 refine leave_new (base:=base) (L:=s0.heap.objs.size) I.ok.frames I.stack rfl he fun h' T nT W O=>?_
 have nT0:s0.heap.get? T=none:=by
  cases c:s0.heap.get? T with
  | none=>rfl
  | some o =>
   obtain ⟨o1,e1⟩:=I.base.there T o c (by show T∉([]:Uh);simp)
   rw [e1] at nT;cases nT
 exact As (Nw:=fun b=>b=T) I ha na (fun b z=>by rw [z];exact I.kZ nT) (fun b z=>by rw [z];exact nT0) rfl (fun b o b1 b2 b3 e=>W.keep b o b1 b2 b3 e) (fun b o b1 b2 e=>W.slot b o b1 b2 e) O q
def aK:Passes (fY P w) (gW (fY P w) P w K mg base N qual scope f cd A outer s0 H0 E) E:=by
 intro pins σ H s e s' I h;obtain ⟨a,C,T,H',rfl,os,bare,un,hok,O,nT,hT,na,ha,q⟩:=h;have I':=I.CG (s':=s') (ch:=[]) os un hok bare fun b z=>absurd z (by simp)
 have up:∀ b,s.heap.get? b=none->s0.heap.get? b=none:=fun b n=>by
  cases c:s0.heap.get? b with
  | none=>rfl
  | some o =>
   obtain ⟨o1,e1⟩:=I.base.there b o c (by show b∉([]:Uh);simp)
   rw [e1] at n;cases n
 refine Gp (base:=base) (L:=s0.heap.objs.size) I'.ok.frames I'.stack rfl O fun h' T2 n2 k sl O2=>?_
 have nT2:s0.heap.get? T2=none:=by
  cases c:s0.heap.get? T2 with
  | none=>rfl
  | some o =>
   obtain ⟨o1,e1⟩:=I'.base.there T2 o c (by show T2∉([]:Uh);simp)
   rw [e1] at n2;cases n2
 refine As (Nw:=fun b=>b=T\/b=T2) I' ha (up a na) (fun b z=>?_) (fun b z=>?_) (.inr rfl) (fun b o b1 b2 b3 e=>k b o b1 (fun z=>b2 (.inl z)) (fun z=>b2 (.inr z)) b3 e) (fun b o b1 b2 e=>sl b o b1 (fun z=>b2 (.inl z)) (fun z=>b2 (.inr z)) e) O2 q
 ·rcases z with rfl | rfl
  ·exact hT
  ·exact I'.kZ n2
 ·rcases z with rfl | rfl
  ·exact up _ nT
  ·exact nT2
end
section
variable {P:Program}{w:World}{K:Frag}{mg:UE}{base:Heap}{N:Us}{qual:Str}{scope:Scope}{f:Addr}{cd:Value}{A:Around}{outer:List Env}{s0:Shared}{H0:Hp}{E:XK}
def L6 (C:Addr)(E:XK)(t:TA):TS:=fun _ σ H=>t σ H fun vs H1=>vs.length<=sizeLine/\∀ a,H1 a=none->E (.ref C) (some a) (upd H1 a (.ext (pZ a C none)))
def GR {C:Addr}
  (hc:f7 K C uh "ValueError.__new__" none=true)(hg:Gl (gW (fY P w) P w K mg base N qual scope f cd A outer s0 H0 E) x)(hm:mg x=some (.ref C))
  (ha:PA (gW (fY P w) P w K mg base N qual scope f cd A outer s0 H0 E) (e::es) t)(hdb:(x == ("__debug__":Str))=false:=by decide)
  (he:starEach (e::es) (envOfC qual scope s0.heap.objs.size f cd)=(false,eval e (envOfC qual scope s0.heap.objs.size f cd))::starEach es (envOfC qual scope s0.heap.objs.size f cd):=by rfl)
  (hpl:(backTo cpos (starEach es (envOfC qual scope s0.heap.objs.size f cd))).any (·.1)=false:=by rfl) :
  PS (gW (fY P w) P w K mg base N qual scope f cd A outer s0 H0 E) (.Raise (some (.Call (.Name x np) (e::es) [] cpos)) none pos) (L6 C E t):=by
 intro pins s σ H D I h;obtain ⟨bm,N0,nm,qn,bs,hd,sn,sub,ab,col,dd,k0,k1,k2,k3,k5,mN,hC,hN,hni,T⟩:=(J1 I.ok.mod.Ik hc).obj;refine wpAny_Raise_call_subT (C:=C) (nm:=nm) (q:=qn) (N:=N0) (bs:=bs) (bm:=bm) (hdct:=hd) (sn:=sn) (sub:=sub) (ab:=ab) (col:=col) (dd:=dd) (k0:=k0) (k1:=k1) (k2:=k2) (k3:=k3) (k5:=k5)
  PySem.F.excBase_ValueError (mN:=mN) (T.hasType (by decide)) (I.ok.hd rfl) (by show (backTo cpos (starEach (e::es) (envOfC qual scope s0.heap.objs.size f cd))).any (·.1)=false;rw [he];show (false || (backTo cpos (starEach es (envOfC qual scope s0.heap.objs.size f cd))).any (·.1))=false;rw [hpl];rfl) hni (AQ I hg hm ⟨rfl,?_⟩ hdb)
 have go:=ha cpos pins s σ H _ I h;show wpAny (model P w) _ (evalArgs (.ref C) true (backTo cpos (starEach (e::es) (envOfC qual scope s0.heap.objs.size f cd))) []) _ _ _;have go':wpAny (model P w) _ (spliced (backTo cpos (starEach (e::es) (envOfC qual scope s0.heap.objs.size f cd)))) _ _ _:=go;rw [he] at go' ⊢;refine Calls.evalArgs_plain (aN go' fun us s1 ⟨vs,H1,I1,r,hz,q⟩=>?_)
 have kp:∀ b o,base.get? b=some o->s1.heap.get? b=some o:=I1.bk;refine ⟨rfl,by rw [<- r.length];exact hz,kp _ _ hC,hN.keeps kp,T.keeps kp,fun h' a M=>?_⟩
 obtain ⟨hp,g,dr,tk,os⟩:=s1;obtain ⟨keeps,new,t0,hx,_,_⟩:=M;have I2:=I1.Cf (a:=a) (o:=.ext (pZ a C none)) (t':=tk) keeps new (D0 ⟨_,_,_,_,_,_,_,hx⟩);have na:s0.heap.get? a=none:=by
  cases c:s0.heap.get? a with
  | none=>rfl
  | some o =>
   obtain ⟨o1,e1⟩:=I1.base.there a o c (by show a∉([]:Uh);simp)
   rw [e1] at new;cases new
 exact ND I2 (aL) hx na (q a (I1.kZ new))
end
section
variable {P:Program}{w:World}{K:UU}{mg:UE}{base:Heap}
def uu.Q8 {x qual:Str}{st:Stmt}{f:Addr}{fd:FuncData}{N ps:Us}{k:Nat}{sp:Sp}(F:uu K x qual st f fd)(S:aH N ps (ay st))(len:∀ vs H Q E,sp vs H Q E->vs.length=ps.length)
  (hbody:∀ (cdv:Value)(A:Around)(outer:List Env)(s:Shared)(H:Hp)(vs:List V)(Q:VK)(E:XK),eT k (A.deeper (envOfC qual (ay st) s.heap.objs.size f cdv))->sp vs H Q E ->
   ∃ t,p9 (gW (fY P w) P w K mg base N qual (ay st) f cdv A outer s H E) (iN st) t/\t { nx:=fun _ H'=>Q .bF H',rt:=Q } (start N vs) H):gO P w K mg base (fY P w) (k + 1) f fd ps sp:=by
 obtain ⟨oc,od,kV,doc,pm,an,cdv,ct,osl,rfl,lk,hcd⟩:=F.ex;refine OP lk hcd S len fun A outer s H vs Q E hr hsp=>?_
 obtain ⟨t,h,q⟩:=hbody cdv A outer s H vs Q E hr hsp;exact ⟨t,h,q⟩
def bU (P:Program)(w:World)(K:UU)(mg:UE)(base:Heap) (k:Nat) (x:Str)(ps:Us)(sp:Sp):Prop :=
 ∃ f fd,mg x=some (.ref f)/\PySem.W.keepIn K (.ref f)=true/\Binds K fd ps []/\gO P w K mg base (fY P w) k f fd ps sp
end
end L2
namespace Dv
open PySem L2 PySem.W
def WE (X:Cx)(e:Expr):TE:=fun σ H Q=>∀ (pins:UG)(s:Shared),Inv X pins σ H s->wpAny (model X.prog X.w) X.A (eval e X.env) (EP X pins σ Q) X.xe s
def bg:PE X e (WE X e):=fun pins s _ _ _ I h=>h pins s I
def WE.of (h:PE X e t)(q:t σ H Q):WE X e σ H Q:=fun pins s I=>h pins s σ H Q I q
def WT (X:Cx)(e:Expr):TT:=fun σ H Q=>∀ (pins:UG)(s:Shared),Inv X pins σ H s->wpAny (model X.prog X.w) X.A (isTrue e X.env (eval e X.env)) (TP X pins σ Q) X.xe s
def j5:PT X e (WT X e):=fun pins s _ _ _ I h=>h pins s I
def WT.of (h:PT X e t)(q:t σ H Q):WT X e σ H Q:=fun pins s I=>h pins s σ H Q I q
def wz (X:Cx):Ul->TA
 | [],_,H,Q=>Q [] H
 | e::es,σ,H,Q=>WE X e σ H fun v H1=>wz X es σ H1 fun vs H2=>Q (v::vs) H2
def sel (π:Uq)(σ:St):St:=π.map fun i=>(σ[i]?).join
def dm {j i:Nat}(h:π[j]?=some i)(e:σ[i]?=some (some v)):(sel π σ)[j]?=some (some v):=by
 unfold sel;rw [RN,h];show some (σ[i]?).join=_;rw [e];rfl
def XL (X:Cx)(Ex:XK)(x:XC)(g:Gh):Prop:=∀ (c:Str)(d:PyData)(C a:Addr)(H':Hp),X.mg c=some (.ref C)->x c d->(∀ p o,p∉g.M->g.H0 p=some o->H' p=some o)->H' a=some (.ext (pZ a C none))->g.H0 a=none->Ex (.ref C) (some a) H'
def XL.no:XL X Ex xF g:=fun _ _ _ _ _ _ z=>z.elim
def SE (X:Cx)(Ex:XK)(π:Uq)(e:Expr)(d:DE):Prop :=
 ∀ (g:Gh)(x:XC)(E:En)(σ:St)(H Hm:Hp)(F:Nat->Uh)(P:Ut)(Q:VK),XL X Ex x g->Rl X.K g E σ H Hm F->d x E P ->
  (∀ E' k v u H' Hm' F' fp,P E' k v->Rl X.K g E' σ H' Hm' F'->aj Hm Hm'->Tm X.K g F' H' Hm' k u v fp->Q u H')->WE X e (sel π σ) H Q
def ST (X:Cx)(Ex:XK)(π:Uq)(e:Expr)(d:DT):Prop :=
 ∀ (g:Gh)(x:XC)(E:En)(σ:St)(H Hm:Hp)(F:Nat->Uh)(P:Uy)(Q:Bool->Hp->Prop),XL X Ex x g->Rl X.K g E σ H Hm F->d x E P ->
  (∀ E' b H' Hm' F',P E' b->Rl X.K g E' σ H' Hm' F'->aj Hm Hm'->Q b H')->WT X e (sel π σ) H Q
inductive aY (X:Cx)(Ex:XK)(π:Uq):Ul->List Arg->Prop
 | nil:aY X Ex π [] []
 | pk {e:Expr}{es:Ul}{as:List Arg}{i j:Nat}:PE X e (jL j)->π[j]?=some i->aY X Ex π es as->aY X Ex π (e::es) (.pk i::as)
 | ev {e:Expr}{es:Ul}{as:List Arg}{d:DE}:SE X Ex π e d->aY X Ex π es as->aY X Ex π (e::es) (.ev d::as)
inductive Got (K:Frag)(σ:St)(Hm:Hp):List Arg->List (Option PyData)->List V->Prop
 | nil:Got K σ Hm [] [] []
 | pk {i:Nat}{v:V}{as:List Arg}{os:Uu}{vs:List V}:σ[i]?=some (some v)->Got K σ Hm as os vs->Got K σ Hm (.pk i::as) (none::os) (v::vs)
 | ev {e:DE}{v:V}{d:PyData}{as:List Arg}{os:Uu}{vs:List V}:Rp K Hm v d->Got K σ Hm as os vs->Got K σ Hm (.ev e::as) (some d::os) (v::vs)
def mC {F:Nat->Uh}(R:Rl K g E σ H Hm F){i:Nat}(h:here E i=true):∃ v,σ[i]?=some (some v):=by
 unfold here at h;split at h
 ·rename_i kd e;obtain ⟨v,h1,_⟩:=R.slot i kd.1 kd.2 e;exact ⟨v,h1⟩
 ·cases h
section
variable {X:Cx}{Ex:XK}{π:Uq}{g:Gh}{x:XC}{σ:St}
def oz (hx:XL X Ex x g)(S:aY X Ex π es as):∀ {E:En}{H Hm:Hp}{F:Nat->Uh}{P:En->List (Option PyData)->Prop}{Q:List V->Hp->Prop},Rl X.K g E σ H Hm F->kP as x E P ->
  (∀ E' os vs H' Hm' F',P E' os->Rl X.K g E' σ H' Hm' F'->aj Hm Hm'->Got X.K σ Hm' as os vs->Q vs H')->wz X es (sel π σ) H Q:=by
 induction S with
 | nil=>exact fun R h q=>q _ _ _ _ _ _ h R (aj.refl _) .nil
 | @pk e es as i j hp hj _ ih =>
  intro E H Hm F P Q R h q
  replace h:bK (here E i) _:=h
  rw [eE] at h;obtain ⟨h1,h2⟩:=h;obtain ⟨v,hv⟩:=mC R h1;refine WE.of hp ⟨v,dm hj hv,ih R h2 fun E' os vs H' Hm' F' p R' s G=>q _ _ _ _ _ _ p R' s (.pk hv G)⟩
 | @ev e es as d hd _ ih =>
  intro E H Hm F P Q R h q;refine hd g x E σ H Hm F _ _ hx R h fun E1 k v u H1 Hm1 F1 fp p R1 s1 T=>?_
  replace p:bK k.fz _:=p
  rw [eE] at p;obtain ⟨hk,p⟩:=p;obtain ⟨Hm2,s2,R2,r⟩:=T.cJ R1 hk;exact ih R2 p fun E' os vs H' Hm' F' p' R' s' G=>q _ _ _ _ _ _ p' R' (s1.trans (s2.trans s')) (.ev (r.mono s') G)
theorem nX {F:Nat->Uh}(R:Rl K g E σ H Hm F)(s:aj Hm Hm1):∀ {as:List Arg}{os:Uu}{vs:List V}{ds:Ub},Got K σ Hm as os vs->fill as E os=some ds->(∀ i∈iQ as,∀ a∈F i,Hm1 a=H a)->aG K Hm1 vs ds
 | _,_,_,_,.nil,h,_=>by cases h;exact .nil
 | _,_,_,_,.pk (i:=i) (as:=as) (os:=os) hv G,h,n=>by
  rw [fill] at h;split at h
  ·rename_i k d e
   by_cases hk:k.rd=true
   ·rw [if_pos hk] at h;cases hf:fill as E os with
    | none=>rw [hf] at h;cases h
    | some es =>
     rw [hf] at h;cases h;obtain ⟨v',h1,h2⟩:=R.slot i k d e;rw [hv] at h1;cases h1;exact .cons (h2.rp hk s (n i RA)) (nX R s G hf fun j hj=>n j (RG _ hj))
   ·rw [if_neg hk] at h;cases h
  ·cases h
 | _,_,_,_,.ev (as:=as) (os:=os) r G,h,n=>by
  rw [fill] at h;cases hf:fill as E os with
  | none=>rw [hf] at h;cases h
  | some es =>
   rw [hf] at h;cases h;exact .cons (r.mono s) (nX R s G hf n)
theorem oJ:∀ {is:Uq}{E E2:En},eu is E=some E2->E2.length=E.length/\∀ j,(j∉is->E2[j]?=E[j]?)/\(j∈is->∃ k d,E[j]?=some (some (k,d))/\k.fz=true/\E2[j]?=some (some (.sh,d)))
 | [],E,E2,h=>by
  cases h;exact ⟨rfl,fun j=>⟨fun _=>rfl,fun z=>by cases z⟩⟩
 | i::r,E,E2,h=>by
  have h:(dD E i).bind (eu r)=some E2:=h;cases hf:dD E i with
  | none=>rw [hf] at h;cases h
  | some E1 =>
   rw [hf] at h;obtain ⟨l1,g1⟩:=oJ (is:=r) (E:=E1) (E2:=E2) h;unfold dD at hf;split at hf
   ·rename_i k d e
    by_cases hk:k.fz=true
    ·rw [if_pos hk] at hf;cases hf;have li:i < E.length:=by
      rcases SG i E.length with h | h
      ·exact h
      ·rw [S4 h] at e;cases e
     rw [SH] at l1;refine ⟨l1,fun j=>⟨fun n=>?_,fun m=>?_⟩⟩
     ·have n1:j≠i:=fun z=>n (z ▸ RA)
      rw [(g1 j).1 fun z=>n (RG _ z),au (Ne.symm n1)]
     ·by_cases c:j=i
      ·subst c
       by_cases m':j∈r
       ·obtain ⟨k2,d2,e2,_,e3⟩:=(g1 j).2 m';rw [aM li] at e2;cases e2;exact ⟨k,d,e,hk,e3⟩
       ·exact ⟨k,d,e,hk,by rw [(g1 j).1 m',aM li]⟩
      ·have m':j∈r:=(RJ.mp m).resolve_left c;obtain ⟨k2,d2,e2,h2,e3⟩:=(g1 j).2 m';rw [au (Ne.symm c)] at e2;exact ⟨k2,d2,e2,h2,e3⟩
    ·rw [if_neg hk] at hf;cases hf
   ·cases hf
def zx {F:Nat->Uh}(R:Rl K g E σ H Hm F)(hE:(if flat k v=true then some E else eu is E)=some E2)
  (sH:aj H H')(s1:aj (lend Hm H (is.flatMap F)) Hm2)(s2:aj Hm2 H')(old:∀ a,H a≠none->OE (Hm2 a) (lend Hm H (is.flatMap F) a))(o:Own K H' Hm2 k u v fp)(fr:∀ a∈fp,H a=none/\Hm2 a=none) :
  ∃ Hm' F',Rl K g E2 σ H' Hm' F'/\aj Hm Hm'/\Tm K g F' H' Hm' k u v fp:=by
 have mem:∀ {a i},a∈F i->i∈is->a∈is.flatMap F:=fun ha hi=>S9.mpr ⟨_,hi,ha⟩
 have off:∀ a∈is.flatMap F,Hm a=none:=fun a ha=>by
  obtain ⟨i,_,h⟩:=S9.mp ha;exact R.off i a h
 have up:aj Hm (lend Hm H (is.flatMap F)):=iP off;have bW:∀ {i a},a∈F i->H a≠none:=fun ha z=>by
  obtain ⟨u,hu,_⟩:=R.bW _ _ ha;rw [z] at hu;cases hu
 have nfp:∀ a∈fp,∀ i,a∉F i:=fun a ha i=>R.fresh (fr a ha).1
 by_cases hf:flat k v=true
 ·rw [if_pos hf] at hE;cases hE;refine ⟨back Hm2 (is.flatMap F),F,R.grow sH (fun b o e=>?_) (zm s2) (fun i a ha=>?_) (fun a ha=>?_),fun b o e=>?_,⟨o.flat (fun a xs h=>?_) hf,fun a ha=>?_,nfp,fun a ha=>R.fj (fr a ha).1⟩⟩
  ·rw [dP fun z=>by rw [off b z] at e;cases e]
   exact s1 _ _ (up _ _ e)
  ·by_cases c:a∈is.flatMap F
   ·exact jH c
   ·rw [dP c];obtain ⟨w,hw,nt⟩:=R.bW i a ha;exact (old a (bW ha)).off (by rw [cj c];exact R.off i a ha) s2 (sH _ _ hw) nt
  ·by_cases c:a∈is.flatMap F
   ·rw [jH c,off a c];exact .inl rfl
   ·have h:=old a (R.uH ha);rw [cj c] at h;rw [dP c];exact h
  ·rw [dP fun z=>by rw [off b z] at e;cases e]
   exact s1 _ _ (up _ _ e)
  ·have c:a∉is.flatMap F:=fun z=>by
    obtain ⟨i,_,hi⟩:=S9.mp z;obtain ⟨w,hw,nt⟩:=R.bW i a hi;have e2:Hm2 a=some w:=s1 _ _ (by rw [dh z];exact hw)
    rw [e2] at h;cases h;exact nt xs rfl
   rw [dP c];exact h
  ·by_cases c:a∈is.flatMap F
   ·exact jH c
   ·rw [dP c];exact (fr a ha).2
 ·rw [if_neg hf] at hE;obtain ⟨l2,g2⟩:=oJ hE;have R':Rl K g E2 σ H' Hm2 (fun j=>if j∈is then [] else F j):={
   len:=l2.trans R.len
   sub:=s2
   slot:=fun j k' d' e'=>by
    by_cases c:j∈is
    ·obtain ⟨k0,d0,e0,hk0,e1⟩:=(g2 j).2 c;rw [e1] at e';cases e';obtain ⟨v',h1,h2⟩:=R.slot j k0 _ e0;refine ⟨v',h1,?_⟩;rw [if_pos c];exact .sh ((h2.rp (by cases k0 <;> first | rfl | cases hk0) up fun a ha=>dh (mem ha c)).mono s1)
    ·rw [(g2 j).1 c] at e';obtain ⟨v',h1,h2⟩:=R.slot j k' d' e';refine ⟨v',h1,?_⟩;rw [if_neg c];refine h2.step (up.trans s1) fun a ha=>?_
     obtain ⟨w,hw,_⟩:=h2.live a ha;rw [hw];exact sH _ _ hw
   off:=fun j a ha=>by
    by_cases c:j∈is
    ·rw [if_pos c] at ha;cases ha
    ·rw [if_neg c] at ha;obtain ⟨w,hw,nt⟩:=R.bW j a ha;refine (old a (bW ha)).off ?_ s2 (sH _ _ hw) nt;rw [cj]
     ·exact R.off j a ha
     ·intro z;obtain ⟨i,hi,h⟩:=S9.mp z;exact c (R.aV i j a h ha ▸ hi)
   bW:=fun j a ha=>by
    by_cases c:j∈is
    ·rw [if_pos c] at ha;cases ha
    ·rw [if_neg c] at ha;obtain ⟨w,hw,nt⟩:=R.bW j a ha;exact ⟨w,sH _ _ hw,nt⟩
   aV:=fun j l a h1 h2=>by
    by_cases c:j∈is
    ·rw [if_pos c] at h1;cases h1
    ·rw [if_neg c] at h1
     by_cases c':l∈is
     ·rw [if_pos c'] at h2;cases h2
     ·rw [if_neg c'] at h2;exact R.aV j l a h1 h2
   fr:=fun p o hp ho=>sH _ _ (R.fr p o hp ho)
   new:=fun j a ha=>by
    by_cases c:j∈is
    ·rw [if_pos c] at ha;cases ha
    ·rw [if_neg c] at ha;exact R.new j a ha
   pin:=fun q hq=>by
    obtain ⟨h1,ds',h2⟩:=R.pin q hq;have c:q.1∉is:=fun z=>by
     obtain ⟨k0,d0,e0,hk0,_⟩:=(g2 q.1).2 z;rw [h2] at e0;cases e0;cases hk0
    exact ⟨h1,ds',by rw [(g2 q.1).1 c];exact h2⟩
   old:=fun a ha=>by
    refine (old a (R.uH ha)).trans ?_;rw [cj]
    ·exact R.old a ha
    ·intro z;obtain ⟨i,hi,h⟩:=S9.mp z;obtain ⟨k0,d0,e0,hk0,_⟩:=(g2 i).2 hi;exact ha (R.notM e0 (by cases k0 <;> first | rfl | (rename_i p;cases p <;> first | rfl | cases hk0) | cases hk0) h) }
  refine ⟨Hm2,_,R',up.trans s1,⟨o,fun a ha=>(fr a ha).2,fun a ha i=>?_,fun a ha=>R.fj (fr a ha).1⟩⟩
  by_cases c:i∈is
  ·rw [if_pos c];simp
  ·rw [if_neg c];exact nfp a ha i
def cY (K:Frag)(f:DR)(r:List V->Hp->VK->Prop):Prop :=
 ∀ (H Hm:Hp)(vs:List V)(ds:Ub)(P:Ux)(Q:VK),aj Hm H->aG K Hm vs ds->f ds P ->
  (∀ k v u H' Hm' fp,P k v->aj H H'->aj Hm Hm'->aj Hm' H'->(∀ a,H a≠none->OE (Hm' a) (Hm a))->Own K H' Hm' k u v fp->(∀ a∈fp,H a=none/\Hm' a=none)->Q u H')->r vs H Q
def fZ (S:aY X Ex π es as)(hr:∀ σ H Q,wz X es σ H (fun vs H1=>r vs H1 Q)->WE X e σ H Q)(D:cY X.K f r):SE X Ex π e (ah f as):=by
 intro g x E σ H Hm F P Q hx R h q;refine hr _ _ _ (oz hx S R h fun E1 os vs H1 Hm1 F1 p R1 s1 G=>?_)
 replace p:zc f as E1 os P:=p
 unfold zc at p;rw [<- bS,gn] at p;obtain ⟨ds,hf,hg⟩:=p;have off:∀ a∈(iQ as).flatMap F1,Hm1 a=none:=fun a ha=>by
  obtain ⟨i,_,h⟩:=S9.mp ha;exact R1.off i a h
 have up:=iP (Hm:=Hm1) (H:=H1) off;refine D H1 (lend Hm1 H1 ((iQ as).flatMap F1)) vs ds _ Q (iJ R1.sub) (nX R1 up G hf fun i hi a ha=>dh (S9.mpr ⟨i,hi,ha⟩)) hg fun k v u H' Hm2 fp p sH sM sS old o fr=>?_
 replace p:aO (sE as E1 k v) _:=p
 rw [<- bS,Bo] at p;obtain ⟨E2,ha,p⟩:=p;obtain ⟨Hm',F',R',s',T⟩:=zx R1 (is:=iQ as) (xX ha) sH sM sS old o fr;exact q _ _ _ _ _ _ _ _ p R' (s1.trans s') T
end
end Dv
namespace L2
open PySem PySem.Spec PyProof.Rows
section
variable {X:Cx}
def BJ (i j:Int):Prop:=0 < j/\j < 115792089237316195423570985008687907853269984665640564039457584007913129639936
def Gy:bX X (binaryOp .FloorDiv) (rI BJ fun i j=>.int (i / j)):=Io fun i j _ _ _ _ _ hc q=>by
 have h1:(0:Int) < j:=hc.1;have h2:j < 115792089237316195423570985008687907853269984665640564039457584007913129639936:=hc.2;refine floordiv_int (by omega) (by rw [Int.fdiv_eq_ediv_of_nonneg i (by omega)];exact q) (.inl (PyProof.noPylong_of_log2 ?_))
 have:j.natAbs.log2 < 256:=(Nat.log2_lt (by omega)).mpr (by
  have:(2:Nat) ^ 256=115792089237316195423570985008687907853269984665640564039457584007913129639936:=by decide
  omega)
 omega
end
theorem qi:∀ {us:Ug}{ns:Ur},IntsAre us ns->Vals (ns.map V.int) us
 | _,_,.nil=>.nil
 | _,_,.cons k t r=>.cons ⟨t,rfl⟩ (qi r)
section
variable {X:Cx}
def xU:cQ X (.builtin "sorted") (fun xs H Q=>∃ (a:Addr)(ns:Ur),xs=[.ref a]/\bT X.K H a (ns.map V.int)/\ns.length < 64/\∀ (ms:Ur)(p:Addr),ms.Perm ns->ms.Pairwise (·<=·)->H p=none->Q (.ref p) (upd H p (.lst (ms.map V.int)))):=by
 intro pins s σ H xs us Q I r h;obtain ⟨a,ns,rfl,hq,hl,q⟩:=h;obtain ⟨u,rfl,ru⟩:=r.one;cases ru;obtain ⟨its,rv,p,_⟩:=I.list hq;have hlen:its.length=ns.length:=by rw [<- rv.length,RD]
 refine sorted_ints p.isList (intsAre_of rv) (by omega) fun out ms h1 h2 h3=>?_
 obtain ⟨e,he⟩:=sortedAll_at s.heap its out;have new:s.heap.get? (s.heap.objs.size + 1)=none:=Heap.get?_none_of_le (Nat.le_succ _);have rm:=qi h1;have ml:ms.length=ns.length:=h2.length_eq;have I2:=I.Cf (a:=s.heap.objs.size + 1) (o:=.lst (ms.map V.int)) (t':=s.toks) (h':=sortedAll s.heap its out) (fun b o hb=>sortedAll_old hb) new
  ⟨by rw [RD,ml];exact Nat.le_of_lt (RY hl (by decide)),out.toList,e,rm,by simpa using he⟩
 exact ⟨.ref (s.heap.objs.size + 1),_,I2,rfl,q ms _ h2 h3 (I.kZ new)⟩
end
end L2
namespace TS
open PySem PyProof.Rows
def vL:Bool->Keyed->Array Keyed->Nat->Nat->Nat->StateT SortSt Sem (Option Nat):=sortPriv% PySem.Builtin.gallop
def zP:Array Keyed->Array Keyed->StateT SortSt Sem (Array Keyed):=sortPriv% PySem.Builtin.mergeLo
def ze:Array Keyed->Array Keyed->StateT SortSt Sem (Array Keyed):=sortPriv% PySem.Builtin.mergeHi
section
variable {prog:Program}{w:World}{A:Around}{E:Tn}{s:Shared}
def jN (prog:Program)(w:World)(A:Around)(s:Shared)(kd:SortKind)(P:Value->Prop):Prop:=∀ (E:Tn) x y,P x->P y->∀ Q:Bool->Shared->Prop,(∀ b,Q b s)->wpAny (model prog w) A (keyLt' kd x y) Q E s
def Good (P:Value->Prop)(xs:Array Keyed):Prop:=∀ (i:Nat)(p:Keyed),xs[i]?=some p->P p.1
variable {kd:SortKind}{P:Value->Prop}
def ask {st:SortSt}(L:jN prog w A s kd P)(hk:kindOf st=kd)(hx:P x.1)(hy:P y.1)(h:∀ b,Q (some b) st):wpS (model prog w) A E s (lt' x y) Q st:=by
 rw [lt'_eq];refine RB (wpS_get ?_);rw [hk];refine RB (wpS_lift (wpAny_attempt (L _ _ _ hx hy _ fun b=>⟨rfl,?_⟩)))
 exact RC (h b)
def kX {st:SortSt}{i:Nat}(hi:i < xs.size)(h:∀ p,xs[i]?=some p->Q p st):wpS (model prog w) A E s (elem' xs i) Q st:=by
 rw [elem'_eq,UW hi];exact RC (h _ (UW hi))
def qf {st:SortSt}{left:Bool}{base n hint:Nat}(L:jN prog w A s kd P)(hk:kindOf st=kd)(hy:P key.1)(G:Good P xs)(hn:base + n<=xs.size)(hh:hint < n)(h:∀ k,k<=n->Q (some k) st) :
  wpS (model prog w) A E s (vL left key xs base n hint) Q st:=by
 have rW:∀ (i:Nat){R:Option Bool->SortSt->Prop},i < n->(∀ b,R (some b) st)->wpS (model prog w) A E s (do
   let x <- elem' xs (base + i)
   if left then lt' x key else return (<- lt' key x).map (!·)) R st:=fun i R hi hR=>by
  refine RB (kX (by omega) fun p hp=>?_)
  cases left with
  | true=>exact ask L hk (G _ _ hp) hy hR
  | false=>exact RB (ask L hk hy (G _ _ hp) fun b=>RC (hR _))
 unfold vL;refine RB (rW hint hh fun b=>?_)
 dsimp only;split
 all_goals
  refine RB (S2 (S3 (I:=fun _ c st'=>st'=st/\c.1=none) (Q:=fun c st'=>st'=st/\c.1=none) ?step (fun _ _ q=>q) ⟨rfl,rfl⟩) ?post)
  case step =>
   rintro x ⟨o,a,c⟩ st' _ _ ⟨rfl,rfl⟩;dsimp only;split
   ·exact RC ⟨rfl,rfl⟩
   ·refine RB (rW _ (by omega) fun b'=>?_)
    dsimp only;split
    ·exact RC ⟨rfl,rfl⟩
    ·exact RC ⟨rfl,rfl⟩
  case post =>
   rintro ⟨o,a,c⟩ st' ⟨rfl,rfl⟩;dsimp only;refine RB (S2 (S3 (I:=fun _ c st''=>st''=st'/\c.1=none/\c.2.2<=n) (Q:=fun c st''=>st''=st'/\c.1=none/\c.2.2<=n) ?step2 (fun _ _ q=>q) ⟨rfl,rfl,by dsimp only;omega⟩) ?post2)
   case step2 =>
    rintro x ⟨o,a,c⟩ st'' _ _ ⟨rfl,rfl,le⟩;dsimp only at le ⊢;split
    ·exact RC ⟨rfl,rfl,le⟩
    ·refine RB (rW _ (by omega) fun b'=>?_)
     dsimp only;split
     ·exact RC ⟨rfl,rfl,le⟩
     ·exact RC ⟨rfl,rfl,by dsimp only;omega⟩
   case post2 =>
    rintro ⟨o,a,c⟩ st'' ⟨rfl,rfl,le⟩;dsimp only;exact RC (h _ le)
end
def Pm (xs ys out:Array Keyed) (ia ib:Nat):Prop:=out.toList.Perm (xs.toList.take ia++ys.toList.take ib)
section
variable {xs ys out:Array Keyed}{ia ib k:Nat}
def yQ (zs:Array Keyed) (i k:Nat):zs.toList.take (i + k)=zs.toList.take i++(zs.extract i (i + k)).toList:=by
 rw [Array.toList_extract,List.take_add,List.extract_eq_take_drop];congr 2;omega
def Pm.x (h:Pm xs ys out ia ib) (k:Nat):Pm xs ys (out++xs.extract ia (ia + k)) (ia + k) ib:=by
 unfold Pm at *;rw [SR,yQ xs ia k,S0];refine (h.append_right _).trans ?_;rw [S0];exact T4 _ TQ
def Pm.y (h:Pm xs ys out ia ib) (k:Nat):Pm xs ys (out++ys.extract ib (ib + k)) ia (ib + k):=by
 unfold Pm at *;rw [SR,yQ ys ib k,<- S0];exact h.append_right _
def tK {zs out:Array Keyed}{i:Nat}(hp:zs[i]?=some p):out.push p=out++zs.extract i (i + 1):=by
 obtain ⟨hi,e⟩:=V2.mp hp;have:zs.extract i (i + 1)=#[p]:=by
  rw [<- e];apply Array.ext
  ·simp;omega
  ·intro j h1 h2;have:j=0:=by
    simp at h2;exact h2
   subst this;simp
 rw [this];rfl
def Pm.px {p:Keyed}(h:Pm xs ys out ia ib)(hp:xs[ia]?=some p):Pm xs ys (out.push p) (ia + 1) ib:=by
 rw [tK hp];exact h.x 1
def Pm.py {p:Keyed}(h:Pm xs ys out ia ib)(hp:ys[ib]?=some p):Pm xs ys (out.push p) ia (ib + 1):=by
 rw [tK hp];exact h.y 1
def xZ (zs:Array Keyed) (i:Nat):zs.toList=zs.toList.take i++(zs.extract i).toList:=by
 rw [Array.toList_extract,List.extract_eq_take_drop];have:List.take (zs.size - i) (List.drop i zs.toList)=List.drop i zs.toList:=UD (by simp)
 rw [this,List.take_append_drop]
def Pm.done (h:Pm xs ys out ia ib):(out++xs.extract ia++ys.extract ib).toList.Perm (xs.toList++ys.toList):=by
 unfold Pm at h;rw [SR,SR,xZ xs ia,xZ ys ib];refine ((h.append_right _).append_right _).trans ?_;simp only [S0];refine T4 _ ?_;rw [<- S0,<- S0];exact UX _ TQ
def Pm.last (h:Pm xs ys out ia ib):(out++ys.extract ib++xs.extract ia).toList.Perm (xs.toList++ys.toList):=by
 refine List.Perm.trans ?_ h.done;rw [SR,SR,SR,SR,S0,S0];exact T4 _ TQ
end
def mK (st st':SortSt):Prop:=kindOf st'=kindOf st/\arrOf st'=arrOf st/\pendingOf st'=pendingOf st/\failedOf st'=failedOf st
inductive LR (st:SortSt)(xs ys:Array Keyed) (x:Nat):Option (Array Keyed)×Array Keyed×Nat×Nat×Nat->SortSt->Prop
 | mk:∀ (out:Array Keyed) (ia ib mg:Nat)(st':SortSt),mK st st'->Pm xs ys out ia ib->ia + 1 < xs.size->ib < ys.size->x + 1<=ia + ib->LR st xs ys x (none,out,ia,ib,mg) st'
inductive BN (st:SortSt)(xs ys:Array Keyed):Option (Array Keyed)×Array Keyed×Nat×Nat×Nat->SortSt->Prop
 | mk:∀ (r out:Array Keyed) (ia ib mg:Nat)(st':SortSt),mK st st'->r.toList.Perm (xs.toList++ys.toList)->BN st xs ys (some r,out,ia,ib,mg) st'
inductive IL (st:SortSt)(xs ys:Array Keyed) (n y:Nat):Option (Array Keyed)×Array Keyed×Nat×Nat×Nat×Nat->SortSt->Prop
 | mk:∀ (out:Array Keyed) (ia ib ac bc:Nat),Pm xs ys out ia ib->ia + 1 < xs.size->ib < ys.size->y + n<=ia + ib->IL st xs ys n y (none,out,ia,ib,ac,bc) st
inductive tN (st:SortSt)(xs ys:Array Keyed) (n:Nat):Option (Array Keyed)×Array Keyed×Nat×Nat×Nat×Nat->SortSt->Prop
 | dn:∀ (r out:Array Keyed) (ia ib ac bc:Nat),r.toList.Perm (xs.toList++ys.toList)->tN st xs ys n (some r,out,ia,ib,ac,bc) st
 | go:∀ (out:Array Keyed) (ia ib ac bc:Nat),Pm xs ys out ia ib->ia + 1 < xs.size->ib < ys.size->n + 1<=ia + ib->tN st xs ys n (none,out,ia,ib,ac,bc) st
inductive LF (st:SortSt)(xs ys:Array Keyed) (n:Nat):Option (Array Keyed)×Array Keyed×Nat×Nat×Nat×Nat×Nat->SortSt->Prop
 | mk:∀ (out:Array Keyed) (ia ib mg ac bc:Nat)(st':SortSt),mK st st'->Pm xs ys out ia ib->ia + 1 < xs.size->ib < ys.size->n<=ia + ib->LF st xs ys n (none,out,ia,ib,mg,ac,bc) st'
inductive pH (st:SortSt)(xs ys:Array Keyed) (n:Nat):Option (Array Keyed)×Array Keyed×Nat×Nat×Nat×Nat×Nat->SortSt->Prop
 | dn:∀ (r out:Array Keyed) (ia ib mg ac bc:Nat)(st':SortSt),mK st st'->r.toList.Perm (xs.toList++ys.toList)->pH st xs ys n (some r,out,ia,ib,mg,ac,bc) st'
 | go:∀ (out:Array Keyed) (ia ib mg ac bc:Nat)(st':SortSt),mK st st'->Pm xs ys out ia ib->ia + 1 < xs.size->ib < ys.size->n<=ia + ib->pH st xs ys n (none,out,ia,ib,mg,ac,bc) st'
section
variable {prog:Program}{w:World}{A:Around}{E:Tn}{s:Shared}{kd:SortKind}{P:Value->Prop}
def eU {M:Model}{σ α:Type}{a b:Nat}{m1 m2:StateT σ Sem α}{Q:α->σ->Prop}{st:σ}(h1:a=b->wpS M A E s m1 Q st)(h2:a≠b->wpS M A E s m2 Q st):wpS M A E s (if (a == b)=true then m1 else m2) Q st:=by
 by_cases e:a=b
 ·rw [if_pos (beq_iff_eq.mpr e)];exact h1 e
 ·rw [if_neg (fun z=>e (beq_iff_eq.mp z))]
  exact h2 e
def cX {M:Model}{σ α:Type}{c:Prop} [Decidable c]{m1 m2:StateT σ Sem α}{Q:α->σ->Prop}{st:σ}(h1:c->wpS M A E s m1 Q st)(h2:¬ c->wpS M A E s m2 Q st):wpS M A E s (if c then m1 else m2) Q st:=by
 by_cases e:c
 ·rw [if_pos e];exact h1 e
 ·rw [if_neg e];exact h2 e
def cI {α:Type}{st:SortSt}{zs:Array Keyed}{i:Nat}{f:Keyed->StateT SortSt Sem α}{Q:α->SortSt->Prop}(hi:i < zs.size)(h:∀ p,zs[i]?=some p->wpS (model prog w) A E s (f p) Q st):wpS (model prog w) A E s (elem' zs i >>= f) Q st:=RB (kX hi h)
def yb {α:Type}{st:SortSt}{x y:Keyed}{f:Option Bool->StateT SortSt Sem α}{Q:α->SortSt->Prop}(L:jN prog w A s kd P)(hk:kindOf st=kd)(hx:P x.1)(hy:P y.1)(h:∀ b,wpS (model prog w) A E s (f (some b)) Q st):wpS (model prog w) A E s (lt' x y >>= f) Q st:=RB (ask L hk hx hy h)
def pL {α:Type}{st:SortSt}{left:Bool}{key:Keyed}{xs:Array Keyed}{base n hint:Nat}{f:Option Nat->StateT SortSt Sem α}{Q:α->SortSt->Prop}(L:jN prog w A s kd P)(hk:kindOf st=kd)(hy:P key.1)(G:Good P xs)(hn:base + n<=xs.size)(hh:hint < n)(h:∀ k,k<=n->wpS (model prog w) A E s (f (some k)) Q st):wpS (model prog w) A E s (vL left key xs base n hint >>= f) Q st:=RB (qf L hk hy G hn hh h)
def Oc {st:SortSt}{xs ys:Array Keyed}{Q:Array Keyed->SortSt->Prop}(L:jN prog w A s kd P)(hk:kindOf st=kd)(G1:Good P xs)(G2:Good P ys)(h1:1<=xs.size)(h2:1<=ys.size)(h:∀ zs st',mK st st'->zs.toList.Perm (xs.toList++ys.toList)->Q zs st') :
  wpS (model prog w) A E s (zP xs ys) Q st:=by
 unfold zP;refine RB (wpS_lift (SY ⟨rfl,?_⟩));dsimp only;refine cI (by omega) fun p hp=>?_
 have pm0:Pm xs ys #[p] 0 1:=by
  have:Pm xs ys #[] 0 0:=List.Perm.refl _;exact this.py hp
 have g0:mK st st:=⟨rfl,rfl,rfl,rfl⟩;refine eU (fun e1=>RC (h _ _ g0 pm0.done)) (fun e1=>?_)
 refine eU (fun e2=>RC (h _ _ g0 pm0.last)) (fun e2=>?_)
 refine RB (wpS_get ?_);refine RB (S2 (S3 (I:=LR st xs ys) (Q:=BN st xs ys) ?step ?fin (.mk _ _ _ _ _ g0 pm0 (by omega) (by omega) (by omega))) ?post)
 case post =>
  rintro _ st' ⟨r,out,ia,ib,mg,_,g,pr⟩;dsimp only;exact RC (h _ _ g pr)
 case fin =>
  rintro _ st' ⟨out,ia,ib,mg,_,_,_,a,b,c⟩;omega
 case step =>
  rintro x _ st' _ _ ⟨out,ia,ib,mg,_,g,pm,a1,b1,c1⟩;dsimp only;have hk':kindOf st'=kd:=g.1.trans hk;refine RB (S2 (S3 (I:=IL st' xs ys (ia + ib)) (Q:=tN st' xs ys (ia + ib)) ?step1 ?fin1 (.mk _ _ _ _ _ pm a1 b1 (by omega))) ?post1)
  case fin1 =>
   rintro _ _ ⟨out2,ia2,ib2,ac,bc,_,a,b,c⟩;omega
  case step1 =>
   rintro y _ _ _ _ ⟨out2,ia2,ib2,ac,bc,pm2,a2,b2,c2⟩;dsimp only;refine cI (by omega) fun p1 hp1=>?_
   refine cI (by omega) fun p2 hp2=>?_
   refine yb L hk' (G2 _ _ hp1) (G1 _ _ hp2) fun b=>?_
   dsimp only;cases b with
   | true =>
    rw [if_pos rfl];refine cI (by omega) fun p3 hp3=>?_
    have pm3:=pm2.py hp3;refine eU (fun e3=>RC (tN.dn _ _ _ _ _ _ pm3.done)) (fun e3=>?_)
    refine cX (fun e4=>?_) (fun e4=>?_)
    ·exact RC (tN.go _ _ _ _ _ pm3 a2 (by omega) (by omega))
    ·exact RC (IL.mk _ _ _ _ _ pm3 a2 (by omega) (by omega))
   | false =>
    rw [if_neg RX];refine cI (by omega) fun p3 hp3=>?_
    have pm3:=pm2.px hp3;refine eU (fun e3=>RC (tN.dn _ _ _ _ _ _ pm3.last)) (fun e3=>?_)
    refine cX (fun e4=>?_) (fun e4=>?_)
    ·exact RC (tN.go _ _ _ _ _ pm3 (by omega) b2 (by omega))
    ·exact RC (IL.mk _ _ _ _ _ pm3 (by omega) b2 (by omega))
  case post1 =>
   rintro _ _ (⟨r,out2,ia2,ib2,ac,bc,pr⟩ | ⟨out2,ia2,ib2,ac,bc,pm2,a2,b2,c2⟩)
   ·exact RC (BN.mk _ _ _ _ _ _ g pr)
   ·dsimp only;refine RB (wpS_lift (SY ⟨rfl,?_⟩));refine RB (S2 (S3 (I:=fun _=>LF st xs ys (ia2 + ib2)) (Q:=pH st xs ys (ia2 + ib2)) ?step2 (fun c st3 q=>by cases q;exact .go _ _ _ _ _ _ _ ‹_› ‹_› ‹_› ‹_› ‹_›) (.mk _ _ _ _ _ _ _ g pm2 a2 b2 (RE _))) ?post2)
    case step2 =>
     rintro y _ st3 _ _ ⟨out3,ia3,ib3,mg3,ac3,bc3,_,g3,pm3,a3,b3,c3⟩;dsimp only;have hk3:kindOf st3=kd:=g3.1.trans hk;refine cX (fun e5=>?b1) (fun e5=>?b2)
     generalize mg3 - 1=v;clear e5;revert v;refine ?key
     case b2=>exact ?key mg3
     intro v;refine RB (Sb ?_);refine cI (by omega) fun p1 hp1=>?_
     refine pL L hk3 (G2 _ _ hp1) G1 (by omega) (by omega) fun k hk1=>?_
     dsimp only;refine cX (fun k0=>?c1) (fun k0=>?c2)
     have pm4:=pm3.x k;refine eU (fun e6=>RC (pH.dn _ _ _ _ _ _ _ _ g3 pm4.last)) (fun e6=>?_)
     refine eU (fun e7=>RC (pH.dn _ _ _ _ _ _ _ _ g3 pm4.done)) (fun e7=>?_)
     generalize out3++xs.extract ia3 (ia3 + k)=o at pm4 ⊢;have n1:ia3 + k + 1 < xs.size:=by omega
     have n0:ia3<=ia3 + k:=by omega
     revert n0 n1 pm4;clear e6 e7 k0;generalize ia3 + k=n;clear hk1;generalize k=d;revert o n d;refine ?key2
     case c2=>exact ?key2 out3 ia3 k pm3 a3 (RE _)
     intro o n d pm4 n1 n0;refine cI (by omega) fun p2 hp2=>?_
     have pm5:=pm4.py hp2;refine eU (fun e8=>RC (pH.dn _ _ _ _ _ _ _ _ g3 pm5.done)) (fun e8=>?_)
     refine cI (by omega) fun p3 hp3=>?_
     refine pL L hk3 (G1 _ _ hp3) G2 (by omega) (by omega) fun k2 hk2=>?_
     dsimp only;refine cX (fun k20=>?d1) (fun k20=>?d2)
     have pm6:=pm5.y k2;refine eU (fun e9=>RC (pH.dn _ _ _ _ _ _ _ _ g3 pm6.done)) (fun e9=>?_)
     generalize o.push _++ys.extract (ib3 + 1) (ib3 + 1 + k2)=o2 at pm6 ⊢;have m1:ib3 + 1 + k2 < ys.size:=by omega
     have m0:ib3 + 1<=ib3 + 1 + k2:=by omega
     revert m0 m1 pm6;clear e9 k20;generalize ib3 + 1 + k2=m;clear hk2;generalize k2=d2;revert o2 m d2;refine ?key3
     case d2=>exact ?key3 _ _ _ pm5 (by omega) (RE _)
     intro o2 m d2 pm6 m1 m0;refine cI (by omega) fun p4 hp4=>?_
     have pm7:=pm6.px hp4;refine eU (fun e10=>RC (pH.dn _ _ _ _ _ _ _ _ g3 pm7.last)) (fun e10=>?_)
     refine cX (fun _=>?_) (fun _=>?_)
     ·exact RC (pH.go _ _ _ _ _ _ _ g3 pm7 (by omega) (by omega) (by omega))
     ·exact RC (LF.mk _ _ _ _ _ _ _ g3 pm7 (by omega) (by omega) (by omega))
    case post2 =>
     rintro _ st3 (⟨r,out3,ia3,ib3,mg3,ac3,bc3,_,g3,pr⟩ | ⟨out3,ia3,ib3,mg3,ac3,bc3,_,g3,pm3,a3,b3,c3⟩)
     ·exact RC (BN.mk _ _ _ _ _ _ g3 pr)
     ·dsimp only;refine RB (Sb ?_);exact RC (LR.mk _ _ _ _ _ g3 pm3 a3 b3 (by omega))
end
def Pr (xs ys out:Array Keyed) (na nb:Nat):Prop:=out.toList.Perm (xs.toList.drop na++ys.toList.drop nb)
section
variable {xs ys out:Array Keyed}{na nb k:Nat}
def jD (zs:Array Keyed){i n:Nat}(h:i<=n):zs.toList.drop i=(zs.extract i n).toList++zs.toList.drop n:=by
 obtain ⟨d,rfl⟩:=Nat.exists_eq_add_of_le h;rw [Array.toList_extract,List.extract_eq_take_drop,UY,<- List.drop_drop];exact (List.take_append_drop d _).symm
def Pr.x (h:Pr xs ys out na nb)(hk:k<=na):Pr xs ys (out++(xs.extract k na).reverse) k nb:=by
 unfold Pr at *;rw [SR,jD xs hk,Array.toList_reverse,S0];refine (h.append_right _).trans ?_;refine TQ.trans ?_;exact UX _ (List.reverse_perm _)
def Pr.y (h:Pr xs ys out na nb)(hk:k<=nb):Pr xs ys (out++(ys.extract k nb).reverse) na k:=by
 unfold Pr at *;rw [SR,jD ys hk,Array.toList_reverse];refine (h.append_right _).trans ?_;rw [S0];refine T4 _ ?_;refine TQ.trans ?_;exact UX _ (List.reverse_perm _)
def yP {zs out:Array Keyed}{i:Nat}(h1:1<=i)(hp:zs[i - 1]?=some p):out.push p=out++(zs.extract (i - 1) i).reverse:=by
 have e:=tK (out:=#[]) hp;rw [show i - 1 + 1=i by omega] at e
 have e2:zs.extract (i - 1) i=#[p]:=by
  rw [Array.empty_append] at e;exact e.symm
 rw [e2];rfl
def Pr.px {p:Keyed}(h:Pr xs ys out na nb)(h1:1<=na)(hp:xs[na - 1]?=some p):Pr xs ys (out.push p) (na - 1) nb:=by
 rw [yP h1 hp];exact h.x (by omega)
def Pr.py {p:Keyed}(h:Pr xs ys out na nb)(h1:1<=nb)(hp:ys[nb - 1]?=some p):Pr xs ys (out.push p) na (nb - 1):=by
 rw [yP h1 hp];exact h.y (by omega)
def Pr.done (h:Pr xs ys out na nb):(xs.extract 0 na++ys.extract 0 nb++out.reverse).toList.Perm (xs.toList++ys.toList):=by
 unfold Pr at h;have e1:=jD xs (S8 na);have e2:=jD ys (S8 nb);rw [List.drop_zero] at e1 e2;rw [SR,SR,Array.toList_reverse]
 conv=>rhs;rw [e1,e2]
 rw [S0,S0];refine T4 _ ?_;refine (T4 _ ((List.reverse_perm _).trans h)).trans ?_;rw [<- S0,<- S0];exact UX _ TQ
def Pr.first (h:Pr xs ys out na nb):(ys.extract 0 nb++xs.extract 0 na++out.reverse).toList.Perm (xs.toList++ys.toList):=by
 refine List.Perm.trans ?_ h.done;rw [SR,SR,SR,SR];exact UX _ TQ
end
inductive Nh (st:SortSt)(xs ys:Array Keyed) (x:Nat):Option (Array Keyed)×Nat×Nat×Array Keyed×Nat->SortSt->Prop
 | mk:∀ (na nb:Nat)(out:Array Keyed) (mg:Nat)(st':SortSt),mK st st'->Pr xs ys out na nb->1<=na->2<=nb->na<=xs.size->nb<=ys.size->na + nb + x + 1<=xs.size + ys.size->Nh st xs ys x (none,na,nb,out,mg) st'
inductive CI (st:SortSt)(xs ys:Array Keyed):Option (Array Keyed)×Nat×Nat×Array Keyed×Nat->SortSt->Prop
 | mk:∀ (r:Array Keyed) (na nb:Nat)(out:Array Keyed) (mg:Nat)(st':SortSt),mK st st'->r.toList.Perm (xs.toList++ys.toList)->CI st xs ys (some r,na,nb,out,mg) st'
inductive Iz (st:SortSt)(xs ys:Array Keyed) (n y:Nat):Option (Array Keyed)×Nat×Nat×Array Keyed×Nat×Nat->SortSt->Prop
 | mk:∀ (na nb:Nat)(out:Array Keyed) (ac bc:Nat),Pr xs ys out na nb->1<=na->2<=nb->na<=xs.size->nb<=ys.size->na + nb + y<=n->Iz st xs ys n y (none,na,nb,out,ac,bc) st
inductive tw (st:SortSt)(xs ys:Array Keyed) (n:Nat):Option (Array Keyed)×Nat×Nat×Array Keyed×Nat×Nat->SortSt->Prop
 | dn:∀ (r:Array Keyed) (na nb:Nat)(out:Array Keyed) (ac bc:Nat),r.toList.Perm (xs.toList++ys.toList)->tw st xs ys n (some r,na,nb,out,ac,bc) st
 | go:∀ (na nb:Nat)(out:Array Keyed) (ac bc:Nat),Pr xs ys out na nb->1<=na->2<=nb->na<=xs.size->nb<=ys.size->na + nb + 1<=n->tw st xs ys n (none,na,nb,out,ac,bc) st
inductive NC (st:SortSt)(xs ys:Array Keyed) (n:Nat):Option (Array Keyed)×Nat×Nat×Array Keyed×Nat×Nat×Nat->SortSt->Prop
 | mk:∀ (na nb:Nat)(out:Array Keyed) (mg ac bc:Nat)(st':SortSt),mK st st'->Pr xs ys out na nb->1<=na->2<=nb->na<=xs.size->nb<=ys.size->na + nb<=n->NC st xs ys n (none,na,nb,out,mg,ac,bc) st'
inductive oV (st:SortSt)(xs ys:Array Keyed) (n:Nat):Option (Array Keyed)×Nat×Nat×Array Keyed×Nat×Nat×Nat->SortSt->Prop
 | dn:∀ (r:Array Keyed) (na nb:Nat)(out:Array Keyed) (mg ac bc:Nat)(st':SortSt),mK st st'->r.toList.Perm (xs.toList++ys.toList)->oV st xs ys n (some r,na,nb,out,mg,ac,bc) st'
 | go:∀ (na nb:Nat)(out:Array Keyed) (mg ac bc:Nat)(st':SortSt),mK st st'->Pr xs ys out na nb->1<=na->2<=nb->na<=xs.size->nb<=ys.size->na + nb<=n->oV st xs ys n (none,na,nb,out,mg,ac,bc) st'
section
variable {prog:Program}{w:World}{A:Around}{E:Tn}{s:Shared}{kd:SortKind}{P:Value->Prop}
def Om {st:SortSt}(L:jN prog w A s kd P)(hk:kindOf st=kd)(G1:Good P xs)(G2:Good P ys)(h1:1<=xs.size)(h2:1<=ys.size)(h:∀ zs st',mK st st'->zs.toList.Perm (xs.toList++ys.toList)->Q zs st') :
  wpS (model prog w) A E s (ze xs ys) Q st:=by
 unfold ze;refine RB (wpS_lift (SY ⟨rfl,?_⟩));dsimp only;refine cI (by omega) fun p hp=>?_
 have pm0:Pr xs ys #[p] (xs.size - 1) ys.size:=by
  have z:Pr xs ys #[] xs.size ys.size:=by
   unfold Pr;rw [List.drop_of_length_le (by simp),List.drop_of_length_le (by simp)]
   exact List.Perm.refl _
  exact z.px h1 hp
 have g0:mK st st:=⟨rfl,rfl,rfl,rfl⟩;refine eU (fun e1=>RC (h _ _ g0 pm0.done)) (fun e1=>?_)
 refine eU (fun e2=>RC (h _ _ g0 pm0.first)) (fun e2=>?_)
 refine RB (wpS_get ?_);refine RB (S2 (S3 (I:=Nh st xs ys) (Q:=CI st xs ys) ?step ?fin (.mk _ _ _ _ _ g0 pm0 (by omega) (by omega) (by omega) (by omega) (by omega))) ?post)
 case post =>
  rintro _ st' ⟨r,na,nb,out,mg,_,g,pr⟩;dsimp only;exact RC (h _ _ g pr)
 case fin =>
  rintro _ st' ⟨na,nb,out,mg,_,_,_,a,b,c,d,e⟩;omega
 case step =>
  rintro x _ st' _ _ ⟨na,nb,out,mg,_,g,pm,a1,b1,c1,d1,f1⟩;dsimp only;have hk':kindOf st'=kd:=g.1.trans hk;refine RB (S2 (S3 (I:=Iz st' xs ys (na + nb)) (Q:=tw st' xs ys (na + nb)) ?step1 ?fin1 (.mk _ _ _ _ _ pm a1 b1 c1 d1 (by omega))) ?post1)
  case fin1 =>
   rintro _ _ ⟨na2,pV,out2,ac,bc,_,a,b,c,d,e⟩;omega
  case step1 =>
   rintro y _ _ _ _ ⟨na2,pV,out2,ac,bc,pm2,a2,b2,c2,d2,f2⟩;dsimp only;refine cI (by omega) fun p1 hp1=>?_
   refine cI (by omega) fun p2 hp2=>?_
   refine yb L hk' (G2 _ _ hp1) (G1 _ _ hp2) fun b=>?_
   dsimp only;cases b with
   | true =>
    rw [if_pos rfl];refine cI (by omega) fun p3 hp3=>?_
    have pm3:=pm2.px (by omega) hp3
    refine eU (fun e3=>RC (tw.dn _ _ _ _ _ _ pm3.done)) (fun e3=>?_)
    refine cX (fun e4=>?_) (fun e4=>?_)
    ·exact RC (tw.go _ _ _ _ _ pm3 (by omega) (by omega) (by omega) (by omega) (by omega))
    ·exact RC (Iz.mk _ _ _ _ _ pm3 (by omega) (by omega) (by omega) (by omega) (by omega))
   | false =>
    rw [if_neg RX];refine cI (by omega) fun p3 hp3=>?_
    have pm3:=pm2.py (by omega) hp3
    refine eU (fun e3=>RC (tw.dn _ _ _ _ _ _ pm3.first)) (fun e3=>?_)
    refine cX (fun e4=>?_) (fun e4=>?_)
    ·exact RC (tw.go _ _ _ _ _ pm3 (by omega) (by omega) (by omega) (by omega) (by omega))
    ·exact RC (Iz.mk _ _ _ _ _ pm3 (by omega) (by omega) (by omega) (by omega) (by omega))
  case post1 =>
   rintro _ _ (⟨r,na2,pV,out2,ac,bc,pr⟩ | ⟨na2,pV,out2,ac,bc,pm2,a2,b2,c2,d2,f2⟩)
   ·exact RC (CI.mk _ _ _ _ _ _ g pr)
   ·dsimp only;refine RB (wpS_lift (SY ⟨rfl,?_⟩));refine RB (S2 (S3 (I:=fun _=>NC st xs ys (na2 + pV)) (Q:=oV st xs ys (na2 + pV)) ?step2 (fun c st3 q=>by cases q;exact .go _ _ _ _ _ _ _ ‹_› ‹_› ‹_› ‹_› ‹_› ‹_› ‹_›) (.mk _ _ _ _ _ _ _ g pm2 a2 b2 c2 d2 (RE _))) ?post2)
    case step2 =>
     rintro y _ st3 _ _ ⟨na3,nb3,out3,mg3,ac3,bc3,_,g3,pm3,a3,b3,c3,d3,f3⟩;dsimp only;have hk3:kindOf st3=kd:=g3.1.trans hk;refine cX (fun e5=>?b1) (fun e5=>?b2)
     generalize mg3 - 1=v;clear e5;revert v;refine ?key
     case b2=>exact ?key mg3
     intro v;refine RB (Sb ?_);refine cI (by omega) fun p1 hp1=>?_
     refine pL L hk3 (G2 _ _ hp1) G1 (by omega) (by omega) fun k hk1=>?_
     dsimp only;refine cX (fun k0=>?c1) (fun k0=>?c2)
     have pm4:=pm3.x hk1;refine eU (fun e7=>RC (oV.dn _ _ _ _ _ _ _ _ g3 pm4.done)) (fun e7=>?_)
     generalize out3++(xs.extract k na3).reverse=o at pm4 ⊢;generalize na3 - k=d;have n1:1<=k:=by omega
     revert n1 pm4;clear e7 k0;revert hk1;generalize k=n;revert d o n;refine ?key2
     case c2=>exact ?key2 out3 (na3 - k) na3 (RE _) pm3 (by omega)
     intro o d n hk1 pm4 n1;refine cI (by omega) fun p2 hp2=>?_
     have pm5:=pm4.py (by omega) hp2
     refine eU (fun e8=>RC (oV.dn _ _ _ _ _ _ _ _ g3 pm5.first)) (fun e8=>?_)
     refine cI (by omega) fun p3 hp3=>?_
     refine pL L hk3 (G1 _ _ hp3) G2 (by omega) (by omega) fun k2 hk2=>?_
     dsimp only;refine cX (fun k20=>?d1) (fun k20=>?d2)
     have pm6:=pm5.y hk2;refine eU (fun e9=>RC (oV.dn _ _ _ _ _ _ _ _ g3 pm6.first)) (fun e9=>?_)
     refine eU (fun e9'=>RC (oV.dn _ _ _ _ _ _ _ _ g3 pm6.done)) (fun e9'=>?_)
     have n2:2<=k2:=by omega
     revert n2 pm6;generalize o.push _++(ys.extract k2 (nb3 - 1)).reverse=o2;generalize nb3 - 1 - k2=d2;clear e9 e9' k20;revert hk2;generalize k2=m;revert d2 o2 m;refine ?key3
     case d2=>exact ?key3 _ _ _ (RE _) pm5 (by omega)
     intro o2 d2 m hm pm6 n2;refine cI (by omega) fun p4 hp4=>?_
     have pm7:=pm6.px (by omega) hp4
     refine eU (fun e10=>RC (oV.dn _ _ _ _ _ _ _ _ g3 pm7.done)) (fun e10=>?_)
     refine cX (fun _=>?_) (fun _=>?_)
     ·exact RC (oV.go _ _ _ _ _ _ _ g3 pm7 (by omega) (by omega) (by omega) (by omega) (by omega))
     ·exact RC (NC.mk _ _ _ _ _ _ _ g3 pm7 (by omega) (by omega) (by omega) (by omega) (by omega))
    case post2 =>
     rintro _ st3 (⟨r,na3,nb3,out3,mg3,ac3,bc3,_,g3,pr⟩ | ⟨na3,nb3,out3,mg3,ac3,bc3,_,g3,pm3,a3,b3,c3,d3,f3⟩)
     ·exact RC (CI.mk _ _ _ _ _ _ g3 pr)
     ·dsimp only;refine RB (Sb ?_);exact RC (Nh.mk _ _ _ _ _ g3 pm3 a3 b3 c3 d3 (by omega))
end
structure SB (kd:SortKind)(xs0:Array Keyed)(st:SortSt):Prop where
 perm:(arrOf st).Perm xs0
 kind:kindOf st=kd
 ok:failedOf st=none
theorem SB.size {kd:SortKind}{st:SortSt}(B:SB kd xs0 st):(arrOf st).size=xs0.size:=B.perm.size_eq
def Good.perm (G:Good P ys)(p:xs.Perm ys):Good P xs:=fun i q h=>by
 have m:q∈xs.toList:=Rt (by rw [So];exact h)
 have m2:q∈ys.toList:=(Array.perm_iff_toList_perm.mp p).mem_iff.mp m;obtain ⟨j,hj⟩:=UA m2;rw [So] at hj;exact G j q hj
section
variable {prog:Program}{w:World}{A:Around}{E:Tn}{s:Shared}{kd:SortKind}{P:Value->Prop}{xs0:Array Keyed}
def gr {st:SortSt}{i j:Nat}(L:jN prog w A s kd P)(G:Good P xs0)(B:SB kd xs0 st)(hi:i < xs0.size)(hj:j < xs0.size)(h:∀ b,Q (some b) st):wpS (model prog w) A E s (ltAt' i j) Q st:=by
 rw [ltAt'_eq];refine RB (wpS_get ?_);have G':=G.perm B.perm;refine RB (kX (by rw [B.size];exact hi) fun p hp=>?_)
 refine RB (kX (by rw [B.size];exact hj) fun q hq=>?_)
 exact ask L B.kind (G' _ _ hp) (G' _ _ hq) h
def jr {st:SortSt}{i j:Nat}(B:SB kd xs0 st)(h:∀ st',SB kd xs0 st'->pendingOf st'=pendingOf st->Q () st'):wpS (model prog w) A E s (reverseSlice' i j) Q st:=by
 rw [reverseSlice'_eq];exact Sb (h _ ⟨(mirror_perm _ _ _ _).trans B.perm,B.kind,B.ok⟩ rfl)
def HG {st:SortSt}{lo nrem:Nat}(L:jN prog w A s kd P)(G:Good P xs0)(B:SB kd xs0 st)(h1:1<=nrem)(hn:lo + nrem<=xs0.size)(h:∀ m st',SB kd xs0 st'->pendingOf st'=pendingOf st->1<=m->m<=nrem->Q (some m) st') :
  wpS (model prog w) A E s (countRun' lo nrem) Q st:=by
 unfold countRun';refine RB (S2 (S3 (I:=fun x c st'=>st'=st/\c.1=none/\c.2=x) (Q:=fun c st'=>st'=st/\c.1=none/\1<=c.2/\c.2<=nrem) ?step ?fin ⟨rfl,rfl,rfl⟩) ?post)
 case step =>
  rintro x ⟨o,n⟩ st' a b ⟨rfl,rfl,rfl⟩;dsimp only;refine RB (gr L G B (by dsimp only at a b;omega) (by dsimp only at a b;omega) fun c=>?_)
  dsimp only;refine cX (fun _=>RC ⟨rfl,rfl,by dsimp only at a b ⊢;omega,by dsimp only at a b ⊢;omega⟩) (fun _=>RC ⟨rfl,rfl,rfl⟩)
 case fin =>
  rintro ⟨o,n⟩ st' ⟨rfl,rfl,e⟩;dsimp only at e;exact ⟨rfl,rfl,by dsimp only;omega,by dsimp only;omega⟩
 case post =>
  rintro ⟨o,n⟩ st' ⟨rfl,rfl,n1,n2⟩;dsimp only at n1 n2 ⊢;refine eU (fun e=>RC (h _ _ B rfl n1 n2)) (fun e=>?_)
  refine cX (fun n0=>?_) (fun n0=>?_)
  ·refine RB (gr L G B (by omega) (by omega) fun c=>?_)
   dsimp only;refine cX (fun _=>RC (h _ _ B rfl n1 n2)) (fun _=>?_)
   refine RB (jr B fun st6 B6 p6=>?_)
   refine RB (wpS_lift (SY ⟨rfl,?_⟩));refine RB (S2 (S3 (I:=fun x c st2=>SB kd xs0 st2/\pendingOf st2=pendingOf st'/\c.1=none/\c.2.1=x) (Q:=fun c st2=>SB kd xs0 st2/\pendingOf st2=pendingOf st'/\c.1=none/\1<=c.2.1/\c.2.1<=nrem) ?step1 ?fin1 ⟨B6,p6,rfl,rfl⟩) ?post1)
   case step1 =>
    rintro x ⟨o,m,q⟩ st2 a b ⟨B2,p2,rfl,rfl⟩;dsimp only at a b ⊢;refine RB (gr L G B2 (by omega) (by omega) fun c=>?_)
    dsimp only;refine cX (fun _=>?_) (fun _=>?_)
    ·refine cX (fun _=>?_) (fun _=>?_)
     ·exact RB (jr B2 fun st3 B3 p3=>RC ⟨B3,p3.trans p2,rfl,rfl⟩)
     ·exact RC ⟨B2,p2,rfl,rfl⟩
    ·refine RB (gr L G B2 (by omega) (by omega) fun c2=>?_)
     dsimp only;refine cX (fun _=>?_) (fun _=>?_)
     ·exact RC ⟨B2,p2,rfl,by dsimp only;omega,by dsimp only;omega⟩
     ·exact RC ⟨B2,p2,rfl,rfl⟩
   case fin1 =>
    rintro ⟨o,m,q⟩ st2 ⟨B2,p2,rfl,e2⟩;dsimp only at e2;exact ⟨B2,p2,rfl,by dsimp only;omega,by dsimp only;omega⟩
   case post1 =>
    rintro ⟨o,m,q⟩ st2 ⟨B2,p2,rfl,m1,m2⟩;dsimp only at m1 m2 ⊢;refine cX (fun _=>?_) (fun _=>?_)
    ·refine RB (jr B2 fun st3 B3 p3=>?_)
     refine RB (jr B3 fun st4 B4 p4=>?_)
     refine RB (S2 (S3 (I:=fun x c st5=>st5=st4/\c.1=none/\c.2=x) (Q:=fun c st5=>st5=st4/\c.1=none/\1<=c.2/\c.2<=nrem) ?stepL2 ?finL2 ⟨rfl,rfl,rfl⟩) ?postL2)
     case stepL2 =>
      rintro x ⟨o,m⟩ st5 a b ⟨rfl,rfl,rfl⟩;dsimp only at a b ⊢;refine RB (gr L G B4 (by omega) (by omega) fun c=>?_)
      dsimp only;refine cX (fun _=>RC ⟨rfl,rfl,by dsimp only;omega,by dsimp only;omega⟩) (fun _=>RC ⟨rfl,rfl,rfl⟩)
     case finL2 =>
      rintro ⟨o,m⟩ st5 ⟨rfl,rfl,e2⟩;dsimp only at e2;exact ⟨rfl,rfl,by dsimp only;omega,by dsimp only;omega⟩
     case postL2 =>
      rintro ⟨o,m⟩ st5 ⟨rfl,rfl,k1,k2⟩;dsimp only at k1 k2 ⊢;exact RC (h _ _ B4 (p4.trans (p3.trans p2)) k1 k2)
    ·refine RB (jr B2 fun st4 B4 p4=>?_)
     refine RB (S2 (S3 (I:=fun x c st5=>st5=st4/\c.1=none/\c.2=x) (Q:=fun c st5=>st5=st4/\c.1=none/\1<=c.2/\c.2<=nrem) ?stepL3 ?finL3 ⟨rfl,rfl,rfl⟩) ?postL3)
     case stepL3 =>
      rintro x ⟨o,m⟩ st5 a b ⟨rfl,rfl,rfl⟩;dsimp only at a b ⊢;refine RB (gr L G B4 (by omega) (by omega) fun c=>?_)
      dsimp only;refine cX (fun _=>RC ⟨rfl,rfl,by dsimp only;omega,by dsimp only;omega⟩) (fun _=>RC ⟨rfl,rfl,rfl⟩)
     case finL3 =>
      rintro ⟨o,m⟩ st5 ⟨rfl,rfl,e2⟩;dsimp only at e2;exact ⟨rfl,rfl,by dsimp only;omega,by dsimp only;omega⟩
     case postL3 =>
      rintro ⟨o,m⟩ st5 ⟨rfl,rfl,k1,k2⟩;dsimp only at k1 k2 ⊢;exact RC (h _ _ B4 (p4.trans p2) k1 k2)
  ·have p6:pendingOf st'=pendingOf st':=rfl;refine RB (wpS_lift (SY ⟨rfl,?_⟩));refine RB (S2 (S3 (I:=fun x c st2=>SB kd xs0 st2/\pendingOf st2=pendingOf st'/\c.1=none/\c.2.1=x) (Q:=fun c st2=>SB kd xs0 st2/\pendingOf st2=pendingOf st'/\c.1=none/\1<=c.2.1/\c.2.1<=nrem) ?step4 ?fin4 ⟨B,p6,rfl,rfl⟩) ?post4)
   case step4 =>
    rintro x ⟨o,m,q⟩ st2 a b ⟨B2,p2,rfl,rfl⟩;dsimp only at a b ⊢;refine RB (gr L G B2 (by omega) (by omega) fun c=>?_)
    dsimp only;refine cX (fun _=>?_) (fun _=>?_)
    ·refine cX (fun _=>?_) (fun _=>?_)
     ·exact RB (jr B2 fun st3 B3 p3=>RC ⟨B3,p3.trans p2,rfl,rfl⟩)
     ·exact RC ⟨B2,p2,rfl,rfl⟩
    ·refine RB (gr L G B2 (by omega) (by omega) fun c2=>?_)
     dsimp only;refine cX (fun _=>?_) (fun _=>?_)
     ·exact RC ⟨B2,p2,rfl,by dsimp only;omega,by dsimp only;omega⟩
     ·exact RC ⟨B2,p2,rfl,rfl⟩
   case fin4 =>
    rintro ⟨o,m,q⟩ st2 ⟨B2,p2,rfl,e2⟩;dsimp only at e2;exact ⟨B2,p2,rfl,by dsimp only;omega,by dsimp only;omega⟩
   case post4 =>
    rintro ⟨o,m,q⟩ st2 ⟨B2,p2,rfl,m1,m2⟩;dsimp only at m1 m2 ⊢;refine cX (fun _=>?_) (fun _=>?_)
    ·refine RB (jr B2 fun st3 B3 p3=>?_)
     refine RB (jr B3 fun st4 B4 p4=>?_)
     refine RB (S2 (S3 (I:=fun x c st5=>st5=st4/\c.1=none/\c.2=x) (Q:=fun c st5=>st5=st4/\c.1=none/\1<=c.2/\c.2<=nrem) ?stepL5 ?finL5 ⟨rfl,rfl,rfl⟩) ?postL5)
     case stepL5 =>
      rintro x ⟨o,m⟩ st5 a b ⟨rfl,rfl,rfl⟩;dsimp only at a b ⊢;refine RB (gr L G B4 (by omega) (by omega) fun c=>?_)
      dsimp only;refine cX (fun _=>RC ⟨rfl,rfl,by dsimp only;omega,by dsimp only;omega⟩) (fun _=>RC ⟨rfl,rfl,rfl⟩)
     case finL5 =>
      rintro ⟨o,m⟩ st5 ⟨rfl,rfl,e2⟩;dsimp only at e2;exact ⟨rfl,rfl,by dsimp only;omega,by dsimp only;omega⟩
     case postL5 =>
      rintro ⟨o,m⟩ st5 ⟨rfl,rfl,k1,k2⟩;dsimp only at k1 k2 ⊢;exact RC (h _ _ B4 (p4.trans (p3.trans p2)) k1 k2)
    ·refine RB (jr B2 fun st4 B4 p4=>?_)
     refine RB (S2 (S3 (I:=fun x c st5=>st5=st4/\c.1=none/\c.2=x) (Q:=fun c st5=>st5=st4/\c.1=none/\1<=c.2/\c.2<=nrem) ?stepL6 ?finL6 ⟨rfl,rfl,rfl⟩) ?postL6)
     case stepL6 =>
      rintro x ⟨o,m⟩ st5 a b ⟨rfl,rfl,rfl⟩;dsimp only at a b ⊢;refine RB (gr L G B4 (by omega) (by omega) fun c=>?_)
      dsimp only;refine cX (fun _=>RC ⟨rfl,rfl,by dsimp only;omega,by dsimp only;omega⟩) (fun _=>RC ⟨rfl,rfl,rfl⟩)
     case finL6 =>
      rintro ⟨o,m⟩ st5 ⟨rfl,rfl,e2⟩;dsimp only at e2;exact ⟨rfl,rfl,by dsimp only;omega,by dsimp only;omega⟩
     case postL6 =>
      rintro ⟨o,m⟩ st5 ⟨rfl,rfl,k1,k2⟩;dsimp only at k1 k2 ⊢;exact RC (h _ _ B4 (p4.trans p2) k1 k2)
def LN {st:SortSt}{lo n k:Nat}(L:jN prog w A s kd P)(G:Good P xs0)(B:SB kd xs0 st)(hn:lo + n<=xs0.size)(h:∀ st',SB kd xs0 st'->pendingOf st'=pendingOf st->Q true st') :
  wpS (model prog w) A E s (binarySort' lo n k) Q st:=by
 unfold binarySort';refine RB (S2 (S3 (I:=fun x c st'=>SB kd xs0 st'/\pendingOf st'=pendingOf st/\c.1=none) (Q:=fun c st'=>SB kd xs0 st'/\pendingOf st'=pendingOf st/\c.1=none) ?step (fun _ _ q=>q) ⟨B,rfl,rfl⟩) ?post)
 case post =>
  rintro ⟨o,u⟩ st' ⟨B1,p1,rfl⟩;exact RC (h _ B1 p1)
 case step =>
  rintro x ⟨o,u⟩ st' a b ⟨B1,p1,rfl⟩;dsimp only;refine RB (S2 (S3 (I:=fun y c st2=>st2=st'/\c.1=none/\c.2.2<=x) (Q:=fun c st2=>st2=st'/\c.1=none/\c.2.2<=x) ?step1 (fun _ _ q=>q) ⟨rfl,rfl,RE _⟩) ?post1)
  case step1 =>
   rintro y ⟨o,l,r⟩ st2 _ _ ⟨rfl,rfl,le⟩;dsimp only at le ⊢;refine cX (fun _=>RC ⟨rfl,rfl,le⟩) (fun lr=>?_)
   refine RB (gr L G B1 (by omega) (by omega) fun c=>?_)
   dsimp only;refine cX (fun _=>RC ⟨rfl,rfl,by dsimp only;omega⟩) (fun _=>RC ⟨rfl,rfl,le⟩)
  case post1 =>
   rintro ⟨o,l,r⟩ st2 ⟨rfl,rfl,le⟩;dsimp only;refine RB (Sb ?_);exact RC ⟨⟨(bubble_perm _ _ _).trans B1.perm,B1.kind,B1.ok⟩,p1,rfl⟩
end
theorem yj (sa:Nat):∀ (l:List Keyed) (i:Nat)(a:Array Keyed),sa + i + l.length<=a.size->((l.zipIdx i).foldl (fun a (x:Keyed×Nat)=>a.setIfInBounds (sa + x.2) x.1) a).toList=a.toList.take (sa + i)++(l++a.toList.drop (sa + i + l.length))
 | [],i,a,h=>by simp
 | p::r,i,a,h=>by
  have hl:(p::r).length=r.length + 1:=rfl;rw [hl] at h;rw [List.zipIdx_cons,List.foldl_cons,yj sa r (i + 1) _ (by rw [Array.size_setIfInBounds];omega)]
  rw [Array.toList_setIfInBounds];have lt:sa + i < a.toList.length:=by simp;omega
  have e1:(a.toList.set (sa + i) p).take (sa + (i + 1))=a.toList.take (sa + i)++[p]:=by
   rw [show sa + (i + 1)=sa + i + 1 by omega,List.take_succ,List.take_set_of_le (RE _),UO lt]
   rfl
  have e2:(a.toList.set (sa + i) p).drop (sa + (i + 1) + r.length)=a.toList.drop (sa + i + (p::r).length):=by
   rw [List.drop_set_of_lt (by omega),hl]
   congr 1;omega
  rw [e1,e2];simp
def seg (a:Array Keyed){i j k:Nat}(h1:i<=j)(h2:j<=k):a.toList=a.toList.take i++((a.extract i j).toList++((a.extract j k).toList++a.toList.drop k)):=by
 have e1:=jD a h1;have e2:=jD a h2;rw [<- e2,<- e1,List.take_append_drop]
section
variable {prog:Program}{w:World}{A:Around}{E:Tn}{s:Shared}{kd:SortKind}{P:Value->Prop}{xs0:Array Keyed}
theorem Good.extract (G:Good P xs) (i j:Nat):Good P (xs.extract i j):=fun k p h=>by
 rw [Array.getElem?_extract] at h;split at h
 ·exact G _ _ h
 ·cases h
def G7 {st:SortSt}{i sa na pw sb nb pb:Nat}(L:jN prog w A s kd P)(G:Good P xs0)(B:SB kd xs0 st)(e1:(pendingOf st)[i]?=some (sa,na,pw))(e2:(pendingOf st)[i + 1]?=some (sb,nb,pb))(c:sb=sa + na)(n1:1<=na)(n2:1<=nb)(le:sb + nb<=xs0.size)
  (h:∀ st',SB kd xs0 st'->pendingOf st'=((pendingOf st).setIfInBounds i (sa,na + nb,pw)).eraseIdxIfInBounds (i + 1)->Q true st'):wpS (model prog w) A E s (mergeAt' i) Q st:=by
 have G':=G.perm B.perm;have sz:=B.size;unfold mergeAt';refine RB (wpS_get ?_);dsimp only;rw [e1,e2];dsimp only;refine RB (?_:wpS _ _ _ _ (set _) _ _);unfold wpS;rw [StateT.run_set];refine R9 ⟨rfl,?_⟩;refine RB (kX (by rw [sz];omega) fun p hp=>?_)
 have B1:SB kd xs0 (SortSt.mk' (kindOf st) (arrOf st) (((pendingOf st).setIfInBounds i (sa,na + nb,pw)).eraseIdxIfInBounds (i + 1)) (gallopOf st) (failedOf st)):=⟨B.perm,B.kind,B.ok⟩;refine RB (qf L B.kind (G' _ _ hp) G' (show sa + na<=(arrOf st).size by omega) (by omega) fun k hk=>?_)
 dsimp only;refine eU (fun _=>RC (h _ B1 rfl)) (fun e3=>?_)
 refine RB (kX (show sa + k + (na - k) - 1 < (arrOf st).size by omega) fun p2 hp2=>?_)
 refine RB (qf L B.kind (G' _ _ hp2) G' (show sb + nb<=(arrOf st).size by omega) (by omega) fun k2 hk2=>?_)
 dsimp only;refine eU (fun _=>RC (h _ B1 rfl)) (fun e4=>?_)
 have x1:((arrOf st).extract (sa + k) sb).size=sb - (sa + k):=by
  rw [Array.size_extract];omega
 have x2:((arrOf st).extract sb (sb + k2)).size=k2:=by
  rw [Array.size_extract];omega
 have fin:∀ zs:Array Keyed,zs.toList.Perm (((arrOf st).extract (sa + k) sb).toList++((arrOf st).extract sb (sb + k2)).toList)->(zs.toList.zipIdx.foldl (fun a (x:Keyed×Nat)=>a.setIfInBounds (sa + k + x.2) x.1) (arrOf st)).Perm xs0:=fun zs pm=>by
  have zl:zs.toList.length=sb + k2 - (sa + k):=by
   rw [pm.length_eq,RW,Sx,Sx,x1,x2];omega
  refine Array.Perm.trans (Array.perm_iff_toList_perm.mpr ?_) B.perm;rw [yj (sa + k) zs.toList 0 (arrOf st) (by omega)]
  have e:=seg (arrOf st) (show sa + k<=sb by omega) (show sb<=sb + k2 by omega)
  rw [Nat.add_zero,show sa + k + zs.toList.length=sb + k2 by omega]
  conv=>rhs;rw [e]
  refine T4 _ ?_;rw [<- S0];exact pm.append_right _
 refine cX (fun _=>?_) (fun _=>?_)
 ·refine RB (Oc L B.kind (G'.extract _ _) (G'.extract _ _) (show 1<=((arrOf st).extract (sa + k) sb).size by omega) (show 1<=((arrOf st).extract sb (sb + k2)).size by omega) fun zs st2 g pm=>?_)
  obtain ⟨g1,g2,g3,g4⟩:=g;refine RB (Sb ?_);refine RB (wpS_get ?_);refine RC ?_;have e:(failedOf st2).isNone=true:=by
   rw [g4];show (failedOf st).isNone=true;rw [B.ok];rfl
  show Q (failedOf st2).isNone _;rw [e];refine h _ ⟨?_,g1.trans B.kind,g4.trans B.ok⟩ g3;show (zs.toList.zipIdx.foldl (fun a (x:Keyed×Nat)=>a.setIfInBounds (sa + k + x.2) x.1) (arrOf st2)).Perm xs0
  rw [g2];exact fin zs pm
 ·refine RB (Om L B.kind (G'.extract _ _) (G'.extract _ _) (show 1<=((arrOf st).extract (sa + k) sb).size by omega) (show 1<=((arrOf st).extract sb (sb + k2)).size by omega) fun zs st2 g pm=>?_)
  obtain ⟨g1,g2,g3,g4⟩:=g;refine RB (Sb ?_);refine RB (wpS_get ?_);refine RC ?_;have e:(failedOf st2).isNone=true:=by
   rw [g4];show (failedOf st).isNone=true;rw [B.ok];rfl
  show Q (failedOf st2).isNone _;rw [e];refine h _ ⟨?_,g1.trans B.kind,g4.trans B.ok⟩ g3;show (zs.toList.zipIdx.foldl (fun a (x:Keyed×Nat)=>a.setIfInBounds (sa + k + x.2) x.1) (arrOf st2)).Perm xs0
  rw [g2];exact fin zs pm
end
def Cont:Nat->List (Nat×Nat×Nat)->Nat->Prop
 | f,[],lo=>f=lo
 | f,(s,n,_)::r,lo=>s=f/\1<=n/\Cont (f + n) r lo
theorem Cont.le:∀ {l:List (Nat×Nat×Nat)}{f lo:Nat},Cont f l lo->f<=lo
 | [],f,lo,h=>TM h
 | (s,n,p)::r,f,lo,⟨_,h1,h⟩=>by
  have:=Cont.le h;omega
theorem Cont.two:∀ {l:List (Nat×Nat×Nat)}{f lo:Nat} (i:Nat),Cont f l lo->i + 1 < l.length->∃ sa na pw sb nb pb,l[i]?=some (sa,na,pw)/\l[i + 1]?=some (sb,nb,pb)/\sb=sa + na/\1<=na/\1<=nb/\sb + nb<=lo
 | (s,n,p)::(s2,n2,p2)::r,f,lo,0,⟨h1,h2,h3,h4,h5⟩,_=>⟨s,n,p,s2,n2,p2,rfl,rfl,by omega,h2,h4,by have:=h5.le;omega⟩
 | (s,n,p)::r,f,lo,i + 1,⟨_,_,h⟩,hl=>Cont.two i h (by simpa using hl)
 | [],_,_,_,_,hl=>by simp at hl
 | [_],_,_,0,_,hl=>by simp at hl
theorem Cont.merge:∀ {l:List (Nat×Nat×Nat)}{f lo:Nat} (i:Nat){sa na pw sb nb pb:Nat},Cont f l lo->l[i]?=some (sa,na,pw)->l[i + 1]?=some (sb,nb,pb)->Cont f ((l.set i (sa,na + nb,pw)).eraseIdx (i + 1)) lo
 | (s,n,p)::(s2,n2,p2)::r,f,lo,0,sa,na,pw,sb,nb,pb,⟨h1,h2,h3,h4,h5⟩,e1,e2=>by
  cases e1;cases e2;refine ⟨h1,by omega,?_⟩
  rw [<- Nat.add_assoc];exact h5
 | (s,n,p)::r,f,lo,i + 1,sa,na,pw,sb,nb,pb,⟨h1,h2,h⟩,e1,e2=>⟨h1,h2,Cont.merge i h e1 e2⟩
 | [],_,_,_,_,_,_,_,_,_,_,e1,_=>by cases e1
 | [_],_,_,0,_,_,_,_,_,_,_,_,e2=>by cases e2
theorem Cont.mod (pw:Nat):∀ {l:List (Nat×Nat×Nat)}{f lo:Nat} (j:Nat),Cont f l lo->Cont f (l.modify j fun x=>(x.1,x.2.1,pw)) lo
 | [],f,lo,j,h=>by
  rw [List.modify_nil];exact h
 | (s,n,p)::r,f,lo,0,⟨h1,h2,h⟩=>⟨h1,h2,h⟩
 | (s,n,p)::r,f,lo,j + 1,⟨h1,h2,h⟩=>⟨h1,h2,Cont.mod pw j h⟩
theorem Cont.push {n:Nat}(hn:1<=n):∀ {l:List (Nat×Nat×Nat)}{f lo:Nat},Cont f l lo->Cont f (l++[(lo,n,0)]) (lo + n)
 | [],f,lo,h=>⟨h.symm,hn,by show f + n=lo + n;rw [show f=lo from h]⟩
 | (s,m,p)::r,f,lo,⟨h1,h2,h⟩=>⟨h1,h2,Cont.push hn h⟩
section
variable {prog:Program}{w:World}{A:Around}{E:Tn}{s:Shared}{kd:SortKind}{P:Value->Prop}{xs0:Array Keyed}
def sV {st:SortSt}{i lo:Nat}(L:jN prog w A s kd P)(G:Good P xs0)(B:SB kd xs0 st)(C:Cont 0 (pendingOf st).toList lo)(le:lo<=xs0.size)(hi:i + 1 < (pendingOf st).size)
  (h:∀ st',SB kd xs0 st'->Cont 0 (pendingOf st').toList lo->Q true st'):wpS (model prog w) A E s (mergeAt' i) Q st:=by
 obtain ⟨sa,na,pw,sb,nb,pb,e1,e2,c,n1,n2,l2⟩:=C.two i (by simpa using hi)
 refine G7 L G B (by rw [<- So];exact e1) (by rw [<- So];exact e2) c n1 n2 (by omega) fun st' B' p'=>h st' B' ?_
 rw [p',Array.toList_eraseIdxIfInBounds,Array.toList_setIfInBounds];exact C.merge i e1 e2
def KG {st:SortSt}(L:jN prog w A s kd P)(G:Good P xs0)(B:SB kd xs0 st)(p0:pendingOf st=#[])(h:∀ st',SB kd xs0 st'->Q () st'):wpS (model prog w) A E s sortRuns' Q st:=by
 rw [sortRuns'_eq];refine RB (wpS_get ?_);dsimp only;rw [B.size];refine RB (S2 (S3 (I:=fun x c st'=>SB kd xs0 st'/\c.1=none/\Cont 0 (pendingOf st').toList c.2/\c.2<=xs0.size) (Q:=fun c st'=>SB kd xs0 st'/\c.1=none/\Cont 0 (pendingOf st').toList c.2/\c.2<=xs0.size) ?step (fun _ _ q=>q) ⟨B,rfl,by rw [p0];rfl,S8 _⟩) ?post)
 case step =>
  rintro x ⟨o,lo⟩ st' _ _ ⟨B1,rfl,C1,l1⟩;dsimp only at C1 l1 ⊢;refine cX (fun _=>RC ⟨B1,rfl,C1,l1⟩) (fun ge=>?_)
  refine RB (HG L G B1 (by omega) (by omega) fun m st2 B2 p2 m1 m2=>?_)
  dsimp only;have C2:Cont 0 (pendingOf st2).toList lo:=by rw [p2];exact C1
  refine cX (fun lt=>?_) (fun lt=>?_)
  ·refine RB (wpS_lift (SY ⟨rfl,?_⟩));generalize hf:min (xs0.size - lo) (minRun' xs0.size xs0.size 0)=force;have f1:1<=force:=by omega
   have f2:lo + force<=xs0.size:=by omega
   refine RB (LN L G B2 f2 fun st3 B3 p3=>?_)
   have C3:Cont 0 (pendingOf st3).toList lo:=by rw [p3];exact C2
   refine cX (fun z=>absurd z (by decide)) (fun _=>?_)
   refine RB (wpS_get ?_);cases hb:(pendingOf st3).back? with
   | none =>
    dsimp only;refine RB (Sb ?_);refine RC ⟨⟨B3.perm,B3.kind,B3.ok⟩,rfl,?_,f2⟩;show Cont 0 ((pendingOf st3).push (lo,force,0)).toList (lo + force);rw [Array.toList_push];exact C3.push f1
   | some t =>
    obtain ⟨s1,n1',q1⟩:=t;dsimp only;refine RB (S2 (S3 (I:=fun y c st4=>SB kd xs0 st4/\c.1=none/\Cont 0 (pendingOf st4).toList lo) (Q:=fun c st4=>SB kd xs0 st4/\c.1=none/\Cont 0 (pendingOf st4).toList lo) ?step1 (fun _ _ q=>q) ⟨B3,rfl,C3⟩) ?post1)
    case step1 =>
     rintro y ⟨o,u⟩ st4 _ _ ⟨B4,rfl,C4⟩;refine RB (wpS_get ?_);cases hm:(if (pendingOf st4).size > 1 then (pendingOf st4)[(pendingOf st4).size - 2]? else none) with
     | none=>exact RC ⟨B4,rfl,C4⟩
     | some t =>
      obtain ⟨f1,f2,older⟩:=t;dsimp only;refine cX (fun _=>RC ⟨B4,rfl,C4⟩) (fun _=>?_)
      have s2:(pendingOf st4).size > 1:=by
       by_cases z:(pendingOf st4).size > 1
       ·exact z
       ·rw [if_neg z] at hm;cases hm
      refine RB (sV L G B4 C4 l1 (by omega) fun st5 B5 C5=>?_)
      exact cX (fun z=>absurd z (by decide)) (fun _=>RC ⟨B5,rfl,C5⟩)
    case post1 =>
     rintro ⟨o,u⟩ st4 ⟨B4,rfl,C4⟩;dsimp only;refine RB (Sb ?_);refine RB (Sb ?_);refine RC ⟨⟨B4.perm,B4.kind,B4.ok⟩,rfl,?_,f2⟩;refine id (?_:Cont 0 (((pendingOf st4).modify ((pendingOf st4).size - 1) fun x=>(x.1,x.2.1,_)).push (lo,force,0)).toList (lo + force))
     rw [Array.toList_push,Array.toList_modify];exact (C4.mod _ _).push f1
  ·have f2:lo + m<=xs0.size:=by omega
   refine RB (wpS_get ?_);cases hb:(pendingOf st2).back? with
   | none =>
    dsimp only;refine RB (Sb ?_);refine RC ⟨⟨B2.perm,B2.kind,B2.ok⟩,rfl,?_,f2⟩;show Cont 0 ((pendingOf st2).push (lo,m,0)).toList (lo + m);rw [Array.toList_push];exact C2.push m1
   | some t =>
    obtain ⟨s1,n1',q1⟩:=t;dsimp only;refine RB (S2 (S3 (I:=fun y c st4=>SB kd xs0 st4/\c.1=none/\Cont 0 (pendingOf st4).toList lo) (Q:=fun c st4=>SB kd xs0 st4/\c.1=none/\Cont 0 (pendingOf st4).toList lo) ?step2 (fun _ _ q=>q) ⟨B2,rfl,C2⟩) ?post2)
    case step2 =>
     rintro y ⟨o,u⟩ st4 _ _ ⟨B4,rfl,C4⟩;refine RB (wpS_get ?_);cases hm:(if (pendingOf st4).size > 1 then (pendingOf st4)[(pendingOf st4).size - 2]? else none) with
     | none=>exact RC ⟨B4,rfl,C4⟩
     | some t =>
      obtain ⟨f1,f2,older⟩:=t;dsimp only;refine cX (fun _=>RC ⟨B4,rfl,C4⟩) (fun _=>?_)
      have s2:(pendingOf st4).size > 1:=by
       by_cases z:(pendingOf st4).size > 1
       ·exact z
       ·rw [if_neg z] at hm;cases hm
      refine RB (sV L G B4 C4 l1 (by omega) fun st5 B5 C5=>?_)
      exact cX (fun z=>absurd z (by decide)) (fun _=>RC ⟨B5,rfl,C5⟩)
    case post2 =>
     rintro ⟨o,u⟩ st4 ⟨B4,rfl,C4⟩;dsimp only;refine RB (Sb ?_);refine RB (Sb ?_);refine RC ⟨⟨B4.perm,B4.kind,B4.ok⟩,rfl,?_,f2⟩;refine id (?_:Cont 0 (((pendingOf st4).modify ((pendingOf st4).size - 1) fun x=>(x.1,x.2.1,_)).push (lo,m,0)).toList (lo + m))
     rw [Array.toList_push,Array.toList_modify];exact (C4.mod _ _).push m1
 case post =>
  rintro ⟨o,lo⟩ st' ⟨B1,rfl,C1,l1⟩;dsimp only at C1 l1 ⊢;refine RB (S2 (S3 (I:=fun y c st4=>SB kd xs0 st4/\c.1=none/\Cont 0 (pendingOf st4).toList lo) (Q:=fun c st4=>SB kd xs0 st4/\c.1=none/\Cont 0 (pendingOf st4).toList lo) ?stepE (fun _ _ q=>q) ⟨B1,rfl,C1⟩) ?postE)
  case stepE =>
   rintro y ⟨o,u⟩ st4 _ _ ⟨B4,rfl,C4⟩;refine RB (wpS_get ?_);refine cX (fun _=>RC ⟨B4,rfl,C4⟩) (fun gt=>?_)
   refine RB (sV L G B4 C4 l1 (by (repeat' split) <;> omega) fun st5 B5 C5=>?_)
   exact cX (fun z=>absurd z (by decide)) (fun _=>RC ⟨B5,rfl,C5⟩)
  case postE =>
   rintro ⟨o,u⟩ st4 ⟨B4,rfl,C4⟩;dsimp only;exact RC (h _ B4)
end
def IsPair (h:Heap)(v:Value):Prop:=∃ (a:Addr)(o:Obj) (i j:Int)(t u:Tok) (n:Nat),v=.ref a/\h.get? a=some o/\o.cls=.type "tuple"/\o.data=.seq #[.int i t,.int j u] n
section
variable {prog:Program}{w:World}{A:Around}{E:Tn}{s:Shared}
def Mj (b:Bool){i j:Int}(h:∀ c,Q c s):wpAny (model prog w) A (oneLt' b (.int i t) (.int j u)) Q E s:=by
 cases b with
 | true=>exact oneLt_int (h _)
 | false =>
  rw [oneLt'_eq];rw [if_neg RX];refine R8 (?_:wpAny _ _ (compareOp .Lt (.int i t) (.int j u)) _ _ _);exact lt_int (Sw (h _))
def BS:jN prog w A s (tuples' true) (IsPair s.heap):=by
 rintro E x y ⟨a,o,i,j,t,u,n,rfl,ho,hc,hd⟩ ⟨a2,o2,i2,j2,t2,u2,n2,rfl,ho2,hc2,hd2⟩ Q h;refine R8 (listItems_at ho hd ?_);refine R8 (listItems_at ho2 hd2 ?_);dsimp only;refine R8 ?_;refine wpAny_forIn_list _ (fun rest r s'=>s'=s/\r.1=none/\∀ x∈rest,∃ (i j:Int)(t u:Tok),x.1=(Value.int i t,Value.int j u)) _ ?_ ?_ _ _ ⟨rfl,rfl,fun x hx=>?_⟩
 ·rintro ⟨⟨p,q⟩,k⟩ rest ⟨r,⟨⟩⟩ s' ⟨rfl,rfl,hall⟩;obtain ⟨i3,j3,t3,u3,e⟩:=hall _ RA;dsimp only at e;cases e;dsimp only;refine R8 ((intKind prog w).eqBool (a:=i3) (b:=j3) (intKind_is _ _ i3 t3) (intKind_is _ _ j3 u3) ?_);cases decide (i3=j3) with
  | true=>exact R9 ⟨rfl,rfl,fun x hx=>hall x (RG _ hx)⟩
  | false=>exact R8 (Mj _ fun c=>R9 (R9 (h c)))
 ·rintro ⟨r,⟨⟩⟩ s' ⟨rfl,rfl,_⟩;exact R9 (h _)
 ·have hx':x=((Value.int i t,Value.int i2 t2),0)\/x=((Value.int j u,Value.int j2 u2),1):=by simpa using hx
  rcases hx' with rfl | rfl
  ·exact ⟨_,_,_,_,rfl⟩
  ·exact ⟨_,_,_,_,rfl⟩
def BP (hv:IsPair s.heap v)(h:∀ i t,Q (some (.int i t)) s):wpAny (model prog w) A (firstOfTuple' v) Q E s:=by
 obtain ⟨a,o,i,j,t,u,n,rfl,ho,hc,hd⟩:=hv;unfold firstOfTuple';refine R8 (wpAny_typeOf (T:="tuple") ⟨o,ho,hc⟩ ?_);rw [if_neg (by decide)]
 refine R8 (listItems_at ho hd (R9 ?_));exact h i t
theorem firsts:∀ {vs:Ug},(∀ v∈vs,IsPair s.heap v)->(∀ os:List (UZ),os.length=vs.length->(∀ o∈os,∃ i t,o=some (Value.int i t))->Q os s)->wpAny (model prog w) A (vs.mapM firstOfTuple') Q E s
 | [],_,h=>by
  rw [List.mapM_nil];exact R9 (h [] rfl fun o ho=>(nomatch ho))
 | v::r,hv,h=>by
  rw [List.mapM_cons];refine R8 (BP (hv v RA) fun i t=>?_)
  refine R8 (firsts (fun x hx=>hv x (RG _ hx)) fun os ol oh=>?_)
  refine R9 (h _ (by simp [ol]) fun o ho=>?_)
  rcases RJ.mp ho with rfl | ho
  ·exact ⟨i,t,rfl⟩
  ·exact oh o ho
def CT {Q:SortKind->Shared->Prop}(h0:vs≠[])(hv:∀ v∈vs,IsPair s.heap v)(h:Q (tuples' true) s):wpAny (model prog w) A (keyKind' vs.toArray) Q E s:=by
 rw [keyKind'_eq,List.mapM_toArray];rw [map_eq_pure_bind,bind_assoc];refine R8 (firsts hv fun os ol oh=>?_)
 rw [pure_bind];have all:os.toArray.all (·.isSome)=true:=by
  rw [List.all_toArray,RP];intro o ho;obtain ⟨i,t,rfl⟩:=oh o ho;rfl
 rw [if_pos all];refine R8 (SY ?_);have inte:∃ us:Ug,os.toArray.filterMap id=us.toArray/\us≠[]/\∃ ns,IntsAre us ns:=by
  have go:∀ os:List (UZ),(∀ o∈os,∃ i t,o=some (Value.int i t))->∃ us ns,os.filterMap id=us/\us.length=os.length/\IntsAre us ns:=fun os=>by
   induction os with
   | nil=>exact fun _=>⟨[],[],rfl,rfl,.nil⟩
   | cons o r ih =>
    intro hh;obtain ⟨i,t,rfl⟩:=hh o RA;obtain ⟨us,ns,e,l,I⟩:=ih fun x hx=>hh x (RG _ hx)
    exact ⟨.int i t::us,i::ns,by simp [e],by simp [l],.cons i t I⟩
  obtain ⟨us,ns,e,l,I⟩:=go os oh;refine ⟨us,?_,fun z=>h0 ?_,ns,I⟩
  ·rw [List.filterMap_toArray,e]
  ·rw [z] at l;have:vs.length=0:=by
    rw [<- ol,<- l];rfl
   exact List.length_eq_zero_iff.mp this
 obtain ⟨us,e,un,ns,I⟩:=inte;rw [e,oneTypeOnly'_eq,List.mapM_toArray,mapM_typeOf_ints I];simp only [map_pure,pure_bind];obtain ⟨u0,ur,rfl⟩:=List.exists_cons_of_ne_nil un;have hall:((List.map (fun _=>Value.type "int") (u0::ur)).toArray.all fun x=>x == Value.type "int")=true:=by
  simp only [List.all_toArray,List.all_map,RP];intro _ _;rfl
 have h1:(List.map (fun _=>Value.type "int") (u0::ur)).toArray[0]?=some (Value.type "int"):=by simp
 rw [h1];simp only [hall,if_true,pure_bind];exact R9 h
end
def IsPair.keep {a:Addr}(p:IsPair h v)(ha:h.get? a=some c)(hc:c.cls=.type "list")(k:∀ b o,b≠a->h.get? b=some o->h'.get? b=some o):IsPair h' v:=by
 obtain ⟨b,o,i,j,t,u,n,rfl,ho,hco,hd⟩:=p;refine ⟨b,o,i,j,t,u,n,rfl,k b o (fun z=>?_) ho,hco,hd⟩
 rw [z,ha] at ho;cases ho;rw [hc] at hco;injection hco with z
 exact absurd z (by decide)
section
variable {prog:Program}{w:World}{A:Around}{E:Tn}{s:Shared}
def BZ {a:Addr}{n:Nat}(ho:s.heap.get? a=some (seqObj "list" vs.toArray n))(hv:∀ v∈vs,IsPair s.heap v)(few:vs.length<=1000)
  (h:∀ us:Ua,us.toList.Perm vs->R (.done (.ret .none)) { s with heap:=sortedHeap s.heap a vs us }):wpAny (model prog w) A (Builtin.«list.sort» ⟨[.ref a],[]⟩) R E s:=by
 have line:(1000:Nat)<=sizeLine:=by decide
 have az:a < s.heap.objs.size:=RL ho;rw [list_sort_plain (a:Addr)];refine R8 (listItems_at ho rfl (?_:_))
 refine R8 (listUpdate_at ho rfl (?_:_) (by simp;omega) (by simp))
 obtain ⟨ep,g1⟩:∃ ep,(s.heap.update a (Obj.mapSeq fun _=>#[])).get? a=some (seqObj "list" #[] ep):=⟨_,get?_update_seq ho fun _=>#[]⟩
 refine R8 (seqEpoch_at g1 rfl (?_:_))
 refine R8 (wpAny_newTuple (?_:_) (by simp;omega))
 refine R8 (wpAny_newList (?_:_))
 refine Sa (?_:_)
 have g6:(((s.heap.update a (Obj.mapSeq fun _=>#[])).push (seqObj "tuple" vs.toArray 0)).push (seqObj "list" #[] 0)).get? a=some (seqObj "list" #[] ep):=RO _ (RO _ g1)
 have keep:∀ b o,b≠a->s.heap.get? b=some o->(((s.heap.update a (Obj.mapSeq fun _=>#[])).push (seqObj "tuple" vs.toArray 0)).push (seqObj "list" #[] 0)).get? b=some o:=fun b o hb e=>RO _ (RO _ ((SO _ _ (Ne.symm hb)).trans e))
 have hv6:∀ v∈vs,IsPair (((s.heap.update a (Obj.mapSeq fun _=>#[])).push (seqObj "tuple" vs.toArray 0)).push (seqObj "list" #[] 0)) v:=fun v m=>(hv v m).keep ho rfl keep
 refine id (?_:wpAny (model prog w) A _ R E { s with heap:=((s.heap.update a (Obj.mapSeq fun _=>#[])).push (seqObj "tuple" vs.toArray 0)).push (seqObj "list" #[] 0) })
 dsimp only;have psz:(vs.toArray.zip vs.toArray).size=vs.length:=by simp
 have out:∀ zs:Array Keyed,zs.Perm (vs.toArray.zip vs.toArray)->(zs.map (·.2)).toList.Perm vs:=fun zs p=>by
  have p2:=(Array.perm_iff_toList_perm.mp p).map (·.2);rw [Array.toList_map];refine p2.trans ?_;have:((vs.toArray.zip vs.toArray).toList.map (·.2))=vs:=by
   rw [Array.toList_zip];simp [List.map_snd_zip]
  rw [this]
 by_cases h2:vs.toArray.size < 2
 ·rw [if_pos h2,if_pos h2];refine R8 (R9 (?_:_))
  rw [StateT.run_pure];refine R8 (R9 (?_:_))
  dsimp only;refine R8 (seqEpoch_at g6 rfl (?_:_))
  have o1:=out (vs.toArray.zip vs.toArray) (Array.Perm.refl _);have l1:=o1.length_eq;rw [Sx] at l1;refine R8 (listUpdate_at g6 rfl (?_:_) (by simp) (Rz (TM l1) (by omega)))
  simp only [bne_self_eq_false,Tr,SW];refine R9 (?_:_)
  exact h _ o1
 ·rw [if_neg h2,if_neg h2];have ne:vs≠[]:=fun z=>h2 (by rw [z];decide)
  refine R8 (CT (s:={ s with heap:=((s.heap.update a (Obj.mapSeq fun _=>#[])).push (seqObj "tuple" vs.toArray 0)).push (seqObj "list" #[] 0) }) ne hv6 (?_:_))
  refine R8 (Rr (KG (kd:=tuples' true) (P:=IsPair (((s.heap.update a (Obj.mapSeq fun _=>#[])).push (seqObj "tuple" vs.toArray 0)).push (seqObj "list" #[] 0))) (xs0:=vs.toArray.zip vs.toArray) (s:={ s with heap:=((s.heap.update a (Obj.mapSeq fun _=>#[])).push (seqObj "tuple" vs.toArray 0)).push (seqObj "list" #[] 0) }) (Q:=fun _ st'=>SB (tuples' true) (vs.toArray.zip vs.toArray) st') BS (fun k p hp=>?_) ⟨Array.Perm.refl _,rfl,rfl⟩ rfl fun st' B=>B) ?_ fun _ _ e=>e)
  ·have m:p∈(vs.toArray.zip vs.toArray).toList:=Rt (by rw [So];exact hp)
   rw [Array.toList_zip] at m;exact hv6 _ (List.of_mem_zip m).1
  ·rintro ⟨⟨⟩,st'⟩ s' ⟨rfl,B⟩;dsimp only;refine R8 (seqEpoch_at g6 rfl (?_:_))
   have o1:=out _ B.perm;have l1:=o1.length_eq;rw [Sx] at l1;refine R8 (listUpdate_at g6 rfl (?_:_) (by simp) (Rz (TM l1) (by omega)))
   rw [B.ok];simp only [bne_self_eq_false,Tr,SW];refine R9 (?_:_)
   exact h _ o1
end
end TS
namespace L2
open PySem PySem.Spec PyProof.Rows
def Fi (p:us.Perm its):∀ {ys:List V},Vals ys its->∃ zs,zs.Perm ys/\Vals zs us:=by
 induction p with
 | nil=>exact fun {ys} r=>⟨ys,List.Perm.refl _,r⟩
 | cons x _ ih =>
  intro ys r;cases r with
  | cons h r =>
   obtain ⟨zs,p1,r1⟩:=ih r;exact ⟨_::zs,p1.cons _,.cons h r1⟩
 | swap x y l =>
  intro ys r;cases r with
  | cons h r =>
   cases r with
   | cons h2 r=>exact ⟨_::_::_,List.Perm.swap _ _ _,.cons h2 (.cons h r)⟩
 | trans _ _ ih1 ih2 =>
  intro ys r;obtain ⟨zs,p1,r1⟩:=ih2 r;obtain ⟨ws,p2,r2⟩:=ih1 r1;exact ⟨ws,p2.trans p1,r2⟩
section
variable {X:Cx}
inductive A8 (K:UU)(xs:List V)(H:Hp)(Q:VK):Prop
 | mk:∀ (a:Addr)(ys:List V),(xs=[.ref a])->(bT K H a ys)->((∀ y∈ys,∃ (b:Addr) (i j:Int),y=.ref b/\cP K H b [.int i,.int j]))->(ys.length<=1000)->(∀ (zs:List V)(p:Addr),zs.Perm ys->H p=none->Q (.ref p) (upd H p (.lst zs)))->A8 K xs H Q
def D5 (K:UU):List V->Hp->VK->Prop:=fun xs H Q=>A8 K xs H Q
def za:cQ X (.builtin "sorted") (D5 X.K):=by
 intro pins s σ H xs us Q I r h;obtain ⟨a,ys,rfl,hq,tu,few,q⟩:=h;obtain ⟨u,rfl,ru⟩:=r.one;cases ru;obtain ⟨its,rv,p,_⟩:=I.list hq;have hlen:its.length=ys.length:=rv.length.symm;have hv:∀ v∈its,TS.IsPair s.heap v:=fun v m=>by
  obtain ⟨i,hi⟩:=UA m;have go:∀ {ys:List V}{its:Ug},Vals ys its->∀ (i:Nat)(u:Value),its[i]?=some u->∃ x,ys[i]?=some x/\RelV x u:=fun {ys its} r=>by
   induction r with
   | nil=>exact fun i u h=>(nomatch h)
   | cons h _ ih =>
    intro i u e;cases i with
    | zero =>
     cases e;exact ⟨_,rfl,h⟩
    | succ i=>exact ih i u e
  obtain ⟨x,hx,rx⟩:=go rv i v hi;obtain ⟨b,i1,j1,rfl,sb⟩:=tu x (Rt hx);cases rx;obtain ⟨its2,r2,⟨o2,e2,c2,n2,d2⟩,_⟩:=I.tuple sb;cases r2 with
  | cons ra r3 =>
   cases r3 with
   | cons rb r4 =>
    cases r4;obtain ⟨t,rfl⟩:=ra;obtain ⟨u,rfl⟩:=rb;exact ⟨b,o2,i1,j1,t,u,n2,rfl,e2,c2,d2⟩
 have line:(1000:Nat)<=sizeLine:=by decide
 refine Calls.call_function_entry kind_sorted plain_sorted entry_sorted (args_sorted1 _) (?_:_)
 unfold Builtin.«sorted»;refine R8 (m:=checkCount "sorted" 1 1 _) (R9 (?_:_))
 refine R8 (collect_list p.isList (?_:_) (by omega))
 refine R8 (wpAny_newList (?_:_) (by omega))
 have sz:((s.heap.push (seqObj "list" #[] 0)).update s.heap.objs.size (Obj.mapSeq (·++its.toArray))).objs.size=s.heap.objs.size + 1:=by
  rw [Heap.size_update];exact size_push' _ _
 have g0:(((s.heap.push (seqObj "list" #[] 0)).update s.heap.objs.size (Obj.mapSeq (·++its.toArray))).push (seqObj "list" its.toArray 0)).get? (s.heap.objs.size + 1)=some (seqObj "list" its.toArray 0):=by
  rw [<- sz];exact Rx _ rfl
 have old:∀ b o,s.heap.get? b=some o->(((s.heap.push (seqObj "list" #[] 0)).update s.heap.objs.size (Obj.mapSeq (·++its.toArray))).push (seqObj "list" its.toArray 0)).get? b=some o:=fun b o e=>RO _ ((SO _ _ (TF (RL e))).trans (RO _ e))
 refine id (?_:wpAny _ _ _ _ _ { s with heap:=((s.heap.push (seqObj "list" #[] 0)).update s.heap.objs.size (Obj.mapSeq (·++its.toArray))).push (seqObj "list" its.toArray 0) })
 rw [sz];have hv2:∀ v∈its,TS.IsPair (((s.heap.push (seqObj "list" #[] 0)).update s.heap.objs.size (Obj.mapSeq (·++its.toArray))).push (seqObj "list" its.toArray 0)) v:=fun v m=>by
  obtain ⟨b,o,i,j,t,u,n,e,ho,r⟩:=hv v m;exact ⟨b,o,i,j,t,u,n,e,old b o ho,r⟩
 refine R8 (Sa (Sh slot_list_sort ⟨_,g0,rfl⟩ entry_list_sort (TS.BZ g0 hv2 (by omega) fun out pm=>⟨_,rfl,(?_:_)⟩) (args_list_sort _)))
 obtain ⟨n,hn⟩:=sortedHeap_at (vs:=its) (out:=out) g0;obtain ⟨zs,pz,rz⟩:=Fi pm rv;have new:s.heap.get? (s.heap.objs.size + 1)=none:=Heap.get?_none_of_le (Nat.le_succ _);have I2:=I.Cf (a:=s.heap.objs.size + 1) (o:=.lst zs) (t':=s.toks) (h':=sortedHeap (((s.heap.push (seqObj "list" #[] 0)).update s.heap.objs.size (Obj.mapSeq (·++its.toArray))).push (seqObj "list" its.toArray 0)) (s.heap.objs.size + 1) its out) (fun b o hb=>by
   have lt:=RL hb;rw [sortedHeap_old (RQ (Nat.lt_succ_of_lt lt)) (by rw [size_push',sz];exact Nat.lt_succ_of_lt (Nat.lt_succ_of_lt lt))]
   exact old b o hb) new
  ⟨by rw [pz.length_eq];omega,out.toList,n,rz,by simpa using hn⟩
 exact R9 ⟨_,rfl,.ref (s.heap.objs.size + 1),_,I2,rfl,q zs _ pz (I.kZ new)⟩
end
abbrev oK:Obj:={ cls:=.type "cell",data:=.cell none }
def Cx.aR (X:Cx)(scope:Scope) (x:Str)(C c:Addr)(NB:Us)(s2:Shared)(H2:Hp)(fp:Uh):Cx :=
 { X with N:=NB,s₀:=s2,H₀:=H2,env:=compEnvC scope ((x,c)::cu X.env.cells scope.names []) C X.env,outer:=X.stack,ex:=fp,fn:=fun y=>y == x,pn:=[],xe:=fun _ _=>False }
section
variable {M:Model}{A:Around}{E:Tn}{s:Shared}{X:Cx}{scope:Scope}{x:Str}{NB:Us}{ix:Uq}
end
section
variable {X:Cx}{scope:Scope}{x:Str}{NB:Us}{ix:Uq}{pins:UG}{σ:St}{H2:Hp}{s2:Shared}{fp:Uh}
def tL (I2:Inv X pins σ H2 s2){c:Addr}(e:X.env.cells.lookup y=some c):c < s2.heap.objs.size:=by
 obtain ⟨v,q⟩:=I2.cell y c e;exact q.lt
end
section
variable {X:Cx}{scope:Scope}{x:Str}{NB:Us}{ix:Uq}{pins:UG}{σ:St}{H2:Hp}{s2:Shared}{fp:Uh}
def CN {C c D:Addr}{n:Nat}(I2:Inv X pins σ H2 s2)(f2:∀ b∈fp,dY X pins H2 b)(hD:s2.heap.objs.size<=D)
  (I4:Inv (X.aR scope x C c NB s2 H2 fp) [(D,dU its n)] σB H' s4)(rv:Vals ys its)(hz:ys.length<=sizeLine):Inv X pins σ (upd H' D (.lst ys)) s4:=by
 have hp:=I4.pin (D,dU its n) (by show _∈[]++[(D,dU its n)];simp)
 have hfree:H' D=none:=hp.2.1;have neD:∀ b o,s2.heap.get? b=some o->b≠D:=fun b o e=>RQ (RY (RL e) hD)
 have neT:∀ b o,H2 b=some o->b≠D:=fun b o e=>RQ (RY (I2.hok.lt e) hD)
 have u:Un (frs X.stack) fp H2 H' s2.heap s4.heap:=I4.base;refine I2.CG (ch:=fp) I4.os ⟨u.keep,u.slot,fun b o e n hx=>?_,u.there,fun b xs e=>?_,fun b o v e=>?_,fun b ps e=>?_⟩ (fun b o e=>?_) I4.bare fun b hb=>?_
 ·rw [ao (neD b o e)];exact u.free b o e n hx
 ·rw [ao (neT b _ e)];exact u.tups b xs e
 ·rw [ao (neT b _ e)];exact u.kG b o v e
 ·rw [ao (neT b _ e)];exact u.lE b ps e
 ·by_cases hb:b=D
  ·subst hb;rw [aL] at e;cases e;exact ⟨hz,its,n,rv,hp.1⟩
  ·rw [ao hb] at e;have ne:∀ {c:Addr}{w:HO},H' c=some w->c≠D:=fun {c w} q z=>by rw [z,hfree] at q;cases q
   exact (I4.hok b o e).stay (fun _ _ _ q=>q) (fun c q=>by rw [ao (ne q)];exact q) fun c xs q=>by rw [ao (ne q)];exact q
 ·obtain ⟨_,g1,g2,g3,g4,g5⟩:=f2 b hb;exact ⟨g3,g1,g4,g5⟩
end
def MN (K:UU)(a:Addr):It :=
 ⟨fun i H=>∃ xs x,bT K H a xs/\xs[i]?=some x,fun i H v H'=>∃ T,H T=none/\v=.ref T/\∀ xs,bT K H a xs->∃ x,xs[i]?=some x/\H'=upd H T (.tup [.int i,x]),fun i H=>∃ xs,bT K H a xs/\xs.length<=i⟩
def D3 {P:Program}{w:World}{K:UU}{elts:Ul}{x1:Nat}{pos:Pos}(a e it:Addr)(hne:e≠it) :
  Turn P w K (.Tuple elts x1 pos) (MN K a) [e,it] e (fun i h=>(∃ old,IsEnum h e it i old)/\h.IsListIter it a i) where
 mem:=by simp
 obj:=fun i h st b hb=>by
  obtain ⟨⟨old,he⟩,o,e1,c,d⟩:=st;rcases RJ.mp hb with z | z
  ·subst z;exact ⟨_,he,fun v q=>by cases q⟩
  ·have z:b=it:=by simpa using z
   subst z;exact ⟨o,e1,fun v q=>by rw [d] at q;cases q⟩
 keep:=fun i h h' st k=>by
  obtain ⟨⟨old,he⟩,li⟩:=st;exact ⟨⟨old,k e (by simp) _ he⟩,li.at fun o q=>k it (by simp) o q⟩
 item:=by
  intro X hP hw hK hc i pins s σ H E I hf st hg;subst hP hw hK;obtain ⟨xs,x,hq,hx⟩:=hg;obtain ⟨its,rv,p,hz⟩:=I.list hq;obtain ⟨u,hu,ru⟩:=rv.get hx;obtain ⟨⟨old,he⟩,hit⟩:=st;have fe:=hf e (by simp)
  have fi:=hf it (by simp)
  refine wpAny_pyNext_enum_item he hit p.isList (x:=u) (by simpa using hu) hne fun h1 heo hit1 ht1 hz1 hk1=>⟨_,rfl,?_⟩
  refine wpAny_letOwnedTupleGo_enum heo fun h2 he2 hs2=>?_
  have elt:e < s.heap.objs.size:=RL he;have ht2:h2.get? s.heap.objs.size=some { cls:=.type "tuple",data:=.seq #[.int i s.toks,u] }:=(hs2.2 _ (TF elt)).trans ht1;have hfr:H s.heap.objs.size=none:=I.hok.fresh (RE _);have k2:∀ b o,b≠e->b≠it->s.heap.get? b=some o->h2.get? b=some o:=fun b o b1 b2 q=>hs2.extBut b o b1 (hk1 b o b1 b2 q)
  have neT:∀ b o,H b=some o->b≠s.heap.objs.size:=fun b o q z=>by rw [z,hfr] at q;cases q
  have neS:∀ b o,s.heap.get? b=some o->b≠s.heap.objs.size:=fun b o q=>RQ (RL q)
  have nt:∀ b o,H b=some o->b≠e/\b≠it:=fun b o q=>⟨(fun z=>by rw [z,fe.1] at q;cases q),(fun z=>by rw [z,fi.1] at q;cases q)⟩
  have nin:∀ b,b∉[e,it]->b≠e/\b≠it:=fun b hb=>⟨fun z=>hb (by simp [z]),fun z=>hb (by simp [z])⟩
  have I2:Inv X pins σ (upd H s.heap.objs.size (.tup [.int i,x])) { s with heap:=h2,toks:=s.toks + 1 }:=by
   refine I.step (g':=s.gens) (d':=s.drawn) (ch:=[e,it]) (fun b hb=>?_) (fun b o _ _ hc' q _=>k2 b o (nin b hc').1 (nin b hc').2 q) (fun b o _ _ hc' q _=>⟨o.slots,k2 b o (nin b hc').1 (nin b hc').2 q⟩)
    (fun b o _ q n=>by rw [ao (neS b o q)];exact n) (fun b o hc' q=>⟨o,k2 b o (nin b hc').1 (nin b hc').2 q⟩) (fun b ys q=>by rw [ao (neT b _ q)];exact q) (fun b o v q=>by rw [ao (neT b _ q)];exact q)
    (fun b ps q=>⟨#[],by rw [ao (neT b _ q),q];simp⟩) (fun m hm=>?_) (fun b o q=>?_) I.bare
   ·rcases RJ.mp hb with z | z
    ·subst z;exact ⟨fe.2.2.2.1,fe.2.1,fe.2.2.2.2.1,fe.2.2.2.2.2⟩
    ·have z:b=it:=by simpa using z
     subst z;exact ⟨fi.2.2.2.1,fi.2.1,fi.2.2.2.2.1,fi.2.2.2.2.2⟩
   ·obtain ⟨o,es,ep,ho,r⟩:=hm;exact ⟨o,es,ep,k2 _ o (Ne.symm fe.2.1) (Ne.symm fi.2.1) ho,r⟩
   ·by_cases z:b=s.heap.objs.size
    ·subst z;rw [aL] at q;cases q;exact ⟨(by show 2<=sizeLine;decide),[.int i s.toks,u],.cons ⟨_,rfl⟩ (.cons ru .nil),_,ht2,rfl,_,rfl⟩
    ·rw [ao z] at q;refine (I.hok b o q).stay (fun c v hc' r=>k2 c v ?_ ?_ r) (fun c r=>by rw [ao (neT c _ r)];exact r) fun c ys r=>by rw [ao (neT c _ r)];exact r
     ·rcases hc' with y | y
      ·rw [y];exact (nt b o q).1
      ·exact (nt c _ y).1
     ·rcases hc' with y | y
      ·rw [y];exact (nt b o q).2
      ·exact (nt c _ y).2
  refine ⟨.ref s.heap.objs.size,_,I2,rfl,⟨s.heap.objs.size,hfr,rfl,fun ys hy=>⟨x,by rw [I.pO hy hq];exact hx,rfl⟩⟩,⟨⟨_,he2⟩,?_⟩,fun b hb=>?_⟩
  ·exact hit1.at fun o q=>hs2.extBut it o (Ne.symm hne) q
  ·rcases RJ.mp hb with z | z
   ·subst z;rw [ao (RQ elt)];exact fe.1
   ·have z:b=it:=by simpa using z
    subst z;obtain ⟨o,q,_⟩:=id hit;rw [ao (RQ (RL q))];exact fi.1
 done:=by
  intro X hP hw hK hc i pins s σ H E I hf st hg;subst hP hw hK;obtain ⟨xs,hq,hx⟩:=hg;obtain ⟨its,rv,p,hz⟩:=I.list hq;obtain ⟨⟨old,he⟩,hit⟩:=st;obtain ⟨f0,f1,f2,f3,f4,f5⟩:=hf it (by simp)
  have hl:=rv.length;exact wpAny_pyNext_enum_end (I.ok.hd hc) he hit p.isList (by simp;omega) fun h' eb=>⟨rfl,I.turned (t':=s.toks) (fun b o hb q=>eb b o hb q) f0 f1 f3 f4 f5⟩
 self:=fun _ _ _ _ _ st h=>by
  obtain ⟨⟨old,he⟩,_⟩:=st;exact wpAny_pyIter_enum he h
section
variable {X:Cx}
inductive Eb (K:UU)(R:(It->Hp->Prop))(vs:List V)(H1:Hp):Prop
 | mk:∀ a,(vs=[.ref a])->((∃ xs,bT K H1 a xs))->(R (MN K a) H1)->Eb K R vs H1
def Og (K:UU)(ta:TA):TI:=fun σ H R=>ta σ H fun vs H1=>Eb K R vs H1
def JL {elts:Ul}{x1:Nat}{tp p pos:Pos}{e:Expr}{ta:TA}(hg:Gl X "enumerate")(hm:X.mg "enumerate"=none)(ha:PA X [e] ta)(hs:starEach [e] X.env=[(false,eval e X.env)]:=by rfl) :
  PI X (.Tuple elts x1 tp) (.Call (.Name "enumerate" p) [e] [] pos) (Og X.K ta):=by
 intro pins s σ H R I h;refine Call_ (j7 I hg hm boot_enumerate (UR (aN (ha pos pins s σ H _ I h) fun us s1 ⟨vs,H1,I1,r1,q1⟩=>?_) hs rfl))
 obtain ⟨a,ev,⟨xs,hq⟩,q⟩:=q1;subst ev;obtain ⟨u,rfl,ru⟩:=r1.one;cases ru;obtain ⟨its,rv,pl,hz⟩:=I1.list hq;refine call_enumerate_list pl.isList fun h' he hit hsz hk=>?_
 refine wpAny_pyIter_enum he ?_;have I2:Inv X pins σ H1 { s1 with heap:=h' }:=I1.kept (t':=s1.toks) hk
 refine ⟨s1.heap.objs.size + 1,[s1.heap.objs.size + 1,s1.heap.objs.size],_,_,H1,rfl,I2,D3 a _ _ (Nat.succ_ne_self _),⟨⟨_,he⟩,hit⟩,fun b hb=>?_,q⟩
 have hb:s1.heap.objs.size<=b:=by
  rcases RJ.mp hb with z | z
  ·rw [z];exact Nat.le_succ _
  ·have z:b=s1.heap.objs.size:=by simpa using z
   rw [z];exact RE _
 exact I1.qU hb (I1.hok.fresh hb)
end
section
variable {prog:Program}{w:World}{A:Around}{R:Result->Shared->Prop}{s:Shared}
abbrev pV (prog:Program)(w:World)(A:Around)(env:Env)(R:Result->Shared->Prop):Tn:=notedBy (model prog w) A env fun e s'=>R (.error e) s'
end
section
variable {X:Cx}{scope:Scope}{x y0:Str}{NB:Us}{ix:Uq}{pins:UG}{σ:St}{H2:Hp}{s2:Shared}{fp:Uh}
end
section
variable {X:Cx}{scope:Scope}{x y0:Str}{NB:Us}{ix:Uq}{pins:UG}{σ:St}{H2:Hp}{s2:Shared}{fp:Uh}
end
def M9 (K:UU)(a b:Addr):It :=
 ⟨fun i H=>∃ xs ys x y,bT K H a xs/\bT K H b ys/\xs[i]?=some x/\ys[i]?=some y,fun i H v H'=>∃ T,H T=none/\v=.ref T/\∀ xs ys,bT K H a xs->bT K H b ys->∃ x y,xs[i]?=some x/\ys[i]?=some y/\H'=upd H T (.tup [x,y]),
  fun i H=>∃ xs ys,bT K H a xs/\bT K H b ys/\(xs.length<=i\/ys.length<=i)⟩
def GY {P:Program}{w:World}{K:UU}{elts:Ul}{x1:Nat}{pos:Pos}(a b z TI TO i1 i2:Addr)(D:PySem.ZipApart z TI TO i1 i2 a b) :
  Turn P w K (.Tuple elts x1 pos) (M9 K a b) [z,TI,TO,i1,i2] z (fun i h=>PySem.IsZip h z TI TO .none/\PySem.IsPair h TI (.ref i1) (.ref i2)/\(∃ u v,PySem.IsPair h TO u v)/\h.IsListIter i1 a i/\h.IsListIter i2 b i) where
 mem:=by simp
 obj:=fun i h st c hc=>by
  obtain ⟨h1,h2,⟨u,v,h3⟩,h4,h5⟩:=st;simp only [RJ,Rv,or_false] at hc;rcases hc with rfl | rfl | rfl | rfl | rfl
  ·exact ⟨_,h1,fun v q=>by cases q⟩
  ·exact ⟨_,h2,fun v q=>by cases q⟩
  ·exact ⟨_,h3,fun v q=>by cases q⟩
  ·obtain ⟨o,e1,_,d⟩:=h4;exact ⟨o,e1,fun v q=>by rw [d] at q;cases q⟩
  ·obtain ⟨o,e1,_,d⟩:=h5;exact ⟨o,e1,fun v q=>by rw [d] at q;cases q⟩
 keep:=fun i h h' st k=>by
  obtain ⟨h1,h2,⟨u,v,h3⟩,h4,h5⟩:=st;exact ⟨k z (by simp) _ h1,k TI (by simp) _ h2,⟨u,v,k TO (by simp) _ h3⟩,h4.at fun o q=>k i1 (by simp) o q,h5.at fun o q=>k i2 (by simp) o q⟩
 item:=by
  intro X hP hw hK hc i pins s σ H E I hf st hg;subst hP hw hK;obtain ⟨xs,ys,x,y,hq,hq2,hx,hy⟩:=hg;obtain ⟨its,rv,p,_⟩:=I.list hq;obtain ⟨its2,rv2,p2,_⟩:=I.list hq2;obtain ⟨u,hu,ru⟩:=rv.get hx;obtain ⟨u2,hu2,ru2⟩:=rv2.get hy;obtain ⟨h1,h2,⟨ua,ub,h3⟩,h4,h5⟩:=st;have fz:=hf z (by simp)
  have fI:=hf TI (by simp)
  have fO:=hf TO (by simp)
  have f1:=hf i1 (by simp)
  have f2:=hf i2 (by simp)
  refine PySem.wpAny_pyNext_zip_item D h1 h2 h3 h4 h5 p.isList p2.isList (x:=u) (y:=u2) (by simpa using hu) (by simpa using hu2) fun hA a1 a2 a3 a4 a5 a6 a7=>⟨_,rfl,?_⟩
  refine PySem.wpAny_letOwnedTupleGo_zip a1 fun hB b1 hs=>?_
  have zlt:z < s.heap.objs.size:=RL h1;have ht2:hB.get? s.heap.objs.size=some { cls:=.type "tuple",data:=.seq #[u,u2] }:=(hs.2 _ (TF zlt)).trans a5;have hfr:H s.heap.objs.size=none:=I.hok.fresh (RE _);have k2:∀ c o,c≠z->c≠TO->c≠i1->c≠i2->s.heap.get? c=some o->hB.get? c=some o:=fun c o c1 c2 c3 c4 q=>hs.extBut c o c1 (a7 c o c1 c2 c3 c4 q)
  have neT:∀ c o,H c=some o->c≠s.heap.objs.size:=fun c o q z=>by rw [z,hfr] at q;cases q
  have neS:∀ c o,s.heap.get? c=some o->c≠s.heap.objs.size:=fun c o q=>RQ (RL q)
  have nt:∀ c o,H c=some o->c≠z/\c≠TO/\c≠i1/\c≠i2:=fun c o q=>⟨(fun e=>by rw [e,fz.1] at q;cases q),(fun e=>by rw [e,fO.1] at q;cases q),(fun e=>by rw [e,f1.1] at q;cases q),(fun e=>by rw [e,f2.1] at q;cases q)⟩
  have nin:∀ c,c∉[z,TO,i1,i2]->c≠z/\c≠TO/\c≠i1/\c≠i2:=fun c hc=>⟨fun e=>hc (by simp [e]),fun e=>hc (by simp [e]),fun e=>hc (by simp [e]),fun e=>hc (by simp [e])⟩
  have kk:∀ c o,(c≠z/\c≠TO/\c≠i1/\c≠i2)->s.heap.get? c=some o->hB.get? c=some o:=fun c o n q=>k2 c o n.1 n.2.1 n.2.2.1 n.2.2.2 q
  have I2:Inv X pins σ (upd H s.heap.objs.size (.tup [x,y])) { s with heap:=hB }:=by
   refine I.step (g':=s.gens) (d':=s.drawn) (t':=s.toks) (ch:=[z,TO,i1,i2]) (fun c hc=>?_) (fun c o _ _ hc' q _=>kk c o (nin c hc') q) (fun c o _ _ hc' q _=>⟨o.slots,kk c o (nin c hc') q⟩)
    (fun c o _ q n=>by rw [ao (neS c o q)];exact n) (fun c o hc' q=>⟨o,kk c o (nin c hc') q⟩) (fun c ys q=>by rw [ao (neT c _ q)];exact q) (fun c o v q=>by rw [ao (neT c _ q)];exact q)
    (fun c ps q=>⟨#[],by rw [ao (neT c _ q),q];simp⟩) (fun m hm=>?_) (fun c o q=>?_) I.bare
   ·simp only [RJ,Rv,or_false] at hc;rcases hc with rfl | rfl | rfl | rfl
    ·exact ⟨fz.2.2.2.1,fz.2.1,fz.2.2.2.2.1,fz.2.2.2.2.2⟩
    ·exact ⟨fO.2.2.2.1,fO.2.1,fO.2.2.2.2.1,fO.2.2.2.2.2⟩
    ·exact ⟨f1.2.2.2.1,f1.2.1,f1.2.2.2.2.1,f1.2.2.2.2.2⟩
    ·exact ⟨f2.2.2.2.1,f2.2.1,f2.2.2.2.2.1,f2.2.2.2.2.2⟩
   ·obtain ⟨o,es,ep,ho,r⟩:=hm;exact ⟨o,es,ep,kk _ o ⟨Ne.symm fz.2.1,Ne.symm fO.2.1,Ne.symm f1.2.1,Ne.symm f2.2.1⟩ ho,r⟩
   ·by_cases e:c=s.heap.objs.size
    ·subst e;rw [aL] at q;cases q;exact ⟨(by show 2<=sizeLine;decide),[u,u2],.cons ru (.cons ru2 .nil),_,ht2,rfl,_,rfl⟩
    ·rw [ao e] at q;refine (I.hok c o q).stay (fun d v hd r=>kk d v ?_ r) (fun d r=>by rw [ao (neT d _ r)];exact r) fun d ys r=>by rw [ao (neT d _ r)];exact r
     rcases hd with y | y
     ·rw [y];exact nt c o q
     ·exact nt d _ y
  refine ⟨.ref s.heap.objs.size,_,I2,rfl,⟨s.heap.objs.size,hfr,rfl,fun xs2 ys2 hx2 hy2=>⟨x,y,by rw [I.pO hx2 hq];exact hx,by rw [I.pO hy2 hq2];exact hy,rfl⟩⟩,⟨b1,?_,⟨_,_,hs.extBut _ _ D.TOz a2⟩,a3.at fun o q=>hs.extBut _ _ D.i1z q,a4.at fun o q=>hs.extBut _ _ D.i2z q⟩,fun c hc=>?_⟩
  ·exact k2 _ _ D.TIz D.TITO D.TIi1 D.TIi2 h2
  ·have old:∀ c,(∃ o,s.heap.get? c=some o)->H c=none->upd H s.heap.objs.size (.tup [x,y]) c=none:=fun c ⟨o,q⟩ hn=>by rw [ao (neS c o q)];exact hn
   simp only [RJ,Rv,or_false] at hc;rcases hc with rfl | rfl | rfl | rfl | rfl
   ·exact old _ ⟨_,h1⟩ fz.1
   ·exact old _ ⟨_,h2⟩ fI.1
   ·exact old _ ⟨_,h3⟩ fO.1
   ·obtain ⟨o,q,_⟩:=id h4;exact old _ ⟨o,q⟩ f1.1
   ·obtain ⟨o,q,_⟩:=id h5;exact old _ ⟨o,q⟩ f2.1
 done:=by
  intro X hP hw hK hc i pins s σ H E I hf st hg;subst hP hw hK;obtain ⟨xs,ys,hq,hq2,hx⟩:=hg;obtain ⟨its,rv,p,_⟩:=I.list hq;obtain ⟨its2,rv2,p2,_⟩:=I.list hq2;obtain ⟨h1,h2,⟨ua,ub,h3⟩,h4,h5⟩:=st;have hl:=rv.length;have hl2:=rv2.length;have fz:=hf z (by simp)
  have fO:=hf TO (by simp)
  have f1:=hf i1 (by simp)
  have f2:=hf i2 (by simp)
  refine PySem.wpAny_pyNext_zip_end (I.ok.hd hc) D h1 h2 h3 h4 h5 p.isList p2.isList (hx.imp (fun e=>by simp;omega) (fun e=>by simp;omega)) fun hA k=>⟨rfl,?_⟩
  have nin:∀ c,c∉[z,TO,i1,i2]->c≠z/\c≠TO/\c≠i1/\c≠i2:=fun c hc=>⟨fun e=>hc (by simp [e]),fun e=>hc (by simp [e]),fun e=>hc (by simp [e]),fun e=>hc (by simp [e])⟩
  have kk:∀ c o,(c≠z/\c≠TO/\c≠i1/\c≠i2)->s.heap.get? c=some o->hA.get? c=some o:=fun c o n q=>k c o n.1 n.2.1 n.2.2.1 n.2.2.2 q
  have nt:∀ c o,H c=some o->c≠z/\c≠TO/\c≠i1/\c≠i2:=fun c o q=>⟨(fun e=>by rw [e,fz.1] at q;cases q),(fun e=>by rw [e,fO.1] at q;cases q),(fun e=>by rw [e,f1.1] at q;cases q),(fun e=>by rw [e,f2.1] at q;cases q)⟩
  refine I.step (g':=s.gens) (d':=s.drawn) (t':=s.toks) (ch:=[z,TO,i1,i2]) (fun c hc=>?_) (fun c o _ _ hc' q _=>kk c o (nin c hc') q) (fun c o _ _ hc' q _=>⟨o.slots,kk c o (nin c hc') q⟩)
   (fun c o _ q n=>n) (fun c o hc' q=>⟨o,kk c o (nin c hc') q⟩) (fun c ys q=>q) (fun c o v q=>q) (fun c ps q=>⟨#[],by rw [q];simp⟩) (fun m hm=>?_) (fun c o q=>?_) I.bare
  ·simp only [RJ,Rv,or_false] at hc;rcases hc with rfl | rfl | rfl | rfl
   ·exact ⟨fz.2.2.2.1,fz.2.1,fz.2.2.2.2.1,fz.2.2.2.2.2⟩
   ·exact ⟨fO.2.2.2.1,fO.2.1,fO.2.2.2.2.1,fO.2.2.2.2.2⟩
   ·exact ⟨f1.2.2.2.1,f1.2.1,f1.2.2.2.2.1,f1.2.2.2.2.2⟩
   ·exact ⟨f2.2.2.2.1,f2.2.1,f2.2.2.2.2.1,f2.2.2.2.2.2⟩
  ·obtain ⟨o,es,ep,ho,r⟩:=hm;exact ⟨o,es,ep,kk _ o ⟨Ne.symm fz.2.1,Ne.symm fO.2.1,Ne.symm f1.2.1,Ne.symm f2.2.1⟩ ho,r⟩
  ·refine (I.hok c o q).stay (fun d v hd r=>kk d v ?_ r) (fun d r=>r) fun d ys r=>r
   rcases hd with y | y
   ·rw [y];exact nt c o q
   ·exact nt d _ y
 self:=fun _ _ _ _ _ st h=>PySem.wpAny_pyIter_zip st.1 h
section
variable {X:Cx}
inductive Jf (K:UU)(R:(It->Hp->Prop))(vs:List V)(H1:Hp):Prop
 | mk:∀ a b,(vs=[.ref a,.ref b])->((∃ xs,bT K H1 a xs))->((∃ ys,bT K H1 b ys))->(R (M9 K a b) H1)->Jf K R vs H1
def vp (K:UU)(ta:TA):TI:=fun σ H R=>ta σ H fun vs H1=>Jf K R vs H1
def N2 {x1:Nat}(hg:Gl X "zip")(hm:X.mg "zip"=none)(ha:PA X [e1,e2] ta)(hs:starEach [e1,e2] X.env=[(false,eval e1 X.env),(false,eval e2 X.env)]:=by rfl)(hs2:starEach [e2] X.env=[(false,eval e2 X.env)]:=by rfl) :
  PI X (.Tuple elts x1 tp) (.Call (.Name "zip" p) [e1,e2] [] pos) (vp X.K ta):=by
 intro pins s σ H R I h;refine Call_ (j7 I hg hm PyProof.Rows.boot_zip (UR (aN (ha pos pins s σ H _ I h) fun us s1 ⟨vs,H1,I1,r1,q1⟩=>?_) (by rw [hs,hs2]) (by rw [hs2];rfl)))
 obtain ⟨a,b,ev,⟨xs,hq⟩,⟨ys,hq2⟩,q⟩:=q1;subst ev;obtain ⟨u1,u2,rfl,ru1,ru2⟩:=r1.two;cases ru1;cases ru2;obtain ⟨its,rv,pl,_⟩:=I1.list hq;obtain ⟨its2,rv2,pl2,_⟩:=I1.list hq2;have la:a < s1.heap.objs.size:=by
  obtain ⟨o,ho,_⟩:=pl.isList;exact RL ho
 have lb:b < s1.heap.objs.size:=by
  obtain ⟨o,ho,_⟩:=pl2.isList;exact RL ho
 refine PySem.call_zip_2 pl.isList pl2.isList fun h' hz h2 h3 h4 h5 hsz hk=>?_
 refine PySem.wpAny_pyIter_zip hz ?_;have I2:Inv X pins σ H1 { s1 with heap:=h' }:=I1.kept (t':=s1.toks) hk
 have ga:∀ k:Nat,a≠s1.heap.objs.size + k:=fun k=>RQ (RY la (Tv _ _))
 have gb:∀ k:Nat,b≠s1.heap.objs.size + k:=fun k=>RQ (RY lb (Tv _ _))
 have D:PySem.ZipApart (s1.heap.objs.size + 4) (s1.heap.objs.size + 2) (s1.heap.objs.size + 3) s1.heap.objs.size (s1.heap.objs.size + 1) a b:=by
  constructor <;> first | exact ga 4 | exact ga 3 | exact ga 1 | exact ga 0 | exact gb 4 | exact gb 3 | exact gb 1 | exact gb 0 | exact RQ (by omega) | exact TF (by omega)
 refine ⟨s1.heap.objs.size + 4,[s1.heap.objs.size + 4,s1.heap.objs.size + 2,s1.heap.objs.size + 3,s1.heap.objs.size,s1.heap.objs.size + 1],_,_,H1,rfl,I2,GY a b _ _ _ _ _ D,⟨hz,h2,⟨_,_,h3⟩,h4,h5⟩,fun c hc=>?_,q⟩
 have hb:s1.heap.objs.size<=c:=by
  simp only [RJ,Rv,or_false] at hc;rcases hc with rfl | rfl | rfl | rfl | rfl
  ·exact Tv _ _
  ·exact Tv _ _
  ·exact Tv _ _
  ·exact RE _
  ·exact Tv _ _
 exact I1.qU hb (I1.hok.fresh hb)
theorem vC:∀ {ns:Ur}{us:Ug},Vals (ns.map V.int) us->∃ ps:List (Int×Tok),us=ps.map (fun p=>Value.int p.1 p.2)/\ns=ps.map (·.1)
 | [],_,.nil=>⟨[],rfl,rfl⟩
 | n::ns,_,.cons h r=>by
  obtain ⟨t,rfl⟩:=h;obtain ⟨ps,rfl,rfl⟩:=vC r;exact ⟨(n,t)::ps,rfl,rfl⟩
end
end L2
namespace L2
open PySem PySem.Spec PyProof.Rows PySem.W
section
variable {X:Cx}
def DU (hc:X.calm=true):cQ X (.builtin "min") (fun xs H Q=>∃ (a:Addr)(ns:Ur),xs=[.ref a]/\bT X.K H a (ns.map V.int)/\ns≠[]/\∀ M,M∈ns->(∀ n∈ns,M<=n)->Q (.int M) H):=by
 intro pins s σ H xs us Q I r h;obtain ⟨a,ns,rfl,hq,ne,q⟩:=h;obtain ⟨u,rfl,ru⟩:=vals1 r;cases ru;obtain ⟨its,rv,p,_⟩:=I.list hq;obtain ⟨ps,rfl,rfl⟩:=vC rv;have hl:s.heap.IsList a (intItems ps.toArray):=by
  have:=p.isList
  simpa [intItems] using this
 refine min_intList (I.ok.hd hc) hl (by simpa using List.length_pos_iff.mpr (fun e=>ne (by rw [e];rfl))) fun v h' tk hv hk=>?_
 obtain ⟨t,rfl⟩:=intItems_at hv;obtain ⟨g1,g2⟩:=argBest_lt (numAt ps.toArray) (ps.toArray.size - 1);have pos:0 < ps.length:=List.length_pos_iff.mpr fun e=>ne (by rw [e];rfl)
 refine ⟨.int _,H,I.kept (t':=tk) hk,⟨_,rfl⟩,q _ ?_ fun n hn=>?_⟩
 ·rw [numAt_eq];exact getD_mem (by simp at g1 ⊢;omega)
 ·obtain ⟨j,hj,rfl⟩:=mem_getD hn;rw [RD] at hj;have e:(ps.map (·.1)).getD j 0=numAt ps.toArray j:=by rw [numAt_eq]
  rw [e];exact g2 j (by simp;omega)
end
end L2
namespace Dv
open PySem L2 PySem.W
section
variable {K:Frag}{H Hm:Hp}{P:Ux}{Q:VK}
def bY (K:Frag)(H Hm:Hp)(P:Ux)(Q:VK):Prop:=∀ k v u H' Hm' fp,P k v->aj H H'->aj Hm Hm'->aj Hm' H'->(∀ a,H a≠none->OE (Hm' a) (Hm a))->Own K H' Hm' k u v fp->(∀ a∈fp,H a=none/\Hm' a=none)->Q u H'
def bY.sc (q:bY K H Hm P Q)(s:aj Hm H)(p:P .sh v)(r:Rp K Hm u v):Q u H:=q _ _ _ _ _ [] p (aj.refl _) (aj.refl _) s (fun _ _=>.inl rfl) (.sh r) fun _ z=>by cases z
def ic (s:aj Hm H){p:Addr}(h:H p=none):Hm p=none:=by
 cases e:Hm p with
 | none=>rfl
 | some o=>rw [s _ _ e] at h;cases h
def bY.nl (q:bY K H Hm P Q)(s:aj Hm H){p:Addr}(pp:P (.ow false) (.list ds))(hp:H p=none)(r:aG K Hm xs ds):Q (.ref p) (upd H p (.lst xs)) :=
 q _ _ _ _ Hm [p] pp (bZ hp) (aj.refl _) (s.trans (bZ hp)) (fun _ _=>.inl rfl) (.ow aL r) fun a ha=>by rw [RH.mp ha];exact ⟨hp,ic s hp⟩
def bY.nt (q:bY K H Hm P Q)(s:aj Hm H){p:Addr}(pp:P .sh (.tuple ds))(hp:H p=none)(r:aG K Hm xs ds):Q (.ref p) (upd H p (.tup xs)):=by
 have n:=ic s hp;have s2:=bZ (o:=.tup xs) n;refine q _ _ _ _ (upd Hm p (.tup xs)) [] pp (bZ hp) s2 (fun b o e=>?_) (fun a ha=>.inl (ao fun z=>ha (z ▸ hp))) (.sh (.tup aL (r.mono s2))) fun _ z=>by cases z
 by_cases c:b=p
 ·rw [c,aL] at e ⊢;exact e
 ·rw [ao c] at e ⊢;exact s _ _ e
end
def r2 (r:R2):List V->Hp->VK->Prop:=fun vs H Q=>match vs with
 | [x,y]=>r x y H Q
 | _=>False
def r1 (r:V->Hp->VK->Prop):List V->Hp->VK->Prop:=fun vs H Q=>match vs with
 | [x]=>r x H Q
 | _=>False
def d7 (h:aG K H vs [a]):∃ x,vs=[x]/\Rp K H x a:=by
 cases h with
 | cons h t=>cases t;exact ⟨_,rfl,h⟩
def cW (h:aG K H vs [a,b]):∃ x y,vs=[x,y]/\Rp K H x a/\Rp K H y b:=by
 cases h with
 | cons h t =>
  obtain ⟨y,rfl,h2⟩:=d7 t;exact ⟨_,_,rfl,h,h2⟩
def Qx (h:aG K H vs [a,b,c]):∃ x y z,vs=[x,y,z]/\Rp K H x a/\Rp K H y b/\Rp K H z c:=by
 cases h with
 | cons h t =>
  obtain ⟨y,z,rfl,h2,h3⟩:=cW t;exact ⟨_,_,_,rfl,h,h2,h3⟩
def bX.or (h:bX X f r)(k:bX X f s):bX X f fun x y H Q=>r x y H Q\/s x y H Q:=fun pins st σ H x y v u Q I a b z=>z.elim (h pins st σ H x y v u Q I a b) (k pins st σ H x y v u Q I a b)
section
variable {X:Cx}{Ex:XK}{π:Uq}
def nO (ho:bX X (binaryOp op) r)(D:cY X.K f (r2 r))(S:aY X Ex π [a,b] as):SE X Ex π (.BinOp a op b pos) (ah f as):=fZ (r:=r2 r) S (fun σ H Q h=>WE.of (Od ho bg bg) h) D
def OD (ho:IU X (unaryOp op) r)(D:cY X.K f (r1 r))(S:aY X Ex π [a] as):SE X Ex π (.UnaryOp op a pos) (ah f as):=fZ (r:=r1 r) S (fun σ H Q h=>WE.of (O8 ho bg) h) D
def om (ho:bX X (compareOp op) r)(hm:behindInMarks op b=false)(D:cY X.K f (r2 r))(S:aY X Ex π [a,b] as):SE X Ex π (.Compare a [op] [b] pos) (ah f as):=fZ (r:=r2 r) S (fun σ H Q h=>WE.of (Jw ho bg bg hm) h) D
def Oi (ho:qb X r)(hs:nN b)(D:cY X.K f (r2 r))(S:aY X Ex π [a,b] as):SE X Ex π (.Subscript a b pos) (ah f as):=fZ (r:=r2 r) S (fun σ H Q h=>WE.of (Jh ho bg bg hs) h) D
end
def oM (g:Int->Int->PyData):DR:=fun ds P=>match ds with
 | [.int a,.int b]=>P .sh (g a b)
 | _=>False
def xj (C:Int->Int->Prop)(g:Int->Int->PyData):DR:=fun ds P=>match ds with
 | [.int a,.int b]=>C a b/\P .sh (g a b)
 | _=>False
def ve {Z:Prop}{f:Int->Int->Prop}(h:match ds with | [PyData.int a,.int b]=>f a b | _=>False)(k:∀ a b,ds=[.int a,.int b]->f a b->Z):Z:=by
 split at h
 ·exact k _ _ rfl h
 ·exact h.elim
def gf {g:Int->Int->PyData}{gv:Int->Int->V}(hg:∀ a b Hm,Rp K Hm (gv a b) (g a b)):cY K (oM g) (r2 (mE gv)):=by
 intro H Hm vs ds P Q s r h q;refine ve h fun a b e p=>?_
 subst e;obtain ⟨x,y,rfl,h1,h2⟩:=cW r;cases h1;cases h2;exact ⟨a,b,rfl,rfl,bY.sc q s p (hg a b Hm)⟩
def vg {g:Int->Int->PyData}{gv:Int->Int->V}(hg:∀ a b Hm,Rp K Hm (gv a b) (g a b)):cY K (xj C g) (r2 (rI C gv)):=by
 intro H Hm vs ds P Q s r h q;refine ve h fun a b e p=>?_
 subst e;obtain ⟨x,y,rfl,h1,h2⟩:=cW r;cases h1;cases h2;exact ⟨a,b,rfl,rfl,p.1,bY.sc q s p.2 (hg a b Hm)⟩
inductive Dk (K:Frag) (x:V) (y:V)(H:Hp)(Q:VK):Prop
 | mk:∀ l b xs zs,(x=.ref l)->(y=.ref b)->(cG K H l xs)->(cG K H b zs)->(xs.length + zs.length<=sizeLine)->(∀ p,H p=none->Q (.ref p) (upd H p (.lst (xs++zs))))->Dk K x y H Q
def Jc (K:Frag):R2:=fun x y H Q=>Dk K x y H Q
section
variable {X:Cx}
def KS:bX X (binaryOp .Add) (Jc X.K):=by
 intro pins s σ H x y v u Q I rx ry h;obtain ⟨l,b,xs,zs,rfl,rfl,hH,hB,hz,q⟩:=h;cases rx;cases ry;obtain ⟨z,its,n,r,e⟩:=hH.get I;obtain ⟨z2,its2,n2,r2,e2⟩:=hB.get I;have hl:=r.length;have hl2:=r2.length;refine PySem.P.add_list e e2 ?_ (by rw [RV,RV];omega)
 have ea:its.toArray++its2.toArray=(its++its2).toArray:=by simp
 rw [ea];exact ⟨.ref _,_,I.MU (t':=s.toks) (r.append r2) (by rw [RW];omega),rfl,q _ I.fresh⟩
end
def dH:DR:=fun ds P=>match ds with
 | [.int a,.int b]=>P .sh (.int (a + b))
 | [.list a,.list b]=>a.length + b.length<=sizeLine/\P (.ow false) (.list (a++b))
 | [.tuple a,.tuple b]=>(a≠[]/\a.length + b.length<=sizeLine)/\P .sh (.tuple (a++b))
 | [.str a,.str b]=>a.length + b.length<=sizeLine/\P .sh (.str (a++b))
 | _=>False
def Ip (K:Frag):R2:=fun x y H Q=>(((mE fun i j=>.int (i + j)) x y H Q\/Jc K x y H Q)\/IA K x y H Q)\/∃ i j,x=.str i/\y=.str j/\i.length + j.length<=sizeLine/\Q (.str (i++j)) H
def KN:bX X (binaryOp .Add) (Ip X.K):=((Ob.or KS).or Jz).or BR
def Ka:cY K dH (r2 (Ip K)):=by
 intro H Hm vs ds P Q s r h q;unfold dH at h;split at h
 ·obtain ⟨x,y,rfl,h1,h2⟩:=cW r;cases h1;cases h2;exact .inl (.inl (.inl ⟨_,_,rfl,rfl,bY.sc q s h (.int _)⟩))
 ·obtain ⟨x,y,rfl,h1,h2⟩:=cW r;cases h1 with
  | lst a1 r1 =>
   cases h2 with
   | lst a2 r2=>exact .inl (.inl (.inr ⟨_,_,_,_,rfl,rfl,cG.mono s a1,cG.mono s a2,by rw [r1.len,r2.len];exact h.1,fun p hp=>bY.nl q s h.2 hp (r1.app r2)⟩))
 ·obtain ⟨x,y,rfl,h1,h2⟩:=cW r;cases h1 with
  | @tup a xs ds1 a1 r1 =>
   cases h2 with
   | @tup b ys ds2 a2 r2 =>
    refine .inl (.inr ⟨_,_,_,_,rfl,rfl,cP.of (s _ _ a1),cP.of (s _ _ a2),fun z=>h.1.1 ?_,by rw [r1.len,r2.len];exact h.1.2,fun z=>?_,fun _ p hp=>bY.nt q s h.2 hp (r1.app r2)⟩)
    ·subst z;cases r1;rfl
    ·subst z;cases r2;refine bY.sc q s h.2 ?_;rw [SN];exact .tup a1 r1
 ·obtain ⟨x,y,rfl,h1,h2⟩:=cW r;cases h1;cases h2;exact .inr ⟨_,_,rfl,rfl,h.1,bY.sc q s h.2 (.str _)⟩
 ·exact h.elim
inductive Dh (K:Frag) (x:V) (y:V)(H:Hp)(Q:VK):Prop
 | mk:∀ l k xs,(x=.ref l)->(y=.int k)->(cG K H l xs)->(-(2 ^ 63)<=k)->(k < 2 ^ 63)->(xs.length * k.toNat<=sizeLine)->(∀ p,H p=none->Q (.ref p) (upd H p (.lst (List.replicate k.toNat xs).flatten)))->Dh K x y H Q
def HZ (K:Frag):R2:=fun x y H Q=>Dh K x y H Q
section
variable {X:Cx}
open PyProof.Rows in
def KW:bX X (binaryOp .Mult) (HZ X.K):=by
 intro pins s σ H x y v u Q I rx ry h;obtain ⟨l,k,xs,rfl,rfl,hH,h1,h2,hz,q⟩:=h;cases rx;obtain ⟨t,rfl⟩:=ry;obtain ⟨z,its,n,r,e⟩:=hH.get I;have hl:=r.length;have hlen:its.toArray.size * k.toNat<=sizeLine:=by rw [RV,<- hl];exact hz
 have hcap:¬ its.toArray.size * k.toNat > (2 ^ 63 - 1) / 8:=by
  have:(sizeLine:Nat)<=(2 ^ 63 - 1) / 8:=by decide
  omega
 have hfit:¬ (!Builtin.List.listFitsIndex k)=true:=by
  rw [fitsIndex_both h1 h2];exact RX
 have hlong:¬ Builtin.List.listTooLong (its.toArray.size * k.toNat)=true:=by
  rw [xO hlen];exact RX
 have hnew:List.foldl (fun x1 x2=>x1++x2) #[] (List.replicate (if its.toArray.isEmpty=true then 0 else k.toNat) its.toArray)=(List.replicate k.toNat its).flatten.toArray:=by
  have f0:∀ m:Nat,List.foldl (fun x1 x2=>x1++x2) #[] (List.replicate m its.toArray)=(List.replicate m its).flatten.toArray:=fun m=>by
   have:=foldl_rep its m [];rw [List.nil_append] at this;exact this
  rw [f0];cases its with
  | nil=>simp
  | cons a r'=>rw [if_neg (by simp)]
 refine wpAny_binaryOp_repeat_ref (T:="list") (U:="int") (by decide) ⟨_,e,rfl⟩ (fun s'=>typeIs_int s' k t) noFill_list_mul F.fills_int_mul F.slot_int_rmul repeat_list F.slot_int_index.lookup
  (call_meets F.slot_int_rmul (typeIs_int s k t) F.entry_int_rmul (F.args_int_rmul_2 _ _) (int___rmul___int_list k t l its.toArray n)
   ⟨e,rfl,⟨_,e,rfl⟩,call_meets F.slot_list_mul ⟨_,e,rfl⟩ F.entry_list_mul (F.args_list_mul_2 _ _) (AutoListH.list___mul___list_int_3 l its.toArray n k t hfit hcap hlong) ⟨e,?_⟩⟩)
 rw [hnew];exact ⟨.ref _,_,I.MU (t':=s.toks) (r.rep k.toNat) (by rw [len_rep,Nat.mul_comm];exact hz),rfl,q _ I.fresh⟩
end
theorem aG.rep (r:aG K H xs ds):∀ n:Nat,aG K H (List.replicate n xs).flatten (List.replicate n ds).flatten
 | 0=>.nil
 | n + 1=>by rw [To,To,U6,U6];exact r.app (r.rep n)
def jg:DR:=fun ds P=>match ds with
 | [.int a,.int b]=>kB a b/\P .sh (.int (a * b))
 | [.list a,.int k]=>(-(2 ^ 63)<=k/\k < 2 ^ 63/\a.length * k.toNat<=sizeLine)/\P (.ow false) (.list (List.replicate k.toNat a).flatten)
 | _=>False
def Il (K:Frag):R2:=fun x y H Q=>(rI kB fun i j=>.int (i * j)) x y H Q\/HZ K x y H Q
def Ks:bX X (binaryOp .Mult) (Il X.K):=LH.or KW
def Kl:cY K jg (r2 (Il K)):=by
 intro H Hm vs ds P Q s r h q;unfold jg at h;split at h
 ·obtain ⟨x,y,rfl,h1,h2⟩:=cW r;cases h1;cases h2;exact .inl ⟨_,_,rfl,rfl,h.1,bY.sc q s h.2 (.int _)⟩
 ·obtain ⟨x,y,rfl,h1,h2⟩:=cW r;cases h2;cases h1 with
  | lst a1 r1=>exact .inr ⟨_,_,_,rfl,rfl,cG.mono s a1,h.1.1,h.1.2.1,by rw [r1.len];exact h.1.2.2,fun p hp=>bY.nl q s h.2 hp (r1.rep _)⟩
 ·exact h.elim
end Dv
namespace L2
open PySem PySem.Spec PyProof.Rows
section
variable {prog:Program}{w:World}{A:Around}{E:Tn}{s:Shared}
def w4 {t sl:Addr}{items:Ua}{vl vu:Value}{lo hi:Option Int}{Q:Tn}(ht:IsTup s.heap t items)(hs:s.heap.IsSliceOf sl vl vu .none)(pl:IsPart vl lo)(pu:IsPart vu hi)
  (w0:HT.aW items.size 0 lo=0)(w1:HT.aW items.size items.size hi=items.size)(h:Q (.ref t) s):wpAny (model prog w) A (getItem (.ref t) (.ref sl)) Q E s:=by
 obtain ⟨os,hos,hcs,hds⟩:=id hs;have hTs:s.TypeIs (.ref sl) "slice":=⟨os,hos,hcs⟩;unfold getItem;refine Sa (?_:_)
 refine R8 (wpAny_sequenceKey ht.typeIs (by decide) (?_:_))
 refine R8 (U5 (name:=Str.ofString "__getitem__") ht.typeIs Uw
  (Sh Uw ht.typeIs entry_tuple_getitem (?_:_) (args_tuple_getitem _ _)))
 refine id (?_:wpAny _ _ (Builtin.Tuple.tupleItemsOf (.ref t) >>= _) _ _ s);refine R8 (tupleItemsOf_ ht (?_:_))
 refine R8 (wpAny_typeOf hTs (?_:_))
 rw [if_pos (by decide)]
 refine R8 (HT.lW hs pl pu (?_:_))
 have yes:(((HT.aW items.size 0 lo:Nat):Int) == 0 && (1:Int) == 1 && (HT.aW items.size items.size hi - HT.aW items.size 0 lo) == items.size)=true:=by
  rw [w0,w1,Nat.sub_zero];simp
 refine id (?_:wpAny _ _ (if (((HT.aW items.size 0 lo:Nat):Int) == 0 && (1:Int) == 1 && (HT.aW items.size items.size hi - HT.aW items.size 0 lo) == items.size)=true then _ else _) _ _ s)
 rw [if_pos yes];refine R8 (m:=Builtin.Tuple.tupleIsExact _) (R8 (wpAny_typeOf ht.typeIs (R9 (?_:_))))
 rw [if_pos (by decide)]
 refine R8 (SY (?_:_))
 exact R9 ⟨_,rfl,R9 h⟩
end
section
variable {X:Cx}
def Ig (K:UU):V->Option Int->Option Int->Hp->VK->Prop:=fun x lo hi H Q=>∃ a xs,x=.ref a/\cP K H a xs /\
 (HT.aW xs.length 0 lo=0/\HT.aW xs.length xs.length hi=xs.length->Q (.ref a) H)/\(¬ (HT.aW xs.length 0 lo=0/\HT.aW xs.length xs.length hi=xs.length)->∀ p,H p=none->Q (.ref p) (upd H p (.tup (pU xs lo hi))))
def J6:EO X (Ig X.K):=by
 intro pins s σ H x v vl vu lo hi sl Q I rx hs pl pu h;obtain ⟨a,xs,rfl,hx,q1,q2⟩:=h
 by_cases c:HT.aW xs.length 0 lo=0/\HT.aW xs.length xs.length hi=xs.length
 ·cases rx;obtain ⟨its,r,ht,hz⟩:=I.tuple hx;have hlen:its.toArray.size=xs.length:=by rw [RV];exact r.length.symm
  refine ⟨"tuple",_,Uw.lookup,ht.typeIs,?_⟩;exact w4 ht hs pl pu (by rw [hlen];exact c.1) (by rw [hlen];exact c.2) ⟨.ref a,H,I,rfl,q1 c⟩
 ·exact LQ pins s σ H (.ref a) v vl vu lo hi sl Q I rx hs pl pu ⟨a,xs,rfl,hx,c,q2 c⟩
end
end L2
namespace Dv
open PySem L2 PySem.W
def dl:Nat->PyData->Bool
 | _,.none=>true
 | _,.int _=>true
 | _,.str x=>PyData.strOk x
 | n + 1,.list ds=>ds.all (dl n)
 | n + 1,.tuple ds=>ds.all (dl n)
 | _,_=>false
theorem nZ:∀ {ds:Ub},(∀ d∈ds,d.canLay0=true)->PyData.canLayAll0 ds=true
 | [],_=>rfl
 | d::ds,h=>by
  rw [PyData.canLayAll0,h d RA,nZ fun e he=>h e (RG _ he)]
  rfl
theorem qk {n:Nat}:∀ {ds:Ub},(∀ d∈ds,d.depth<=n)->PyData.depthAll ds<=n
 | [],_=>by rw [PyData.depthAll];exact S8 _
 | d::ds,h=>by
  rw [PyData.depthAll];exact Nat.max_le.mpr ⟨h d RA,qk fun e he=>h e (RG _ he)⟩
theorem i7:∀ {n:Nat}{d:PyData},dl n d=true->d.canLay0=true/\d.depth<=n
 | _,.none,_=>⟨rfl,S8 _⟩
 | _,.int _,_=>⟨rfl,S8 _⟩
 | n,.str x,h=>⟨by cases n <;> exact h,S8 _⟩
 | n + 1,.list ds,h=>by
  have h:ds.all (dl n)=true:=h;rw [RP] at h;refine ⟨by rw [PyData.canLay0];exact nZ fun d hd=>(i7 (h d hd)).1,?_⟩
  rw [PyData.depth];have:=qk (n:=n) (ds:=ds) fun d hd=>(i7 (h d hd)).2
  omega
 | n + 1,.tuple ds,h=>by
  have h:ds.all (dl n)=true:=h;rw [RP] at h;refine ⟨by rw [PyData.canLay0];exact nZ fun d hd=>(i7 (h d hd)).1,?_⟩
  rw [PyData.depth];have:=qk (n:=n) (ds:=ds) fun d hd=>(i7 (h d hd)).2
  omega
 | 0,.list _,h=>by cases h
 | 0,.tuple _,h=>by cases h
 | n,.bool _,h=>by cases n <;> cases h
 | n,.dict _,h=>by cases n <;> cases h
theorem qS:∀ {ds:Ub},(∀ d∈ds,nd d=true)->nd.nds ds=true
 | [],_=>rfl
 | d::ds,h=>by
  rw [nd.nds,h d RA,qS fun e he=>h e (RG _ he)]
  rfl
theorem mO:∀ {n:Nat}{d:PyData},dl n d=true->nd d=true
 | _,.none,_=>rfl
 | _,.int _,_=>rfl
 | _,.str _,_=>rfl
 | _,.bool _,_=>rfl
 | n + 1,.list ds,h=>by
  have h:ds.all (dl n)=true:=h;rw [RP] at h;rw [nd];exact qS fun d hd=>mO (h d hd)
 | n + 1,.tuple ds,h=>by
  have h:ds.all (dl n)=true:=h;rw [RP] at h;rw [nd];exact qS fun d hd=>mO (h d hd)
 | 0,.list _,h=>by cases h
 | 0,.tuple _,h=>by cases h
 | n,.dict _,h=>by cases n <;> cases h
theorem qh (hf:∀ a b,f a=true->f b=true->SeqAt.noMix a b=true):∀ {xs ys:Ub},xs.all f=true->ys.all f=true->SeqAt.noMixAll xs ys=true
 | [],[],_,_=>rfl
 | [],_::_,_,_=>rfl
 | _::_,[],_,_=>rfl
 | x::xs,y::ys,h1,h2=>by
  rw [RU,RK] at h1 h2;rw [SeqAt.noMixAll,hf x y h1.1 h2.1,qh hf h1.2 h2.2];rfl
def De:∀ (n:Nat)(a b:PyData),dl n a=true->dl n b=true->SeqAt.noMix a b=true:=by
 intro n
 induction n with
 | zero =>
  intro a b ha hb;cases a <;> first | (cases ha;done) | (cases b <;> first | (cases hb;done) | rfl)
 | succ n ih =>
  intro a b ha hb;cases a with
  | list xs =>
   cases b with
   | list ys=>rw [SeqAt.noMix];exact qh ih ha hb
   | dict _=>cases hb
   | bool _=>cases hb
   | _=>rfl
  | tuple xs =>
   cases b with
   | tuple ys=>rw [SeqAt.noMix];exact qh ih ha hb
   | dict _=>cases hb
   | bool _=>cases hb
   | _=>rfl
  | dict _=>cases ha
  | bool _=>cases ha
  | _=>cases b <;> first | (cases hb;done) | rfl
def EC {n:Nat}(ha:dl n a=true)(hb:dl n b=true):PyData.eqv a b=decide (a=b):=by
 rw [<- SeqAt.same_eq_eqv a b (De n a b ha hb),Su,PyProof.Rows.same_iff,SJ]
def we {n:Nat}(h:dl n d=true)(l:n<=60):SeqAt.shaped d=true:=by
 obtain ⟨h1,h2⟩:=i7 h;unfold SeqAt.shaped;rw [h1,Rq (Rz h2 (by omega))]
 rfl
def IP (a b:PyData)(P:Bool->Prop):Prop:=match a,b with
 | .int a,.int b=>P (decide (a=b))
 | .str a,.str b=>P (decide (a=b))
 | .bool a,.bool b=>P (decide (a=b))
 | .none,.none=>P true
 | a,b=>(dl 8 a=true/\dl 8 b=true)/\P (decide (a=b))
def jv:DR:=fun ds P=>match ds with
 | [a,b]=>IP a b fun c=>P .sh (.bool c)
 | _=>False
def iY:DR:=fun ds P=>match ds with
 | [a,b]=>IP a b fun c=>P .sh (.bool !c)
 | _=>False
def tH (K:Frag)(neg:Bool):R2:=fun x y H Q=>GV K neg x y H Q\/(if neg then PR x y H Q else Pn x y H Q)
section
variable {X:Cx}
def FW (hu:X.A.units + 64 < cLine):bX X (compareOp .Eq) (tH X.K false):=(NF hu).or (OX (X:=X))
def L7 (hu:X.A.units + 64 < cLine):bX X (compareOp .NotEq) (tH X.K true):=(Nv hu).or (Ox (X:=X))
end
def DZ (neg:Bool)(s:aj Hm H)(h1:Rp K Hm x a)(h2:Rp K Hm y b)(h:IP a b Pb)(q:∀ c,Pb c->Q (.bl (if neg then !c else c)) H):tH K neg x y H Q:=by
 have gen:dl 8 a=true/\dl 8 b=true->Pb (decide (a=b))->tH K neg x y H Q:=fun hd p=>by
  refine .inl ⟨a,b,(h1.mono s).qq (mO hd.1),(h2.mono s).qq (mO hd.2),we hd.1 (by decide),we hd.2 (by decide),De 8 a b hd.1 hd.2,?_⟩
  have e:Spec.same a b=decide (a=b):=by rw [Su,PyProof.Rows.same_iff,SJ]
  rw [e];exact q _ p
 have sc:HA x y=true->Pb (decide (x=y))->tH K neg x y H Q:=fun hs p=>by
  refine .inr ?_;cases neg with
  | true=>exact ⟨hs,q _ p⟩
  | false=>exact ⟨hs,q _ p⟩
 unfold IP at h;split at h
 ·cases h1;cases h2;refine sc rfl ?_
  simpa using h
 ·cases h1;cases h2;refine sc rfl ?_
  simpa using h
 ·cases h1;cases h2;refine sc rfl ?_
  simpa using h
 ·cases h1;cases h2;exact gen ⟨rfl,rfl⟩ (by simpa using h)
 ·exact gen h.1 h.2
def Ew:cY K jv (r2 (tH K false)):=by
 intro H Hm vs ds P Q s r h q;unfold jv at h;split at h
 ·obtain ⟨x,y,rfl,h1,h2⟩:=cW r;exact DZ false s h1 h2 h fun c p=>bY.sc q s p (.bl _)
 ·exact h.elim
def MP:cY K iY (r2 (tH K true)):=by
 intro H Hm vs ds P Q s r h q;unfold iY at h;split at h
 ·obtain ⟨x,y,rfl,h1,h2⟩:=cW r;exact DZ true s h1 h2 h fun c p=>bY.sc q s p (.bl _)
 ·exact h.elim
def cZ (neg:Bool):DR:=fun ds P=>match ds with
 | [a,.none]=>P .sh (.bool (if neg then !decide (a=.none) else decide (a=.none)))
 | _=>False
def AS (h:Rp K H x d):decide (x=.bF)=decide (d=.none):=by
 cases h <;> simp
def Bw:cY K (cZ false) (r2 fun x y H Q=>y=.bF/\Q (.bl (decide (x=.bF))) H):=by
 intro H Hm vs ds P Q s r h q;unfold cZ at h;split at h
 ·obtain ⟨x,y,rfl,h1,h2⟩:=cW r;cases h2;refine ⟨rfl,?_⟩;rw [AS h1];exact bY.sc q s h (.bl _)
 ·exact h.elim
def Hy:cY K (cZ true) (r2 fun x y H Q=>y=.bF/\Q (.bl (!decide (x=.bF))) H):=by
 intro H Hm vs ds P Q s r h q;unfold cZ at h;split at h
 ·obtain ⟨x,y,rfl,h1,h2⟩:=cW r;cases h2;refine ⟨rfl,?_⟩;rw [AS h1];exact bY.sc q s h (.bl _)
 ·exact h.elim
def D9 (neg:Bool):DR:=fun ds P=>match ds with
 | [d,.list xs]=>(xs.all (dl 8)=true/\dl 8 d=true)/\P .sh (.bool (if neg then !decide (d∈xs) else decide (d∈xs)))
 | [d,.tuple xs]=>(xs.all (dl 8)=true/\dl 8 d=true)/\P .sh (.bool (if neg then !decide (d∈xs) else decide (d∈xs)))
 | _=>False
inductive IG (K:Frag)(neg:Bool) (x:V) (y:V)(H:Hp)(Q:VK):Prop
 | mk:∀ (d:PyData)(xs:Ub),(mD K H x d)->((mD K H y (.list xs)\/mD K H y (.tuple xs)))->(PyData.canLayAll0 xs=true)->(d.canLay0=true)->(d.depth<=60)->(Q (.bl (if neg then !xs.any fun y=>PyData.eqv y d else xs.any fun y=>PyData.eqv y d)) H)->IG K neg x y H Q
def GO (K:Frag)(neg:Bool):R2:=fun x y H Q=>IG K neg x y H Q
section
variable {X:Cx}
def MK (hu:X.A.units + 64 < cLine):bX X (compareOp .In) (GO X.K false):=by
 intro pins s σ H x y v u Q I rx ry h;obtain ⟨d,xs,hx,hy,l1,l2,dp,q⟩:=h;obtain ⟨bs,rb⟩:=I.reads hx rx;rcases hy with hy | hy
 ·obtain ⟨as,ra⟩:=I.reads hy ry;exact SeqAt.in_list_reads ra rb l1 l2 (by omega) ⟨.bl _,H,I,rfl,q⟩
 ·obtain ⟨as,ra⟩:=I.reads hy ry;exact SeqAt.in_tuple_reads ra rb l1 l2 (by omega) ⟨.bl _,H,I,rfl,q⟩
end
def By {n:Nat}{xs:Ub}(h:xs.all (dl n)=true)(hd:dl n d=true):(xs.any fun y=>PyData.eqv y d)=decide (d∈xs):=by
 rw [Su,List.any_eq_true,SJ];rw [RP] at h;constructor
 ·rintro ⟨y,hy,e⟩;rw [EC (h y hy) hd,SJ] at e;exact e ▸ hy
 ·intro m;exact ⟨d,m,by rw [EC hd hd];simp⟩
def Nz {K:Frag}(neg:Bool):cY K (D9 neg) (r2 (GO K neg)):=by
 intro H Hm vs ds P Q s r h q;unfold D9 at h;split at h
 ·rename_i d xs;obtain ⟨x,y,rfl,h1,h2⟩:=cW r;obtain ⟨⟨ha,hd⟩,p⟩:=h;refine ⟨d,xs,(h1.mono s).qq (mO hd),.inl ((h2.mono s).qq (by rw [nd];exact qS fun d hd=>mO (RP.mp ha d hd))),nZ fun e he=>(i7 (RP.mp ha e he)).1,(i7 hd).1,Rz (i7 hd).2 (by decide),?_⟩
  rw [By ha hd];exact bY.sc q s p (.bl _)
 ·rename_i d xs;obtain ⟨x,y,rfl,h1,h2⟩:=cW r;obtain ⟨⟨ha,hd⟩,p⟩:=h;refine ⟨d,xs,(h1.mono s).qq (mO hd),.inr ((h2.mono s).qq (by rw [nd];exact qS fun d hd=>mO (RP.mp ha d hd))),nZ fun e he=>(i7 (RP.mp ha e he)).1,(i7 hd).1,Rz (i7 hd).2 (by decide),?_⟩
  rw [By ha hd];exact bY.sc q s p (.bl _)
 ·exact h.elim
def Ek:DR:=fun ds P=>match ds with
 | [.list xs,.int i]=>∃ d,fc xs i=some d/\P .sh d
 | [.tuple xs,.int i]=>∃ d,fc xs i=some d/\P .sh d
 | _=>False
theorem aG.fc (r:aG K H vs ds){i:Int}(h:L2.fc ds i=some d):∃ v,L2.fc vs i=some v/\Rp K H v d:=by
 unfold L2.fc at h ⊢;rw [r.len];cases e:p7 ds.length i with
 | none=>rw [e] at h;cases h
 | some j =>
  rw [e] at h;exact r.get h
def yc:cY K Ek (r2 (NZ K)):=by
 intro H Hm vs ds P Q s r h q;unfold Ek at h;split at h
 ·obtain ⟨x,y,rfl,h1,h2⟩:=cW r;obtain ⟨d,e,p⟩:=h;cases h2;cases h1 with
  | lst a1 r1 =>
   obtain ⟨v,e2,rv⟩:=r1.fc e;exact .inl ⟨_,_,_,v,rfl,rfl,(cG.mono s a1).sq,e2,bY.sc q s p rv⟩
 ·obtain ⟨x,y,rfl,h1,h2⟩:=cW r;obtain ⟨d,e,p⟩:=h;cases h2;cases h1 with
  | tup a1 r1 =>
   obtain ⟨v,e2,rv⟩:=r1.fc e;exact .inr (.inl ⟨_,_,_,v,rfl,rfl,cP.of (s _ _ a1),e2,bY.sc q s p rv⟩)
 ·exact h.elim
def cutD (xs:Ub)(lo hi:Option Int):Ub:=(xs.drop (HT.aW xs.length 0 lo)).take (HT.aW xs.length xs.length hi - HT.aW xs.length 0 lo)
def aG.cut (r:aG K H vs ds)(lo hi:Option Int):aG K H (pU vs lo hi) (cutD ds lo hi):=by
 unfold pU cutD;rw [r.len];exact (r.drop _).take _
def E8 (d:PyData)(lo hi:Option Int)(P:Ux):Prop:=match d with
 | .list xs=>P (.ow false) (.list (cutD xs lo hi))
 | .tuple xs=>P .sh (.tuple (cutD xs lo hi))
 | _=>False
def lT (bl bh:Bool):DR:=fun ds P=>match bl,bh,ds with
 | false,false,[d]=>E8 d none none P
 | true,false,[d,.int a]=>E8 d (some a) none P
 | false,true,[d,.int b]=>E8 d none (some b) P
 | true,true,[d,.int a,.int b]=>E8 d (some a) (some b) P
 | _,_,_=>False
def vq (K:Frag):V->Option Int->Option Int->Hp->VK->Prop:=fun x lo hi H Q=>NN K x lo hi H Q\/Ig K x lo hi H Q
def GX:EO X (vq X.K):=fun pins s σ H x v vl vu lo hi sl Q I rx hs pl pu h=>h.elim (JQ pins s σ H x v vl vu lo hi sl Q I rx hs pl pu) (J6 pins s σ H x v vl vu lo hi sl Q I rx hs pl pu)
def Ey (bl bh:Bool)(K:Frag):List V->Hp->VK->Prop:=fun vs H Q=>match bl,bh,vs with
 | false,false,[x]=>vq K x none none H Q
 | true,false,[x,a]=>∃ i,a=.int i/\vq K x (some i) none H Q
 | false,true,[x,b]=>∃ i,b=.int i/\vq K x none (some i) H Q
 | true,true,[x,a,b]=>∃ i,a=.int i/\∃ j,b=.int j/\vq K x (some i) (some j) H Q
 | _,_,_=>False
def BG (h:HT.aW xs.length 0 lo=0/\HT.aW xs.length xs.length hi=xs.length):cutD xs lo hi=xs:=by
 unfold cutD;rw [h.1,h.2,List.drop_zero,Nat.sub_zero,Sd]
def uM (q:bY K H Hm P Q)(s:aj Hm H)(h1:Rp K Hm x d)(h:E8 d lo hi P):vq K x lo hi H Q:=by
 cases h1 with
 | lst a1 r1=>exact .inl ⟨_,_,rfl,(cG.mono s a1).sq,fun p hp=>bY.nl q s h hp (r1.cut lo hi)⟩
 | tup a1 r1 =>
  refine .inr ⟨_,_,rfl,cP.of (s _ _ a1),fun w=>?_,fun _ p hp=>bY.nt q s h hp (r1.cut lo hi)⟩
  rw [r1.len] at w;have h:P .sh (.tuple (cutD _ lo hi)):=h;rw [BG w] at h;exact bY.sc q s h (.tup a1 r1)
 | _=>exact h.elim
def ya (bl bh:Bool):cY K (lT bl bh) (Ey bl bh K):=by
 intro H Hm vs ds P Q s r h q;unfold lT at h;split at h
 ·obtain ⟨x,rfl,h1⟩:=d7 r;exact uM q s h1 h
 ·obtain ⟨x,y,rfl,h1,h2⟩:=cW r;cases h2;exact ⟨_,rfl,uM q s h1 h⟩
 ·obtain ⟨x,y,rfl,h1,h2⟩:=cW r;cases h2;exact ⟨_,rfl,uM q s h1 h⟩
 ·obtain ⟨x,y,z,rfl,h1,h2,h3⟩:=Qx r;cases h2;cases h3;exact ⟨_,rfl,_,rfl,uM q s h1 h⟩
 ·exact h.elim
section
variable {X:Cx}{Ex:XK}{π:Uq}{a l u:Expr}{pos p2:Pos}{as:List Arg}
def D4 (S:aY X Ex π [a,l] as):SE X Ex π (.Subscript a (.Slice (some l) none none p2) pos) (ah (lT true false) as):=fZ (r:=Ey true false X.K) S (fun σ H Q h=>WE.of (yw GX bg (AR bg) Aw) h) (ya _ _)
def Eg (S:aY X Ex π [a,u] as):SE X Ex π (.Subscript a (.Slice none (some u) none p2) pos) (ah (lT false true) as):=fZ (r:=Ey false true X.K) S (fun σ H Q h=>WE.of (yw GX bg Aw (AR bg)) h) (ya _ _)
open PyProof.Rows in
def M4 (h:wz X [a,l,u] σ H fun vs H1=>Ey true true X.K vs H1 Q):WE X (.Subscript a (.Slice (some l) (some u) none p2) pos) σ H Q:=by
 intro pins s I;refine Subscript_ (aN (h pins s I) fun v s1 ⟨x,H1,I1,r1,q1⟩=>?_)
 refine wpAny_Slice ?_;rw [evalPart_some];refine aN (q1 pins s1 I1) fun vl s2 ⟨y,H2,I2,pl,q2⟩=>?_
 rw [evalPart_some];refine aN (q2 pins s2 I2) fun vu s3 ⟨z,H3,I3,pu,q3⟩=>?_
 obtain ⟨i,rfl,j,rfl,q3⟩:=q3;obtain ⟨t1,rfl⟩:=pl;obtain ⟨t2,rfl⟩:=pu;rw [evalPart_none];refine R9 ?_;have I4:Inv X pins σ H3 { s3 with heap:=s3.heap.push { cls:=.type "slice",data:=.fields #[.int i t1,.int j t2,.none] } }:=I3.kept (t':=s3.toks) fun b ob q=>RO _ q
 obtain ⟨T,id,hT,ht,hg⟩:=GX pins { s3 with heap:=s3.heap.push { cls:=.type "slice",data:=.fields #[.int i t1,.int j t2,.none] } } σ H3 x v (.int i t1) (.int j t2) (some i) (some j) s3.heap.objs.size Q I4 r1 (Heap.IsSliceOf.new ..) (.int i t1) (.int j t2) q3
 show wpAny (model X.prog X.w) X.A (subscriptTail a (.Slice (some l) (some u) none p2) v (.ref s3.heap.objs.size)) (EP X pins σ Q) X.xe { s3 with heap:=s3.heap.push { cls:=.type "slice",data:=.fields #[.int i t1,.int j t2,.none] } }
 exact tail_any (ops:=[.ref s3.heap.objs.size,v]) ht hT hg (by with_unfolding_all rfl)
def Lz (S:aY X Ex π [a,l,u] as):SE X Ex π (.Subscript a (.Slice (some l) (some u) none p2) pos) (ah (lT true true) as):=fZ (r:=Ey true true X.K) S (fun σ H Q h=>M4 h) (ya _ _)
end
end Dv
namespace L2
open PySem PySem.Spec PyProof.Rows
section
variable {X:Cx}
def Ac:cQ X (.type "range") (fun xs H Q=>∃ j:Int,xs=[.int j]/\∀ p,H p=none->Q (.ref p) (upd H p (.sj 0 j))):=by
 intro pins s σ H xs us Q I r h;obtain ⟨j,rfl,q⟩:=h;obtain ⟨u,rfl,ru⟩:=vals1 r;obtain ⟨t,rfl⟩:=ru;refine call_range_1 (?_:_)
 exact ⟨.ref s.heap.objs.size,_,I.laid (o:=.sj 0 j) (fun b o e=>RO _ e) (RE _) ⟨_,_,_,Rx _ rfl⟩,rfl,q _ (I.hok.fresh (RE _))⟩
def Cn (hc:X.calm=true):cQ X (.type "list") (fun xs H Q=>∃ (a:Addr) (j:Int),xs=[.ref a]/\H a=some (.sj 0 j)/\0<=j/\j<=1000/\∀ l,H l=none->Q (.ref l) (upd H l (.lst (((List.range j.toNat).map fun i:Nat=>(i:Int)).map V.int)))):=by
 intro pins s σ H xs us Q I r h;obtain ⟨a,j,rfl,ha,j0,j1,q⟩:=h;obtain ⟨u,rfl,ru⟩:=vals1 r;cases ru;obtain ⟨t,u,v,e⟩:=I.hok a _ ha;refine call_list_range (n:=j.toNat) (I.ok.hd hc) e (small_one (by decide) (by decide) (by omega) (by omega)) (by rw [rangeSize_one];split <;> omega) (by omega) fun h' tk acc c kp hS its=>?_
 obtain ⟨z1,z2⟩:=its;have rv:Vals (((List.range j.toNat).map fun i:Nat=>(i:Int)).map V.int) acc.toList:=by
  have go:∀ (l:Ug) (k:Nat),(∀ (i:Nat)(v:Value),l[i]?=some v->∃ t:Tok,v=Value.int ((k + i:Nat):Int) t)->Vals (((List.range' k l.length).map fun i:Nat=>(i:Int)).map V.int) l:=fun l=>by
   induction l with
   | nil=>exact fun k _=>.nil
   | cons x l ih =>
    intro k h;obtain ⟨t,e⟩:=h 0 x rfl;refine .cons ⟨t,by simpa using e⟩ (ih (k + 1) fun i v hv=>?_)
    obtain ⟨t,e⟩:=h (i + 1) v hv;exact ⟨t,by rw [e,Nat.add_assoc,Nat.add_comm 1 i]⟩
  have:=go acc.toList 0 fun i v hv=>by
   obtain ⟨t,e⟩:=z2 i v (by simpa using hv)
   exact ⟨t,by rw [e];simp⟩
  rw [List.range_eq_range']
  simpa [z1] using this
 exact ⟨.ref s.heap.objs.size,_,I.laid (t':=tk) kp (RE _) (o:=.lst _) ⟨by rw [RD,RD,Rm];exact Rz (show j.toNat<=1000 by omega) (by decide),acc.toList,c,rv,by simpa using hS⟩,rfl,q _ (I.hok.fresh (RE _))⟩
end
end L2
namespace L2
open PySem PySem.Spec PyProof.Rows PySem.W
def c6 {α:Type}(c:Uq)(x:α):List (List Nat×List α)->List (List Nat×List α)
 | []=>[(c,[x])]
 | (d,xs)::gs=>if d=c then (d,xs++[x])::gs else (d,xs)::c6 c x gs
def iG {α:Type}(l:List (List Nat×α)):List (List Nat×List α):=l.foldl (fun gs q=>c6 q.1 q.2 gs) []
def mS {α:Type}(l:List (List Nat×α))(q:List Nat×α):iG (l++[q])=c6 q.1 q.2 (iG l):=by
 unfold iG;rw [List.foldl_append];rfl
theorem yR {α:Type}(c:Uq)(x:α):∀ gs:List (List Nat×List α),(c6 c x gs).length<=gs.length + 1/\∀ n,(∀ g∈gs,g.2.length<=n)->∀ g∈c6 c x gs,g.2.length<=n + 1
 | []=>⟨RE _,fun n _ g hg=>by cases RH.mp hg;exact Nat.succ_le_succ (S8 _)⟩
 | (d,xs)::gs=>by
  obtain ⟨h1,h2⟩:=yR c x gs
  by_cases e:d=c
  ·have e2:c6 c x ((d,xs)::gs)=(d,xs++[x])::gs:=if_pos e;rw [e2];refine ⟨Nat.le_succ _,fun n hn g hg=>?_⟩
   rcases RJ.mp hg with rfl | hg
   ·have:=hn _ RA;rw [RW];exact Nat.succ_le_succ this
   ·exact Nat.le_succ_of_le (hn g (RG _ hg))
  ·have e2:c6 c x ((d,xs)::gs)=(d,xs)::c6 c x gs:=if_neg e;rw [e2];refine ⟨Nat.succ_le_succ h1,fun n hn g hg=>?_⟩
   rcases RJ.mp hg with rfl | hg
   ·exact Nat.le_succ_of_le (hn _ RA)
   ·exact h2 n (fun g hg=>hn g (RG _ hg)) g hg
theorem sR {α:Type}:∀ (n:Nat)(l:List (List Nat×α)),(iG (l.take n)).length<=n/\∀ g∈iG (l.take n),g.2.length<=n
 | 0,l=>by
  rw [List.take_zero];exact ⟨RE _,fun g hg=>(nomatch hg)⟩
 | n + 1,l=>by
  obtain ⟨h1,h2⟩:=sR n l;rw [List.take_succ];cases e:l[n]? with
  | none =>
   rw [Option.toList_none,SN];exact ⟨Nat.le_succ_of_le h1,fun g hg=>Nat.le_succ_of_le (h2 g hg)⟩
  | some q =>
   rw [Option.toList_some,mS];obtain ⟨h3,h4⟩:=yR q.1 q.2 (iG (l.take n));exact ⟨by omega,h4 n h2⟩
theorem wW {α:Type}(c:Uq)(x:α):∀ gs:List (List Nat×List α),(gs.map (·.1)).Nodup->((c6 c x gs).map (·.1)).Nodup/\∀ d,d∈(c6 c x gs).map (·.1)↔d∈gs.map (·.1)\/d=c
 | [],_=>⟨S7.mpr ⟨Rv,Sq⟩,fun d=>by simp [c6]⟩
 | (e,xs)::gs,h=>by
  obtain ⟨n1,n2⟩:=S7.mp h;obtain ⟨h1,h2⟩:=wW c x gs n2
  by_cases k:e=c
  ·have e2:c6 c x ((e,xs)::gs)=(e,xs++[x])::gs:=if_pos k;rw [e2];refine ⟨h,fun d=>?_⟩
   show d∈e::gs.map (·.1)↔d∈e::gs.map (·.1)\/d=c;constructor
   ·exact .inl
   ·rintro (z | rfl)
    ·exact z
    ·rw [k];exact RA
  ·have e2:c6 c x ((e,xs)::gs)=(e,xs)::c6 c x gs:=if_neg k;rw [e2];refine ⟨S7.mpr ⟨fun z=>?_,h1⟩,fun d=>?_⟩
   ·rcases (h2 e).mp z with z | z
    ·exact n1 z
    ·exact k z
   ·show d∈e::(c6 c x gs).map (·.1)↔d∈e::gs.map (·.1)\/d=c;rw [RJ,RJ,h2 d];constructor
    ·rintro (z | z | z)
     ·exact .inl (.inl z)
     ·exact .inl (.inr z)
     ·exact .inr z
    ·rintro ((z | z) | z)
     ·exact .inl z
     ·exact .inr (.inl z)
     ·exact .inr (.inr z)
section
variable {X:Cx}{a:Expr}{ta:TE}{pos:Pos}
def K0 (ha:PE X a ta):PE X (.UnaryOp .Not a pos) (fun σ H Q=>ta σ H fun x H1=>∃ k,sG X.K x H1 k/\Q (.bl (!k)) H1):=by
 intro pins s σ H Q I h;refine UnaryOp_ (aN (ha pins s σ H _ I h) fun v s1 ⟨x,H1,I1,r1,k,tk,q1⟩=>?_)
 refine not_of (aN (xP pins s1 σ H1 x v (fun b H2=>Q (.bl (!b)) H2) I1 r1 ⟨k,tk,q1⟩) fun b s2 ⟨H2,I2,q2⟩=>?_)
 exact ⟨.bl (!b),H2,I2,rfl,q2⟩
end
end L2
namespace Dv
open PySem L2 PySem.W
section
variable {X:Cx}{Ex:XK}{π:Uq}
def Cj (h:PE X e (tC u))(r:∀ Hm,Rp X.K Hm u v):SE X Ex π e (dC v):=fun g x E σ H Hm F P Q hx R p q=>WE.of h (q _ _ _ _ _ _ _ [] p R (aj.refl _) (Tm.sh (r Hm)))
def N6 {i j:Nat}(h:PE X e (jL j))(hj:π[j]?=some i):SE X Ex π e (aX i):=by
 intro g x E σ H Hm F P Q hx R p q
 replace p:EN E i P:=p
 unfold EN at p;split at p
 rotate_left
 ·exact p.elim
 rename_i k d e1;rw [<- bS,Ar] at p;obtain ⟨E',e2,p⟩:=p;obtain ⟨v,Hm',F',h1,s,R',r⟩:=R.dD e1 e2;exact WE.of h ⟨v,dm hj h1,q _ _ _ _ _ _ _ [] p R' s (Tm.sh r)⟩
def bE (X:Cx)(Ex:XK)(π:Uq)(e:Expr)(d:DE):Prop :=
 ∀ (g:Gh)(x:XC)(E:En)(σ:St)(H Hm:Hp)(F:Nat->Uh)(P:Ut)(Q:Bool->Hp->Prop),XL X Ex x g->Rl X.K g E σ H Hm F->d x E P ->
  (∀ E' k v H' Hm' F',P E' k v->Rl X.K g E' σ H' Hm' F'->aj Hm Hm'->∃ b,lX v=some b/\Q b H')->WT X e (sel π σ) H Q
def bE.st {e:Expr}{d:DE}(h:bE X Ex π e d):ST X Ex π e (bG d):=by
 rw [KA];exact fun g x E σ H Hm F P Q hx R p q=>h g x E σ H Hm F _ Q hx R p fun E' k v H' Hm' F' ⟨b,e1,p⟩ R' s=>⟨b,e1,q _ _ _ _ _ p R' s⟩
theorem Rp.lX {b:Bool}(r:Rp K H u v)(h:Dv.lX v=some b):sG K u H b:=by
 cases r with
 | bF=>cases h;rfl
 | bl c=>cases h;rfl
 | int i =>
  cases h;show (!decide (i=0))=(i != 0);rw [bne,Bool.beq_eq_decide_eq]
 | str _=>cases h
 | lst a r1 =>
  cases h;refine .inl ⟨_,a.sq,?_⟩;cases r1 <;> rfl
 | tup a r1 =>
  cases h;refine .inr (.inl ⟨_,cP.of a,?_⟩);cases r1 <;> rfl
 | dk _ _=>cases h
 | dt _ _=>cases h
theorem Own.lX {b:Bool}(o:Own K H Hm k u v fp)(s:aj Hm H)(h:Dv.lX v=some b):sG K u H b:=by
 by_cases hk:k.rd=true
 ·exact (o.rp (Hm':=H) hk s fun _ _=>rfl).lX h
 ·cases o <;> first | exact absurd rfl hk | cases h
def SE.pY (h:SE X Ex π e d)(he:∀ whole,isTrue e X.env whole=(do let v <- whole;standAt e.pos;holding [v] (truthy v))):bE X Ex π e d:=by
 intro g x E σ H Hm F P Q hx R p q;refine WT.of (zS bg he) (h g x E σ H Hm F P _ hx R p fun E' k v u H' Hm' F' fp p' R' s T=>?_)
 obtain ⟨b,e1,q'⟩:=q _ _ _ _ _ _ p' R' s;exact ⟨b,T.own.lX R'.sub e1,q'⟩
def K6 (ho:bX X (compareOp op) r)(hm:behindInMarks op b=false)(h:wz X [a,b] σ H fun vs H1=>r2 r vs H1 fun x H'=>∃ k,sG X.K x H' k/\Q k H'):WT X (.Compare a [op] [b] pos) σ H Q:=by
 intro pins s I;refine wpAny_isTrue_Compare1 (aN (h pins s I) fun v s1 ⟨x,H1,I1,r1,q1⟩=>aN (q1 pins s1 I1) fun u s2 ⟨y,H2,I2,r2,q2⟩=>aN (ho pins s2 σ H2 x y v u _ I2 r1 r2 q2) fun c s3 ⟨z,H3,I3,r3,q3⟩=>?_) hm
 exact xP pins s3 σ H3 z c Q I3 r3 q3
def L1 (S:aY X Ex π es as)(hr:∀ σ H (Q:Bool->Hp->Prop),wz X es σ H (fun vs H1=>r vs H1 fun x H'=>∃ k,sG X.K x H' k/\Q k H')->WT X e σ H Q)(D:cY X.K f r):bE X Ex π e (ah f as):=by
 intro g x E σ H Hm F P Q hx R h q;refine hr _ _ _ (oz hx S R h fun E1 os vs H1 Hm1 F1 p R1 s1 G=>?_)
 replace p:zc f as E1 os P:=p
 unfold zc at p;rw [<- bS,gn] at p;obtain ⟨ds,hf,hg⟩:=p;have off:∀ a∈(iQ as).flatMap F1,Hm1 a=none:=fun a ha=>by
  obtain ⟨i,_,h⟩:=S9.mp ha;exact R1.off i a h
 have up:=iP (Hm:=Hm1) (H:=H1) off;refine D H1 (lend Hm1 H1 ((iQ as).flatMap F1)) vs ds _ _ (iJ R1.sub) (nX R1 up G hf fun i hi a ha=>dh (S9.mpr ⟨i,hi,ha⟩)) hg fun k v u H' Hm2 fp p sH sM sS old o fr=>?_
 replace p:aO (sE as E1 k v) _:=p
 rw [<- bS,Bo] at p;obtain ⟨E2,ha,p⟩:=p;obtain ⟨Hm',F',R',s',T⟩:=zx R1 (is:=iQ as) (xX ha) sH sM sS old o fr;obtain ⟨b,e1,q'⟩:=q _ _ _ _ _ _ p R' (s1.trans s');exact ⟨b,o.lX sS e1,q'⟩
def gE (ho:bX X (compareOp op) r)(hm:behindInMarks op b=false)(D:cY X.K f (r2 r))(S:aY X Ex π [a,b] as):bE X Ex π (.Compare a [op] [b] pos) (ah f as):=L1 S (fun σ H Q h=>K6 ho hm h) D
theorem Own.bool {c:Bool}(o:Own K H Hm k u (.bool c) fp):u=.bl c:=by
 cases o with
 | sh r=>cases r;rfl
theorem Own.int {i:Int}(o:Own K H Hm k u (.int i) fp):u=.int i:=by
 cases o with
 | sh r=>cases r;rfl
def Di (h:SE X Ex π a d):SE X Ex π (.BoolOp op [a] pos) d:=fun g x E σ H Hm F P Q hx R p q=>WE.of (Lm bg) (h g x E σ H Hm F P Q hx R p q)
def Ll {a b:Expr}{rest:Ul}{pos:Pos}{d e:DE}(ha:SE X Ex π a d)(hb:SE X Ex π (.BoolOp .And (b::rest) pos) e):SE X Ex π (.BoolOp .And (a::b::rest) pos) (kE d e):=by
 rw [A9];intro g x E σ H Hm F P Q hx R p q;refine WE.of (L5 bg bg) (ha g x E σ H Hm F _ _ hx R p fun E1 k v u H1 Hm1 F1 fp p1 R1 s1 T=>?_)
 obtain ⟨c,rfl,p1⟩:=p1;refine ⟨c,T.own.bool,?_⟩;cases c with
 | true=>exact pI (hb g x E1 σ H1 Hm1 F1 P Q hx R1 p1 fun E' k v u H' Hm' F' fp p' R' s' T'=>q _ _ _ _ _ _ _ _ p' R' (s1.trans s') T')
 | false=>exact oO (q _ _ _ _ _ _ _ [] p1 R1 s1 (Tm.sh (.bl false)))
def OA {a b:Expr}{rest:Ul}{pos:Pos}{d e:DE}(ha:SE X Ex π a d)(hb:SE X Ex π (.BoolOp .Or (b::rest) pos) e):SE X Ex π (.BoolOp .Or (a::b::rest) pos) (p8 d e):=by
 rw [FH];intro g x E σ H Hm F P Q hx R p q;refine WE.of (OF bg bg) (ha g x E σ H Hm F _ _ hx R p fun E1 k v u H1 Hm1 F1 fp p1 R1 s1 T=>?_)
 obtain ⟨c,rfl,p1⟩:=p1;refine ⟨c,T.own.bool,?_⟩;cases c with
 | true=>exact pI (q _ _ _ _ _ _ _ [] p1 R1 s1 (Tm.sh (.bl true)))
 | false=>exact oO (hb g x E1 σ H1 Hm1 F1 P Q hx R1 p1 fun E' k v u H' Hm' F' fp p' R' s' T'=>q _ _ _ _ _ _ _ _ p' R' (s1.trans s') T')
def MG (ha:SE X Ex π a d):SE X Ex π (.UnaryOp .Not a pos) (pe d):=by
 rw [AW];intro g x E σ H Hm F P Q hx R p q;refine WE.of (K0 bg) (ha g x E σ H Hm F _ _ hx R p fun E1 k v u H1 Hm1 F1 fp p1 R1 s1 T=>?_)
 obtain ⟨c,hc,p1⟩:=p1;exact ⟨c,T.own.lX R1.sub hc,q _ _ _ _ _ _ _ [] p1 R1 s1 (Tm.sh (.bl _))⟩
def vA (ha:bE X Ex π a d):bE X Ex π (.UnaryOp .Not a pos) (pe d):=by
 rw [AW];intro g x E σ H Hm F P Q hx R p q;refine WT.of (F7 j5) (ha g x E σ H Hm F _ _ hx R p fun E1 k v H1 Hm1 F1 p1 R1 s1=>?_)
 obtain ⟨c,hc,p1⟩:=p1;obtain ⟨b,e1,q'⟩:=q _ _ _ _ _ _ p1 R1 s1;refine ⟨c,hc,?_⟩;cases e1;exact q'
def WW (X:Cx)(e:Expr):TT:=fun σ H Q=>∀ (whole:Sem Value)(pins:UG)(s:Shared),Inv X pins σ H s->wpAny (model X.prog X.w) X.A (isTrue e X.env whole) (TP X pins σ Q) X.xe s
def pw_ww:PW X e (WW X e):=fun wh pins s _ _ _ I h=>h wh pins s I
def WW.of (h:PW X e t)(q:t σ H Q):WW X e σ H Q:=fun wh pins s I=>h wh pins s σ H Q I q
def kj (X:Cx)(Ex:XK)(π:Uq)(e:Expr)(d:DE):Prop :=
 ∀ (g:Gh)(x:XC)(E:En)(σ:St)(H Hm:Hp)(F:Nat->Uh)(P:Ut)(Q:Bool->Hp->Prop),XL X Ex x g->Rl X.K g E σ H Hm F->d x E P ->
  (∀ E' k v H' Hm' F',P E' k v->Rl X.K g E' σ H' Hm' F'->aj Hm Hm'->∃ b,lX v=some b/\Q b H')->WW X e (sel π σ) H Q
def kj.pY (h:kj X Ex π e d):bE X Ex π e d:=fun g x E σ H Hm F P Q hx R p q=>WT.of (PW.pt pw_ww) (h g x E σ H Hm F P Q hx R p q)
def fU (h:bE X Ex π a d):kj X Ex π (.BoolOp op [a] pos) d:=fun g x E σ H Hm F P Q hx R p q=>by
 cases op with
 | And=>exact WW.of (pw_and1 j5) (h g x E σ H Hm F P Q hx R p q)
 | Or=>exact WW.of (pw_or1 j5) (h g x E σ H Hm F P Q hx R p q)
def k7 {a b:Expr}{rest:Ul}{pos:Pos}{d e:DE}(ha:bE X Ex π a d)(hb:kj X Ex π (.BoolOp .And (b::rest) pos) e):kj X Ex π (.BoolOp .And (a::b::rest) pos) (kE d e):=by
 rw [A9];intro g x E σ H Hm F P Q hx R p q;refine WW.of (pw_and j5 pw_ww) (ha g x E σ H Hm F _ _ hx R p fun E1 k v H1 Hm1 F1 p1 R1 s1=>?_)
 obtain ⟨c,rfl,p1⟩:=p1;refine ⟨c,rfl,?_⟩;cases c with
 | true=>exact pI (hb g x E1 σ H1 Hm1 F1 P Q hx R1 p1 fun E' k v H' Hm' F' p' R' s'=>q _ _ _ _ _ _ p' R' (s1.trans s'))
 | false =>
  obtain ⟨b,e1,q'⟩:=q _ _ _ _ _ _ p1 R1 s1;cases e1;exact oO q'
def nW {a b:Expr}{rest:Ul}{pos:Pos}{d e:DE}(ha:bE X Ex π a d)(hb:kj X Ex π (.BoolOp .Or (b::rest) pos) e):kj X Ex π (.BoolOp .Or (a::b::rest) pos) (p8 d e):=by
 rw [FH];intro g x E σ H Hm F P Q hx R p q;refine WW.of (pw_or j5 pw_ww) (ha g x E σ H Hm F _ _ hx R p fun E1 k v H1 Hm1 F1 p1 R1 s1=>?_)
 obtain ⟨c,rfl,p1⟩:=p1;refine ⟨c,rfl,?_⟩;cases c with
 | true =>
  obtain ⟨b,e1,q'⟩:=q _ _ _ _ _ _ p1 R1 s1;cases e1;exact pI q'
 | false=>exact oO (hb g x E1 σ H1 Hm1 F1 P Q hx R1 p1 fun E' k v H' Hm' F' p' R' s'=>q _ _ _ _ _ _ p' R' (s1.trans s'))
def HQ (ho:bX X (compareOp op) (mE fun i j=>.bl (f i j)))(ho':bX X (compareOp op') (mE fun i j=>.bl (f' i j)))(hm:lastMarks [op,op'] [b,c]=false)
  (ha:SE X Ex π a da)(hb:SE X Ex π b db)(hc:SE X Ex π c dc):SE X Ex π (.Compare a [op,op'] [b,c] pos) (kg f f' da db dc):=by
 rw [wI];intro g x E σ H Hm F P Q hx R p q;refine WE.of (Hj ho ho' bg bg bg hm) (ha g x E σ H Hm F _ _ hx R p fun E1 k1 v1 u1 H1 Hm1 F1 fp1 p1 R1 s1 T1=>?_)
 obtain ⟨i,rfl,p1⟩:=p1;cases T1.own.int;refine hb g x E1 σ H1 Hm1 F1 _ _ hx R1 p1 fun E2 k2 v2 u2 H2 Hm2 F2 fp2 p2 R2 s2 T2=>?_
 obtain ⟨j,rfl,p2⟩:=p2;cases T2.own.int;refine ⟨i,j,rfl,rfl,f i j,rfl,?_⟩
 by_cases z:f i j=true
 ·rw [if_pos z] at p2 ⊢;refine hc g x E2 σ H2 Hm2 F2 _ _ hx R2 p2 fun E3 k3 v3 u3 H3 Hm3 F3 fp3 p3 R3 s3 T3=>?_
  obtain ⟨k,rfl,p3⟩:=p3;cases T3.own.int;exact ⟨j,k,rfl,rfl,q _ _ _ _ _ _ _ [] p3 R3 (s1.trans (s2.trans s3)) (Tm.sh (.bl _))⟩
 ·rw [if_neg z] at p2 ⊢;exact q _ _ _ _ _ _ _ [] p2 R2 (s1.trans s2) (Tm.sh (.bl _))
def wc (ho:bX X (compareOp op) (mE fun i j=>.bl (f i j)))(ho':bX X (compareOp op') (mE fun i j=>.bl (f' i j)))(hm:lastMarks [op,op'] [b,c]=false)
  (ha:SE X Ex π a da)(hb:SE X Ex π b db)(hc:SE X Ex π c dc):bE X Ex π (.Compare a [op,op'] [b,c] pos) (kg f f' da db dc):=by
 rw [wI];intro g x E σ H Hm F P Q hx R p q;refine WT.of (G5 ho ho' bg bg bg hm) (ha g x E σ H Hm F _ _ hx R p fun E1 k1 v1 u1 H1 Hm1 F1 fp1 p1 R1 s1 T1=>?_)
 obtain ⟨i,rfl,p1⟩:=p1;cases T1.own.int;refine hb g x E1 σ H1 Hm1 F1 _ _ hx R1 p1 fun E2 k2 v2 u2 H2 Hm2 F2 fp2 p2 R2 s2 T2=>?_
 obtain ⟨j,rfl,p2⟩:=p2;cases T2.own.int;refine ⟨i,j,rfl,rfl,f i j,rfl,?_⟩
 by_cases z:f i j=true
 ·rw [if_pos z] at p2 ⊢;refine hc g x E2 σ H2 Hm2 F2 _ _ hx R2 p2 fun E3 k3 v3 u3 H3 Hm3 F3 fp3 p3 R3 s3 T3=>?_
  obtain ⟨k,rfl,p3⟩:=p3;cases T3.own.int;obtain ⟨b',e1,q'⟩:=q _ _ _ _ _ _ p3 R3 (s1.trans (s2.trans s3));cases e1;exact ⟨j,k,rfl,rfl,_,rfl,q'⟩
 ·rw [if_neg z] at p2 ⊢;obtain ⟨b',e1,q'⟩:=q _ _ _ _ _ _ p2 R2 (s1.trans s2);cases e1;exact ⟨_,rfl,q'⟩
def Jm (hc:ST X Ex π c t)(ha:SE X Ex π a d)(hb:SE X Ex π b e):SE X Ex π (.IfExp c a b pos) (AI t d e):=by
 rw [Mk];intro g x E σ H Hm F P Q hx R p q;refine WE.of (G6 j5 bg bg) (hc g x E σ H Hm F _ _ hx R p fun E1 b H1 Hm1 F1 p1 R1 s1=>?_)
 cases b with
 | true=>exact pI (ha g x E1 σ H1 Hm1 F1 P Q hx R1 (by simpa using p1) fun E' k v u H' Hm' F' fp p' R' s' T'=>q _ _ _ _ _ _ _ _ p' R' (s1.trans s') T')
 | false=>exact oO (hb g x E1 σ H1 Hm1 F1 P Q hx R1 (by simpa using p1) fun E' k v u H' Hm' F' fp p' R' s' T'=>q _ _ _ _ _ _ _ _ p' R' (s1.trans s') T')
def PV {i j:Nat}(h:PE X e (jL j))(hj:π[j]?=some i)(he:∀ whole,isTrue e X.env whole=(do let v <- whole;standAt e.pos;holding [v] (truthy v))):ST X Ex π e (Gf i):=by
 intro g x E σ H Hm F P Q hx R p q
 replace p:EE E i P:=p
 unfold EE at p;split at p
 rotate_left
 ·exact p.elim
 rename_i k d e1;rw [eE,<- CM] at p;obtain ⟨hk,b,ht,p⟩:=p;obtain ⟨v,h1,h2⟩:=R.slot i k d e1;exact WT.of (zS h he) ⟨v,dm hj h1,b,h2.lX R.sub ht,q _ _ _ _ _ p R (aj.refl _)⟩
def zO (ha:ST X Ex π a t):ST X Ex π (.UnaryOp .Not a pos) (yu t):=by
 intro g x E σ H Hm F P Q hx R p q;exact WT.of (F7 j5) (ha g x E σ H Hm F _ _ hx R p fun E1 b H1 Hm1 F1 p1 R1 s1=>q _ _ _ _ _ p1 R1 s1)
end
def noStar:Expr->Bool
 | .Starred ..=>false
 | _=>true
def bR (h:noStar e=true):starEach (e::es) env=(false,eval e env)::starEach es env:=by
 cases e <;> first | rfl | cases h
theorem jM:∀ {es:Ul},es.all noStar=true->(backTo pos (starEach es env)).any (·.1)=false
 | [],_=>rfl
 | e::es,h=>by
  rw [RU,RK] at h;rw [bR h.1];show (false || (backTo pos (starEach es env)).any (·.1))=false;rw [jM h.2];rfl
section
variable {X:Cx}{Ex:XK}{π:Uq}
theorem ff:∀ {es:Ul},es.all noStar=true->PA X es (wz X es)
 | [],_=>iZ
 | e::es,h=>by
  rw [RU,RK] at h;exact fS bg (ff h.2) (bR h.1)
def gp {x:Str}{id:String}{p pos:Pos}{e:Expr}{es:Ul}{as:List Arg}{f:DR}{r:List V->Hp->VK->Prop}(hc:cQ X (.builtin id) r)(D:cY X.K f r)(hg:Gl X x)(hm:X.mg x=none)(hv:bootBuiltins x=some (.builtin id))(hn:x≠"__name__")(hd:(x == ("__debug__":Str))=false)
  (ns:(e::es).all noStar=true)(S:aY X Ex π (e::es) as):SE X Ex π (.Call (.Name x p) (e::es) [] pos) (ah f as) :=
 fZ S (fun σ H Q h=>WE.of (yg hc hg hm hv (ff ns) hn hd (bR (by rw [RU,RK] at ns;exact ns.1)) (jM (by rw [RU,RK] at ns;exact ns.2))) h) D
def mT (hc:cQ X (.type T) r)(D:cY X.K f r)(hg:Gl X x)(hm:X.mg x=none)(hv:bootBuiltins x=some (.type T))(hn:x≠"__name__")(hd:(x == ("__debug__":Str))=false)
  (ns:(e::es).all noStar=true)(S:aY X Ex π (e::es) as):SE X Ex π (.Call (.Name x p) (e::es) [] pos) (ah f as) :=
 fZ S (fun σ H Q h=>WE.of (mP hc hg hm hv (ff ns) hn hd (bR (by rw [RU,RK] at ns;exact ns.1)) (jM (by rw [RU,RK] at ns;exact ns.2))) h) D
def f6:DR:=fun ds P=>ds.length<=sizeLine/\P (.ow false) (.list ds)
def gz:DR:=fun ds P=>ds.length<=sizeLine/\P .sh (.tuple ds)
def JR:cY K f6 fun xs H Q=>xs.length<=sizeLine/\∀ p,H p=none->Q (.ref p) (upd H p (.lst xs)):=fun H Hm vs ds P Q s r h q=>⟨by rw [r.len];exact h.1,fun p hp=>bY.nl q s h.2 hp r⟩
def J4:cY K gz fun xs H Q=>xs.length<=sizeLine/\∀ p,H p=none->Q (.ref p) (upd H p (.tup xs)):=fun H Hm vs ds P Q s r h q=>⟨by rw [r.len];exact h.1,fun p hp=>bY.nt q s h.2 hp r⟩
def Lk (ns:es.all noStar=true)(S:aY X Ex π es as):SE X Ex π (.List es pos) (ah f6 as):=fZ S (fun σ H Q h=>WE.of (FU (ff ns)) h) JR
def N4 {k:Nat}(ns:es.all noStar=true)(S:aY X Ex π es as):SE X Ex π (.Tuple es k pos) (ah gz as):=fZ S (fun σ H Q h=>WE.of (Nl (ff ns)) h) J4
def GG:DR:=fun ds P=>match ds with
 | [.list xs]=>P .sh (.int xs.length)
 | [.tuple xs]=>P .sh (.int xs.length)
 | _=>False
def J9:cY K GG fun xs H Q=>∃ p ys,xs=[.ref p]/\(bT K H p ys\/cP K H p ys)/\Q (.int ys.length) H:=by
 intro H Hm vs ds P Q s r h q;unfold GG at h;split at h
 ·obtain ⟨x,rfl,h1⟩:=d7 r;cases h1 with
  | lst a r1=>exact ⟨_,_,rfl,.inl (cG.mono s a).sq,by rw [r1.len];exact bY.sc q s h (.int _)⟩
 ·obtain ⟨x,rfl,h1⟩:=d7 r;cases h1 with
  | tup a r1=>exact ⟨_,_,rfl,.inr (cP.of (s _ _ a)),by rw [r1.len];exact bY.sc q s h (.int _)⟩
 ·exact h.elim
def eX:DR:=fun ds P=>match ds with
 | [.list xs]=>P (.ow false) (.list xs)
 | [.tuple xs]=>P (.ow false) (.list xs)
 | _=>False
def Hs:cY K eX fun xs H Q=>∃ p ys,xs=[.ref p]/\(bT K H p ys\/cP K H p ys)/\∀ l,H l=none->Q (.ref l) (upd H l (.lst ys)):=by
 intro H Hm vs ds P Q s r h q;unfold eX at h;split at h
 ·obtain ⟨x,rfl,h1⟩:=d7 r;cases h1 with
  | lst a r1=>exact ⟨_,_,rfl,.inl (cG.mono s a).sq,fun p hp=>bY.nl q s h hp r1⟩
 ·obtain ⟨x,rfl,h1⟩:=d7 r;cases h1 with
  | tup a r1=>exact ⟨_,_,rfl,.inr (cP.of (s _ _ a)),fun p hp=>bY.nl q s h hp r1⟩
 ·exact h.elim
def nP:DR:=fun ds P=>match ds with
 | [.list xs]=>P .sh (.tuple xs)
 | [.tuple xs]=>P .sh (.tuple xs)
 | _=>False
def Eo:cY K nP fun xs H Q=>∃ p ys,xs=[.ref p]/\((bT K H p ys/\∀ l,H l=none->Q (.ref l) (upd H l (.tup ys)))\/(cP K H p ys/\Q (.ref p) H)):=by
 intro H Hm vs ds P Q s r h q;unfold nP at h;split at h
 ·obtain ⟨x,rfl,h1⟩:=d7 r;cases h1 with
  | lst a r1=>exact ⟨_,_,rfl,.inl ⟨(cG.mono s a).sq,fun p hp=>bY.nt q s h hp r1⟩⟩
 ·obtain ⟨x,rfl,h1⟩:=d7 r;cases h1 with
  | tup a r1=>exact ⟨_,_,rfl,.inr ⟨cP.of (s _ _ a),bY.sc q s h (.tup a r1)⟩⟩
 ·exact h.elim
def mH:DR:=oM fun i j=>.int (if j < i then j else i)
def oY:DR:=oM fun i j=>.int (if j > i then j else i)
def Ii {f:Int->Int->Int}:cY K (oM fun i j=>.int (f i j)) fun xs H Q=>∃ i j,xs=[.int i,.int j]/\Q (.int (f i j)) H:=by
 intro H Hm vs ds P Q s r h q;refine ve h fun a b e p=>?_
 subst e;obtain ⟨x,y,rfl,h1,h2⟩:=cW r;cases h1;cases h2;exact ⟨a,b,rfl,bY.sc q s p (.int _)⟩
def yC:DR:=fun ds P=>match ds with
 | [.int i]=>P .sh (.int (if i < 0 then -i else i))
 | _=>False
def J5:cY K yC fun xs H Q=>∃ i,xs=[.int i]/\Q (.int (if i < 0 then -i else i)) H:=by
 intro H Hm vs ds P Q s r h q;unfold yC at h;split at h
 ·obtain ⟨x,rfl,h1⟩:=d7 r;cases h1;exact ⟨_,rfl,bY.sc q s h (.int _)⟩
 ·exact h.elim
def oG:DR:=fun ds P=>match ds with
 | [.int i]=>P .sh (.int i)
 | [.bool k]=>P .sh (.int (if k then 1 else 0))
 | _=>False
def DN:cY K oG fun xs H Q=>(∃ i,xs=[.int i]/\Q (.int i) H)\/∃ k,xs=[.bl k]/\Q (.int (if k then 1 else 0)) H:=by
 intro H Hm vs ds P Q s r h q;unfold oG at h;split at h
 ·obtain ⟨x,rfl,h1⟩:=d7 r;cases h1;exact .inl ⟨_,rfl,bY.sc q s h (.int _)⟩
 ·obtain ⟨x,rfl,h1⟩:=d7 r;cases h1;exact .inr ⟨_,rfl,bY.sc q s h (.int _)⟩
 ·exact h.elim
theorem pP:∀ {vs:List V}{ns:Ur},aG K H vs (ns.map PyData.int)->vs=ns.map V.int
 | _,[],h=>by cases h;rfl
 | _,n::ns,h=>by
  cases h with
  | cons h t=>cases h;rw [pP t];rfl
theorem oZ:∀ (ns:Ur),aG K H (ns.map V.int) (ns.map PyData.int)
 | []=>.nil
 | n::ns=>.cons (.int n) (oZ ns)
theorem wQ:∀ {vs:List V}{ns:Uk},aG K H vs (ns.map PyData.bool)->vs=ns.map V.bl
 | _,[],h=>by cases h;rfl
 | _,n::ns,h=>by
  cases h with
  | cons h t=>cases h;rw [wQ t];rfl
def gH (h:Rp K H x (.list ds)):∃ a xs,x=.ref a/\cG K H a xs/\aG K H xs ds:=by
 cases h with
 | lst a r=>exact ⟨_,_,rfl,a,r⟩
def ug:DR:=fun ds P=>∃ ns:Ur,ds=[.list (ns.map .int)]/\ns≠[]/\∀ M,M∈ns->(∀ n∈ns,M<=n)->P .sh (.int M)
def HL:cY K ug fun xs H Q=>∃ (a:Addr)(ns:Ur),xs=[.ref a]/\bT K H a (ns.map V.int)/\ns≠[]/\∀ M,M∈ns->(∀ n∈ns,M<=n)->Q (.int M) H:=by
 rintro H Hm vs ds P Q s r ⟨ns,rfl,hn,h⟩ q;obtain ⟨x,rfl,h1⟩:=d7 r;obtain ⟨a,xs,rfl,ha,r1⟩:=gH h1;cases pP r1;exact ⟨a,ns,rfl,(cG.mono s ha).sq,hn,fun M m1 m2=>bY.sc q s (h M m1 m2) (.int _)⟩
def vh:DR:=fun ds P=>∃ bs:Uk,ds=[.list (bs.map .bool)]/\P .sh (.bool (bs.all id))
def JO:cY K vh fun xs H Q=>∃ (a:Addr)(bs:Uk),xs=[.ref a]/\bT K H a (bs.map V.bl)/\Q (.bl (bs.all id)) H:=by
 rintro H Hm vs ds P Q s r ⟨ns,rfl,h⟩ q;obtain ⟨x,rfl,h1⟩:=d7 r;obtain ⟨a,xs,rfl,ha,r1⟩:=gH h1;cases wQ r1;exact ⟨a,ns,rfl,(cG.mono s ha).sq,bY.sc q s h (.bl _)⟩
def qu:DR:=fun ds P=>∃ ns:Ur,ds=[.list (ns.map .int)]/\ns.length < 64/\∀ ms:Ur,ms.Perm ns->ms.Pairwise (·<=·)->P (.ow false) (.list (ms.map .int))
def DB:cY K qu fun xs H Q=>∃ (a:Addr)(ns:Ur),xs=[.ref a]/\bT K H a (ns.map V.int)/\ns.length < 64/\∀ (ms:Ur)(p:Addr),ms.Perm ns->ms.Pairwise (·<=·)->H p=none->Q (.ref p) (upd H p (.lst (ms.map V.int))):=by
 rintro H Hm vs ds P Q s r ⟨ns,rfl,hn,h⟩ q;obtain ⟨x,rfl,h1⟩:=d7 r;obtain ⟨a,xs,rfl,ha,r1⟩:=gH h1;cases pP r1;exact ⟨a,ns,rfl,(cG.mono s ha).sq,hn,fun ms p m1 m2 hp=>bY.nl q s (h ms m1 m2) hp (oZ ms)⟩
def pD (p:Int×Int):PyData:=.tuple [.int p.1,.int p.2]
inductive Aq (vs:List V)(H:Hp)(Q:VK):Prop
 | mk:∀ j:Int,(vs=[.int j])->(∀ p,H p=none->0<=j/\j<=1000/\∀ l,upd H p (.sj 0 j) l=none->Q (.ref l) (upd (upd H p (.sj 0 j)) l (.lst (((List.range j.toNat).map fun i:Nat=>(i:Int)).map V.int))))->Aq vs H Q
def E9:List V->Hp->VK->Prop:=fun vs H Q=>Aq vs H Q
def lA:DR:=fun ds P=>match ds with
 | [.int j]=>(0<=j/\j<=1000)/\P (.ow false) (.list (kR 0 j.toNat))
 | _=>False
def Jr (n:Nat):aG K H (((List.range n).map fun i:Nat=>(i:Int)).map V.int) (kR 0 n):=by
 have:=oZ (K:=K) (H:=H) ((List.range n).map fun i:Nat=>(i:Int))
 rw [RT (l:=List.range n) (g:=PyData.int)] at this;unfold kR;rw [show (fun i:Nat=>PyData.int (0 + i))=PyData.int ∘ fun i:Nat=>(i:Int) from funext fun i=>by simp]
 exact this
def EH:cY K lA E9:=by
 intro H Hm vs ds P Q s r h q;unfold lA at h;split at h
 ·obtain ⟨x,rfl,h1⟩:=d7 r;cases h1;rename_i j;refine ⟨j,rfl,fun p hp=>⟨h.1.1,h.1.2,fun l hl=>?_⟩⟩
  have s1:=bZ (o:=.sj 0 j) hp;have s2:=bZ (o:=.lst (((List.range j.toNat).map fun i:Nat=>(i:Int)).map V.int)) hl
  refine q _ _ _ _ Hm [l] h.2 (s1.trans s2) (aj.refl _) (s.trans (s1.trans s2)) (fun _ _=>.inl rfl) (.ow aL (Jr _)) fun a ha=>?_
  rw [RH.mp ha];have:H l=none:=s1.free hl;exact ⟨this,ic s this⟩
 ·exact h.elim
def Gv (hc:X.calm=true)(g1:Gl X "list")(m1:X.mg "list"=none)(g2:Gl X "range")(m2:X.mg "range"=none)(ns:noStar a=true)(S:aY X Ex π [a] as) :
  SE X Ex π (.Call (.Name "list" p1) [.Call (.Name "range" p2) [a] [] pos2] [] pos) (ah lA as) :=
 fZ (r:=E9) S (fun σ H Q h=>WE.of (mP (Cn hc) g1 m1 PyProof.Rows.boot_list (fS (mP Ac g2 m2 PyProof.Rows.boot_range (ff (es:=[a]) (by rw [RU,ns];rfl)) (by decide) (by decide) (bR ns) (by rfl)) iZ)) (by
  refine fun pins s I=>aN (h pins s I) fun v s1 ⟨x,H1,I1,r1,j,e,q⟩=>⟨x,H1,I1,r1,?_⟩
  cases e;refine ⟨j,rfl,fun p hp=>?_⟩
  obtain ⟨q1,q2,q3⟩:=q p hp;exact ⟨p,j,rfl,aL,q1,q2,q3⟩)) EH
end
inductive Ag (K:Frag)(H Hm:Hp):Uk->List V->Ub->Uh->Prop
 | nil:Ag K H Hm [] [] [] []
 | sh {ms:Uk}{vs:List V}{ds:Ub}{as:Uh}{v:V}{d:PyData}:Rp K Hm v d->Ag K H Hm ms vs ds as->Ag K H Hm (false::ms) (v::vs) (d::ds) as
 | mu {ms:Uk}{vs:List V}{ds:Ub}{as:Uh}{a:Addr}{xs:List V}{es:Ub}:H a=some (.lst xs)->aG K Hm xs es->Hm a=none->a∉as->Ag K H Hm ms vs ds as->Ag K H Hm (true::ms) (.ref a::vs) (.list es::ds) (a::as)
inductive Bk (K:Frag)(H Hm:Hp):Uh->Ub->Prop
 | nil:Bk K H Hm [] []
 | cons {a:Addr}{xs:List V}{es:Ub}{as:Uh}{us:Ub}:H a=some (.lst xs)->aG K Hm xs es->Hm a=none->Bk K H Hm as us->Bk K H Hm (a::as) (.list es::us)
def cy (mg:UE)(K:Frag)(ms:Uk)(sp:aZ):Sp:=fun vs H Q Ex=>∃ (ds:Ub)(as:Uh)(Hm:Hp)(P:Ub->Kd->PyData->Prop)(x:XC),aj Hm H/\Ag K H Hm ms vs ds as/\sp ds P x /\
 (∀ us k r u H' Hm' fp,P us k r->aj Hm Hm'->aj Hm' H'->(∀ p o,p∉as->H p=some o->H' p=some o)->(∀ a,a∉as->H a≠none->OE (Hm' a) (Hm a))->Bk K H' Hm' as us->Own K H' Hm' k u r fp->(∀ a∈fp,H a=none/\Hm' a=none)->Q u H') /\
 (∀ c d C a H',mg c=some (.ref C)->x c d->(∀ p o,p∉as->H p=some o->H' p=some o)->H' a=some (.ext (pZ a C none))->H a=none->Ex (.ref C) (some a) H')
section
variable {K:Frag}{g:Gh}{σ:St}
theorem xG {F:Nat->Uh}(R:Rl K g E σ H Hm F)(s:aj Hm Hm1):∀ {ms:Uk}{as:List Arg}{os:Uu}{vs:List V}{ds:Ub},Got K σ Hm as os vs->fill as E os=some ds->shape ms as=true->(lent ms as).Nodup ->
  (∀ i∈lent ms as,∃ p es,E[i]?=some (some (.ow p,.list es)))->(∀ i∈kept ms as,∀ a∈F i,Hm1 a=H a)->(∀ i∈lent ms as,∀ a∈F i,Hm1 a=none) ->
  ∃ ix:List (Nat×Addr),ix.map (·.1)=lent ms as/\Ag K H Hm1 ms vs ds (ix.map (·.2))/\∀ q∈ix,σ[q.1]?=some (some (.ref q.2))/\F q.1=[q.2]
 | [],_,_,_,_,.nil,h,_,_,_,_,_=>by cases h;exact ⟨[],rfl,.nil,fun _ z=>by cases z⟩
 | false::ms,_,_,_,_,.pk (i:=i) (as:=as) (os:=os) hv G,h,sh,nd,hl,hk,hn=>by
  rw [fill] at h;split at h
  ·rename_i k d e
   by_cases hr:k.rd=true
   ·rw [if_pos hr] at h;cases hf:fill as E os with
    | none=>rw [hf] at h;cases h
    | some es =>
     rw [hf] at h;cases h;obtain ⟨v',h1,h2⟩:=R.slot i k d e;rw [hv] at h1;cases h1;obtain ⟨ix,e1,e2,e3⟩:=xG R s (ms:=ms) G hf sh nd hl (fun j hj=>hk j (RG _ hj)) hn
     exact ⟨ix,e1,.sh (h2.rp hr s (hk i RA)) e2,e3⟩
   ·rw [if_neg hr] at h;cases h
  ·cases h
 | true::ms,_,_,_,_,.pk (i:=i) (as:=as) (os:=os) hv G,h,sh,nd,hl,hk,hn=>by
  rw [fill] at h;obtain ⟨p,es0,e0⟩:=hl i RA;rw [e0] at h;have h:(if (Kd.ow p).rd=true then (fill as E os).map (PyData.list es0::·) else none)=some _:=h
  rw [if_pos (show (Kd.ow p).rd=true from rfl)] at h
  cases hf:fill as E os with
  | none=>rw [hf] at h;cases h
  | some es =>
   rw [hf] at h;cases h;obtain ⟨v',h1,h2⟩:=R.slot i _ _ e0;rw [hv] at h1;cases h1;have nd':=S7.mp (show (i::lent ms as).Nodup from nd)
   obtain ⟨ix,e1,e2,e3⟩:=xG R s (ms:=ms) G hf sh nd'.2 (fun j hj=>hl j (RG _ hj)) hk (fun j hj=>hn j (RG _ hj))
   have hFi:=hn i RA;generalize hF:F i=fi at h2 hFi;cases h2 with
   | @ow _ a xs _ ha hr =>
    refine ⟨(i,a)::ix,?_,.mu ha (hr.mono s) (hFi a RA) ?_ e2,?_⟩
    ·show i::ix.map (·.1)=i::lent ms as;rw [e1]
    ·intro m;obtain ⟨q,hq,rfl⟩:=RI.mp m;have:=R.aV i q.1 q.2 (by rw [hF];exact RA) (by rw [(e3 q hq).2];exact RA)
     exact nd'.1 (e1 ▸ (this ▸ RI.mpr ⟨q,hq,rfl⟩))
    ·intro q hq;rcases RJ.mp hq with rfl | hq
     ·exact ⟨hv,hF⟩
     ·exact e3 q hq
 | false::ms,_,_,_,_,.ev (as:=as) (os:=os) r G,h,sh,nd,hl,hk,hn=>by
  rw [fill] at h;cases hf:fill as E os with
  | none=>rw [hf] at h;cases h
  | some es =>
   rw [hf] at h;cases h;obtain ⟨ix,e1,e2,e3⟩:=xG R s (ms:=ms) G hf sh nd hl hk hn;exact ⟨ix,e1,.sh (r.mono s) e2,e3⟩
 | true::ms,_,_,_,_,.ev _ _,_,sh,_,_,_,_=>by cases sh
 | true::_,[],[],[],_,.nil,_,sh,_,_,_,_=>by cases sh
 | false::_,[],[],[],_,.nil,_,sh,_,_,_,_=>by cases sh
 | [],_,_,_,_,.pk _ _,_,sh,_,_,_,_=>by cases sh
 | [],_,_,_,_,.ev _ _,_,sh,_,_,_,_=>by cases sh
theorem pN:∀ {ms:Uk}{as:List Arg}{us:Ub}{E E2:En},sN ms as us E=some E2->(lent ms as).Nodup->E2.length=E.length/\(∀ j,j∉lent ms as->E2[j]?=E[j]?)/\(lent ms as).length=us.length /\
  ∀ (n i:Nat)(u:PyData),(lent ms as)[n]?=some i->us[n]?=some u->∃ p es es',u=.list es'/\E[i]?=some (some (.ow p,.list es))/\E2[i]?=some (some (.ow p,.list es'))
 | [],[],[],E,E2,h,_=>by cases h;exact ⟨rfl,fun _ _=>rfl,rfl,fun _ _ _ z=>by cases z⟩
 | [],[],_::_,E,E2,h,_=>by cases h
 | [],_::_,_,E,E2,h,_=>by cases h
 | false::ms,.pk j::r,us,E,E2,h,nd=>pN (ms:=ms) (as:=r) (us:=us) h nd
 | false::ms,.ev _::r,us,E,E2,h,nd=>pN (ms:=ms) (as:=r) (us:=us) h nd
 | false::ms,[],us,E,E2,h,_=>by cases h
 | true::ms,[],us,E,E2,h,_=>by cases h
 | true::ms,.ev _::r,us,E,E2,h,_=>by cases h
 | true::ms,.pk i::r,[],E,E2,h,_=>by cases h
 | true::ms,.pk i::r,u::us,E,E2,h,nd=>by
  rw [sN] at h;obtain ⟨n1,n2⟩:=S7.mp (show (i::lent ms r).Nodup from nd)
  split at h
  ·rename_i p es e
   by_cases hu:Bt u=true
   ·rw [if_pos hu] at h;cases u with
    | list es' =>
     have li:i < E.length:=by
      rcases SG i E.length with h | h
      ·exact h
      ·rw [S4 h] at e;cases e
     obtain ⟨l1,g1,l2,g2⟩:=pN (ms:=ms) (as:=r) (us:=us) h n2;rw [SH] at l1;refine ⟨l1,fun j hj=>?_,congrArg (· + 1) l2,fun n j v h1 h2=>?_⟩
     ·have hj':j∉lent ms r:=fun z=>hj (RG _ z)
      have hne:i≠j:=fun z=>hj (z ▸ RA)
      rw [g1 j hj',au hne]
     ·cases n with
      | zero =>
       cases h1;cases h2;exact ⟨p,es,es',rfl,e,by rw [g1 i n1,aM li]⟩
      | succ n =>
       have h1:(lent ms r)[n]?=some j:=h1;have h2:us[n]?=some v:=h2;obtain ⟨p',fs,fs',e1,e2,e3⟩:=g2 n j v h1 h2;have hne:i≠j:=fun z=>n1 (z ▸ Rt h1)
       rw [au hne] at e2;exact ⟨p',fs,fs',e1,e2,e3⟩
    | _=>cases hu
   ·rw [if_neg hu] at h;cases h
  ·cases h
theorem Bk.get:∀ {as:Uh}{us:Ub}{n:Nat}{a:Addr},Bk K H Hm as us->as[n]?=some a->∃ xs es,us[n]?=some (.list es)/\H a=some (.lst xs)/\aG K Hm xs es/\Hm a=none
 | _,_,_,_,.nil,h=>by simp at h
 | _,_,0,_,.cons h1 h2 h3 _,h=>by simp at h;subst h;exact ⟨_,_,rfl,h1,h2,h3⟩
 | _,_,n + 1,_,.cons _ _ _ t,h=>t.get (n:=n) (by simpa using h)
def C7 {E E2 E3:En}{H H' Hm Hm2:Hp}{F:Nat->Uh}{is:Uq}{ix:List (Nat×Addr)}{us:Ub}{k:Kd}{u:V}{v:PyData}{fp:Uh}(R:Rl K g E σ H Hm F)
  (hix:∀ q∈ix,σ[q.1]?=some (some (.ref q.2))/\F q.1=[q.2])(hik:∀ q∈ix,q.1∉is)(l2:E2.length=E.length)(hs:∀ j,j∉ix.map (·.1)->E2[j]?=E[j]?)
  (hu:∀ q∈ix,∃ p es xs' es',PyData.list es'∈us/\E[q.1]?=some (some (.ow p,.list es))/\E2[q.1]?=some (some (.ow p,.list es'))/\H' q.2=some (.lst xs')/\aG K Hm2 xs' es'/\Hm2 q.2=none)
  (hE:(if (flat k v && us.all (flat (.ow false)))=true then some E2 else eu is E2)=some E3)(s1:aj (lend Hm H (is.flatMap F)) Hm2)(s2:aj Hm2 H')(sH:∀ p o,p∉ix.map (·.2)->H p=some o->H' p=some o)
  (old:∀ a,a∉ix.map (·.2)->H a≠none->OE (Hm2 a) (lend Hm H (is.flatMap F) a))(o:Own K H' Hm2 k u v fp)(fr:∀ a∈fp,H a=none/\Hm2 a=none) :
  ∃ Hm' F',Rl K g E3 σ H' Hm' F'/\aj Hm Hm'/\Tm K g F' H' Hm' k u v fp:=by
 have mem:∀ {a i},a∈F i->i∈is->a∈is.flatMap F:=fun ha hi=>S9.mpr ⟨_,hi,ha⟩
 have off:∀ a∈is.flatMap F,Hm a=none:=fun a ha=>by
  obtain ⟨i,_,h⟩:=S9.mp ha;exact R.off i a h
 have up:aj Hm (lend Hm H (is.flatMap F)):=iP off;have bW:∀ {i a},a∈F i->H a≠none:=fun ha z=>by
  obtain ⟨u,hu,_⟩:=R.bW _ _ ha;rw [z] at hu;cases hu
 have own:∀ q∈ix,q.2∈F q.1:=fun q hq=>by rw [(hix q hq).2];exact RA
 have lentF:∀ {i a},a∈F i->a∈ix.map (·.2)->i∈ix.map (·.1):=fun {i a} ha m=>by
  obtain ⟨q,hq,rfl⟩:=RI.mp m;exact RI.mpr ⟨q,hq,(R.aV i q.1 q.2 ha (own q hq)).symm⟩
 have lis:∀ a,a∈ix.map (·.2)->a∉is.flatMap F:=fun a m z=>by
  obtain ⟨q,hq,rfl⟩:=RI.mp m;obtain ⟨i,hi,h⟩:=S9.mp z;exact hik q hq (R.aV i q.1 q.2 h (own q hq) ▸ hi)
 have nfp:∀ a∈fp,∀ i,a∉F i:=fun a ha i=>R.fresh (fr a ha).1
 have m2:∀ {a},H a≠none->a∉is.flatMap F->(a∉ix.map (·.2)/\OE (Hm2 a) (Hm a))\/(a∈ix.map (·.2)/\Hm2 a=none):=fun {a} h c=>by
  by_cases z:a∈ix.map (·.2)
  ·obtain ⟨q,hq,rfl⟩:=RI.mp z;obtain ⟨_,_,_,_,_,_,_,_,_,e⟩:=hu q hq;exact .inr ⟨z,e⟩
  ·refine .inl ⟨z,?_⟩;have h':=old a z h;rw [cj c] at h';exact h'
 have offI:∀ {i a},a∈F i->a∉is.flatMap F->Hm2 a=none:=fun {i a} ha c=>by
  rcases m2 (bW ha) c with ⟨z,e⟩ | ⟨_,e⟩
  ·obtain ⟨w,hw,nt⟩:=R.bW i a ha;exact e.off (R.off i a ha) s2 (sH a w z hw) nt
  ·exact e
 have od:∀ {a},g.H0 a≠none->a∉is.flatMap F->OE (Hm2 a) (g.fF a):=fun {a} h c=>by
  rcases m2 (R.uH h) c with ⟨_,e⟩ | ⟨z,e⟩
  ·exact e.trans (R.old a h)
  ·obtain ⟨q,hq,rfl⟩:=RI.mp z;have h':=R.old _ h;rw [R.off q.1 q.2 (own q hq)] at h';rw [e];exact h'
 have hliv:∀ {i a},a∈F i->∃ w,H' a=some w/\rK w:=fun {i a} ha=>by
  by_cases z:a∈ix.map (·.2)
  ·obtain ⟨q,hq,rfl⟩:=RI.mp z;obtain ⟨_,_,_,_,_,_,_,e,_,_⟩:=hu q hq;exact ⟨_,e,lB⟩
  ·obtain ⟨w,hw,nt⟩:=R.bW i a ha;exact ⟨w,sH a w z hw,nt⟩
 have keepH:∀ {j a},j∉ix.map (·.1)->a∈F j->H' a=H a:=fun {j a} hj ha=>by
  obtain ⟨w,hw,_⟩:=R.bW j a ha;rw [hw];exact sH a w (fun z=>hj (lentF ha z)) hw
 have frm:∀ p o,p∉g.M->g.H0 p=some o->H' p=some o:=fun p o hp ho=>by
  refine sH p o (fun z=>?_) (R.fr p o hp ho)
  obtain ⟨q,hq,rfl⟩:=RI.mp z;rcases R.new q.1 q.2 (own q hq) with y | y
  ·exact hp y
  ·rw [y] at ho;cases ho
 have pinn:∀ {E4:En},(∀ j,j∉is->E4[j]?=E2[j]?)->(∀ j∈is,E4[j]?=E2[j]?\/∃ k d,E2[j]?=some (some (k,d))/\k.fz=true)->∀ q∈g.pins,σ[q.1]?=some (some (.ref q.2))/\∃ ds,E4[q.1]?=some (some (.ow true,.list ds)):=fun {E4} h4 h5 q hq=>by
  obtain ⟨h1,ds',h2⟩:=R.pin q hq;refine ⟨h1,?_⟩;have e2:∃ ds,E2[q.1]?=some (some (.ow true,.list ds)):=by
   by_cases z:q.1∈ix.map (·.1)
   ·obtain ⟨q',hq',e⟩:=RI.mp z;obtain ⟨p,es,xs',es',_,g1,g2,_⟩:=hu q' hq';rw [e,h2] at g1;cases g1;exact ⟨es',e ▸ g2⟩
   ·exact ⟨ds',by rw [hs _ z];exact h2⟩
  obtain ⟨ds,e2⟩:=e2
  by_cases z:q.1∈is
  ·rcases h5 _ z with y | ⟨k0,d0,y,yk⟩
   ·exact ⟨ds,y.trans e2⟩
   ·rw [e2] at y;cases y;cases yk
  ·exact ⟨ds,(h4 _ z).trans e2⟩
 by_cases hf:(flat k v && us.all (flat (.ow false)))=true
 ·rw [if_pos hf] at hE;cases hE;rw [RK,RP] at hf;have st:mZ Hm2 (back Hm2 (is.flatMap F)):=fun a xs h=>by
   have c:a∉is.flatMap F:=fun z=>by
    obtain ⟨i,_,hi⟩:=S9.mp z;obtain ⟨w,hw,nt⟩:=R.bW i a hi;have e2:Hm2 a=some w:=s1 _ _ (by rw [dh z];exact hw)
    rw [e2] at h;cases h;exact nt xs rfl
   rw [dP c];exact h
  have upB:aj Hm (back Hm2 (is.flatMap F)):=fun b o e=>by
   rw [dP fun z=>by rw [off b z] at e;cases e]
   exact s1 _ _ (up _ _ e)
  have R':Rl K g E2 σ H' (back Hm2 (is.flatMap F)) F:={
   len:=l2.trans R.len
   sub:=zm s2
   slot:=fun j k' d' e'=>by
    by_cases z:j∈ix.map (·.1)
    ·obtain ⟨q,hq,rfl⟩:=RI.mp z;obtain ⟨p,es,xs',es',mu,g1,g2,g3,g4,_⟩:=hu q hq;rw [g2] at e';cases e';obtain ⟨h1,h2⟩:=hix q hq;exact ⟨_,h1,by rw [h2];exact .ow g3 (g4.yL st (hf.2 _ mu))⟩
    ·rw [hs j z] at e';obtain ⟨v',h1,h2⟩:=R.slot j k' d' e';exact ⟨v',h1,h2.step upB fun a ha=>keepH z ha⟩
   off:=fun i a ha=>by
    by_cases c:a∈is.flatMap F
    ·exact jH c
    ·rw [dP c];exact offI ha c
   bW:=fun i a ha=>hliv ha
   aV:=R.aV
   fr:=frm
   new:=R.new
   pin:=pinn (fun j _=>rfl) fun j _=>.inl rfl
   old:=fun a ha=>by
    by_cases c:a∈is.flatMap F
    ·have h':=R.old a ha;rw [off a c] at h';rw [jH c];exact h'
    ·rw [dP c];exact od ha c }
  refine ⟨_,F,R',upB,⟨o.flat st hf.1,fun a ha=>?_,nfp,fun a ha=>R.fj (fr a ha).1⟩⟩
  by_cases c:a∈is.flatMap F
  ·exact jH c
  ·rw [dP c];exact (fr a ha).2
 ·rw [if_neg hf] at hE;obtain ⟨l3,g3⟩:=oJ hE;have R':Rl K g E3 σ H' Hm2 (fun j=>if j∈is then [] else F j):={
   len:=l3.trans (l2.trans R.len)
   sub:=s2
   slot:=fun j k' d' e'=>by
    by_cases c:j∈is
    ·obtain ⟨k0,d0,e0,hk0,e1⟩:=(g3 j).2 c;rw [e1] at e';cases e';have z:j∉ix.map (·.1):=fun z=>by
      obtain ⟨q,hq,rfl⟩:=RI.mp z;exact hik q hq c
     rw [hs j z] at e0;obtain ⟨v',h1,h2⟩:=R.slot j k0 _ e0;refine ⟨v',h1,?_⟩;rw [if_pos c];exact .sh ((h2.rp (by cases k0 <;> first | rfl | cases hk0) up fun a ha=>dh (mem ha c)).mono s1)
    ·rw [(g3 j).1 c] at e';rw [if_neg c]
     by_cases z:j∈ix.map (·.1)
     ·obtain ⟨q,hq,rfl⟩:=RI.mp z;obtain ⟨p,es,xs',es',mu,g1,g2,g4,g5,_⟩:=hu q hq;rw [g2] at e';cases e';obtain ⟨h1,h2⟩:=hix q hq;exact ⟨_,h1,by rw [h2];exact .ow g4 g5⟩
     ·rw [hs j z] at e';obtain ⟨v',h1,h2⟩:=R.slot j k' d' e';exact ⟨v',h1,h2.step (up.trans s1) fun a ha=>keepH z ha⟩
   off:=fun j a ha=>by
    by_cases c:j∈is
    ·rw [if_pos c] at ha;cases ha
    ·rw [if_neg c] at ha;exact offI ha fun z=>by
      obtain ⟨i,hi,h⟩:=S9.mp z;exact c (R.aV i j a h ha ▸ hi)
   bW:=fun j a ha=>by
    by_cases c:j∈is
    ·rw [if_pos c] at ha;cases ha
    ·rw [if_neg c] at ha;exact hliv ha
   aV:=fun j l a h1 h2=>by
    by_cases c:j∈is
    ·rw [if_pos c] at h1;cases h1
    ·rw [if_neg c] at h1
     by_cases c':l∈is
     ·rw [if_pos c'] at h2;cases h2
     ·rw [if_neg c'] at h2;exact R.aV j l a h1 h2
   fr:=frm
   new:=fun j a ha=>by
    by_cases c:j∈is
    ·rw [if_pos c] at ha;cases ha
    ·rw [if_neg c] at ha;exact R.new j a ha
   pin:=pinn (fun j hj=>(g3 j).1 hj) fun j hj=>by
    obtain ⟨k0,d0,e0,hk0,_⟩:=(g3 j).2 hj;exact .inr ⟨k0,d0,e0,hk0⟩
   old:=fun a ha=>by
    refine od ha fun z=>?_
    obtain ⟨i,hi,h⟩:=S9.mp z;obtain ⟨k0,d0,e0,hk0,_⟩:=(g3 i).2 hi;have zi:i∉ix.map (·.1):=fun z=>by
     obtain ⟨q,hq,rfl⟩:=RI.mp z;exact hik q hq hi
    rw [hs i zi] at e0;exact ha (R.notM e0 (by cases k0 <;> first | rfl | (rename_i p;cases p <;> first | rfl | cases hk0) | cases hk0) h) }
  refine ⟨Hm2,_,R',up.trans s1,⟨o,fun a ha=>(fr a ha).2,fun a ha i=>?_,fun a ha=>R.fj (fr a ha).1⟩⟩
  by_cases c:i∈is
  ·rw [if_pos c];simp
  ·rw [if_neg c];exact nfp a ha i
end
section
variable {X:Cx}{Ex:XK}{π:Uq}
def JU {x:Str}{k:Nat}{ps:Us}{ms:Uk}{sp:aZ}{p pos:Pos}{e:Expr}{es:Ul}{as:List Arg}(F:bU X.prog X.w X.K X.mg X.base k x ps (cy X.mg X.K ms sp))(hp:Passes (fY X.prog X.w) X Ex)(hr:eT k X.A)(hg:Gl X x)(hd:(x == ("__debug__":Str))=false)
  (ns:(e::es).all noStar=true)(S:aY X Ex π (e::es) as):SE X Ex π (.Call (.Name x p) (e::es) [] pos) (aA sp ms as):=by
 intro g xc E σ H Hm Fo P Q hx R h q;obtain ⟨f,fd,h1,h2,h3,h4⟩:=F;refine WE.of (Ke (E:=Ex) h4 hr hg h1 h2 h3 .nil hp (ff ns) hd (bR (by rw [RU,RK] at ns;exact ns.1)) (jM (by rw [RU,RK] at ns;exact ns.2))) ?_
 refine oz hx S R h fun E1 os vs H1 Hm1 F1 p R1 s1 G=>?_
 replace p:DY sp ms as xc E1 os P:=p
 unfold DY at p;rw [<- bS,gn] at p;obtain ⟨ds,hf,p⟩:=p;rw [eE,Hz] at p;obtain ⟨hl,hsp⟩:=p;unfold yS at hl;rw [RK,RK,SJ,RP] at hl;obtain ⟨⟨l1,l2⟩,l3⟩:=hl;have hlent:∀ i∈lent ms as,i∉kept ms as/\∃ p es,E1[i]?=some (some (.ow p,.list es)):=fun i hi=>by
  have:=l3 i hi;rw [RK] at this;refine ⟨fun z=>?_,?_⟩
  ·have y:=this.1;rw [Bool.not_eq_true',Td] at y;simp [z] at y
  ·have y:=this.2;split at y
   ·rename_i p es e;exact ⟨p,es,e⟩
   ·cases y
 have off:∀ a∈(kept ms as).flatMap F1,Hm1 a=none:=fun a ha=>by
  obtain ⟨i,_,h⟩:=S9.mp ha;exact R1.off i a h
 have up:=iP (Hm:=Hm1) (H:=H1) off;obtain ⟨ix,e1,e2,e3⟩:=xG R1 up (ms:=ms) G hf l1 l2 (fun i hi=>(hlent i hi).2) (fun i hi a ha=>dh (S9.mpr ⟨i,hi,ha⟩)) fun i hi a ha=>by
  rw [cj fun z=>by
   obtain ⟨j,hj,h⟩:=S9.mp z;exact (hlent i hi).1 (R1.aV j i a h ha ▸ hj)]
  exact R1.off i a ha
 show cy X.mg X.K ms sp (vs++[]) H1 Q Ex;rw [SN];refine ⟨ds,ix.map (·.2),lend Hm1 H1 ((kept ms as).flatMap F1),_,xc,iJ R1.sub,e2,hsp,fun us k r u H' Hm' fp p sM sS fr old bk o new=>?_,fun c d C a H' hC hxc fr ha hn=>?_⟩
 ·replace p:Dc ms as E1 us k r P:=p
  unfold Dc at p;rw [<- bS,vV] at p;obtain ⟨E2,hu,p⟩:=p;rw [<- bS,HS] at p;obtain ⟨E3,ha,p⟩:=p;obtain ⟨u1,u2,u3,u4⟩:=pN hu l2;have hu':∀ q∈ix,∃ p es xs' es',PyData.list es'∈us/\E1[q.1]?=some (some (.ow p,.list es))/\E2[q.1]?=some (some (.ow p,.list es'))/\H' q.2=some (.lst xs')/\aG X.K Hm' xs' es'/\Hm' q.2=none:=fun q hq=>by
   obtain ⟨n,hn⟩:=UA hq;have hn1:(lent ms as)[n]?=some q.1:=by rw [<- e1,RN,hn];rfl
   have hn2:(ix.map (·.2))[n]?=some q.2:=by rw [RN,hn];rfl
   obtain ⟨xs',es',g1,g2,g3,g4⟩:=bk.get hn2;obtain ⟨p',es,es'',g5,g6,g7⟩:=u4 n q.1 _ hn1 g1;cases g5;exact ⟨p',es,xs',es',Rt g1,g6,g7,g2,g3,g4⟩
  obtain ⟨Hm'',F'',R'',s'',T⟩:=C7 R1 (is:=kept ms as) (ix:=ix) (us:=us) e3 (fun q hq=>(hlent q.1 (e1 ▸ RI.mpr ⟨q,hq,rfl⟩)).1) u1 (fun j hj=>u2 j (e1 ▸ hj)) hu' (xX ha) sM sS fr old o new
  exact q _ _ _ _ _ _ _ _ p R'' (s1.trans s'') T
 ·refine hx c d C a H' hC hxc (fun p o hp ho=>?_) ha (R1.fj hn)
  refine fr p o (fun z=>?_) (R1.fr p o hp ho)
  obtain ⟨q,hq,rfl⟩:=RI.mp z;rcases R1.new q.1 q.2 (by rw [(e3 q hq).2];exact RA) with y | y
  ·exact hp y
  ·rw [y] at ho;cases ho
end
def WS (X:Cx)(st:Stmt):TS:=fun D σ H=>∀ (pins:UG)(s:Shared),Inv X pins σ H s->wpAny (model X.prog X.w) X.A (exec st X.env) (SP X pins D) X.xe s
def rT (X:Cx)(st:Up):TS:=fun D σ H=>∀ (pins:UG)(s:Shared),Inv X pins σ H s->wpAny (model X.prog X.w) X.A (execs st X.env) (SP X pins D) X.xe s
def CY:PS X st (WS X st):=fun pins s _ _ _ I h=>h pins s I
def jC:p9 X st (rT X st):=fun pins s _ _ _ I h=>h pins s I
def WS.of (h:PS X st t)(q:t D σ H):WS X st D σ H:=fun pins s I=>h pins s σ H D I q
def rT.of (h:p9 X st t)(q:t D σ H):rT X st D σ H:=fun pins s I=>h pins s σ H D I q
def bJ {α:Type}{l:List α}{i:Nat}{a:α}(h:l[i]?=some a):i < l.length:=by
 rcases SG i l.length with z | z
 ·exact z
 ·rw [S4 z] at h;cases h
def kY {π:Uq}{σ:St}{j i:Nat}{v:Option V}(nd:π.Nodup)(h:π[j]?=some i)(hi:i < σ.length):(sel π σ).set j v=sel π (σ.set i v):=by
 have lj:j < π.length:=bJ h;refine Ss fun k=>?_
 by_cases c:k=j
 ·subst c;rw [aM (by unfold sel;rw [RD];exact lj)]
  unfold sel;rw [RN,h];show some v=some ((σ.set i v)[i]?).join;rw [aM hi];rfl
 ·rw [au (Ne.symm c)];unfold sel;rw [RN,RN];cases e:π[k]? with
  | none=>rfl
  | some m =>
   have ne:i≠m:=fun z=>c (by
    have h1:=Te.mp e;have h2:=Te.mp h;obtain ⟨l1,e1⟩:=h1;obtain ⟨l2,e2⟩:=h2;exact (List.getElem_inj nd).mp (e1.trans (z.symm.trans e2.symm)))
   show some (σ[m]?).join=some ((σ.set i v)[m]?).join;rw [au ne]
abbrev aQ (X:Cx):Uq:=List.range X.N.length
def Ph (X:Cx)(Ex:XK)(w:TS)(d:DS):Prop :=
 ∀ (g:Gh)(D':jt)(E:En)(σ:St)(H Hm:Hp)(F:Nat->Uh)(D:Ends),XL X Ex D'.xc g->Rl X.K g E σ H Hm F->d D' E ->
  (∀ E' σ' H' Hm' F',D'.nx E'->Rl X.K g E' σ' H' Hm' F'->aj Hm Hm'->D.nx (sel (aQ X) σ') H') ->
  (∀ E' k v u σ' H' Hm' F' fp,D'.rt E' k v->Rl X.K g E' σ' H' Hm' F'->Tm X.K g F' H' Hm' k u v fp->D.rt u H')->w D (sel (aQ X) σ) H
abbrev S1 (X:Cx)(Ex:XK)(st:Stmt)(d:DS):Prop:=Ph X Ex (WS X st) d
abbrev SS (X:Cx)(Ex:XK)(st:Up)(d:DS):Prop:=Ph X Ex (rT X st) d
section
variable {X:Cx}{Ex:XK}
def bV:SS X Ex [] cR:=fun g D' E σ H Hm F D hx R h nx rt=>rT.of Ju (nx _ _ _ _ _ h R (aj.refl _))
def ai {st:Stmt}{rest:Up}{a b:DS}(h1:S1 X Ex st a)(h2:SS X Ex rest b):SS X Ex (st::rest) (aC a b):=by
 intro g D' E σ H Hm F D hx R h nx rt;refine rT.of (yZ CY jC) (h1 g { D' with nx:=b D' } E σ H Hm F _ hx R h (fun E1 σ1 H1 Hm1 F1 p1 R1 s1=>?_) rt)
 exact h2 g D' E1 σ1 H1 Hm1 F1 D hx R1 p1 (fun E2 σ2 H2 Hm2 F2 p2 R2 s2=>nx _ _ _ _ _ p2 R2 (s1.trans s2)) rt
def nY {st:Stmt}{rest:Up}{a b:DS}(h1:S1 X Ex st a)(h2:SS X Ex rest b):SS X Ex (st::rest) (qR a b):=by
 intro g D' E σ H Hm F D hx R h nx rt;obtain ⟨J,h,hJ⟩:=h;refine rT.of (yZ CY jC) (h1 g { D' with nx:=J } E σ H Hm F _ hx R h (fun E1 σ1 H1 Hm1 F1 p1 R1 s1=>?_) rt)
 exact h2 g D' E1 σ1 H1 Hm1 F1 D hx R1 (hJ E1 p1) (fun E2 σ2 H2 Hm2 F2 p2 R2 s2=>nx _ _ _ _ _ p2 R2 (s1.trans s2)) rt
def ak (h1:S1 X Ex st a):SS X Ex [st] a:=fun g D' E σ H Hm F D hx R h nx rt=>rT.of (JZ CY) (h1 g D' E σ H Hm F D hx R h nx rt)
def Qp (hc:ST X Ex (aQ X) c t)(ha:SS X Ex a d)(hb:SS X Ex b2 e):S1 X Ex (.If c a b2 pos) (cE t d e):=by
 rw [J7];intro g D' E σ H Hm F D hx R h nx rt;refine WS.of (Pf j5 jC jC) (hc g D'.xc E σ H Hm F _ (fun b H1=>if b=true then rT X a D _ H1 else rT X b2 D _ H1) hx R h fun E1 b H1 Hm1 F1 p1 R1 s1=>?_)
 cases b with
 | true=>exact pI (ha g D' E1 σ H1 Hm1 F1 D hx R1 (by simpa using p1) (fun E2 σ2 H2 Hm2 F2 p2 R2 s2=>nx _ _ _ _ _ p2 R2 (s1.trans s2)) rt)
 | false=>exact oO (hb g D' E1 σ H1 Hm1 F1 D hx R1 (by simpa using p1) (fun E2 σ2 H2 Hm2 F2 p2 R2 s2=>nx _ _ _ _ _ p2 R2 (s1.trans s2)) rt)
def OO (h:SE X Ex (aQ X) e d):S1 X Ex (.Return (some e) pos) (bH d):=fun g D' E σ H Hm F D hx R p nx rt=>WS.of (FY bg) (h g D'.xc E σ H Hm F _ _ hx R p fun E' k v u H' Hm' F' fp p' R' s' T=>rt _ _ _ _ _ _ _ _ _ p' R' T)
def NJ (h:SE X Ex (aQ X) e d)(hs:swapsWith e none pos.line X.env=pure false):S1 X Ex (.Expr e pos) (dM d):=fun g D' E σ H Hm F D hx R p nx rt=>WS.of (JV bg hs) (h g D'.xc E σ H Hm F _ _ hx R p fun E' k v u H' Hm' F' fp p' R' s' T=>nx _ _ _ _ _ p' R' s')
def Rl.move {K:Frag}{g:Gh}{E:En}{σ:St}{H Hm:Hp}{F:Nat->Uh}(R:Rl K g E σ H Hm F){i:Nat}{k:Kd}{d:PyData}(e:E[i]?=some (some (k,d)))(hk:k.pin=false):∃ v F',σ[i]?=some (some v)/\Rl K g (E.set i none) σ H Hm F'/\Tm K g F' H Hm k v d (F i):=by
 obtain ⟨v,h1,h2⟩:=R.slot i k d e;have li:=bJ e;refine ⟨v,fun j=>if j=i then [] else F j,h1,?_,⟨h2,R.off i,fun a ha j=>?_,fun a ha=>R.notM e hk ha⟩⟩
 ·exact {
   len:=by rw [SH];exact R.len
   sub:=R.sub
   slot:=fun j k' d' e'=>by
    by_cases c:j=i
    ·subst c;rw [aM li] at e';cases e'
    ·rw [au (Ne.symm c)] at e';obtain ⟨u,g1,g2⟩:=R.slot j k' d' e';exact ⟨u,g1,by rw [if_neg c];exact g2⟩
   off:=fun j a ha=>by
    by_cases c:j=i
    ·rw [if_pos c] at ha;cases ha
    ·rw [if_neg c] at ha;exact R.off j a ha
   bW:=fun j a ha=>by
    by_cases c:j=i
    ·rw [if_pos c] at ha;cases ha
    ·rw [if_neg c] at ha;exact R.bW j a ha
   aV:=fun j l a g1 g2=>by
    by_cases c:j=i
    ·rw [if_pos c] at g1;cases g1
    ·rw [if_neg c] at g1
     by_cases c':l=i
     ·rw [if_pos c'] at g2;cases g2
     ·rw [if_neg c'] at g2;exact R.aV j l a g1 g2
   fr:=R.fr
   new:=fun j a ha=>by
    by_cases c:j=i
    ·rw [if_pos c] at ha;cases ha
    ·rw [if_neg c] at ha;exact R.new j a ha
   pin:=fun q hq=>by
    obtain ⟨g1,ds',g2⟩:=R.pin q hq;have c:i≠q.1:=fun z=>by
     rw [<- z,e] at g2;cases g2;cases hk
    exact ⟨g1,ds',by rw [au c];exact g2⟩
   old:=R.old }
 ·by_cases c:j=i
  ·rw [if_pos c];simp
  ·rw [if_neg c];exact fun z=>c (R.aV j i a z ha)
def iT {n i:Nat}(h:i < n):(List.range n)[i]?=some i:=SV h
def ME {i:Nat}(h:PE X e (jL i))(hi:i < X.N.length):S1 X Ex (.Return (some e) pos) (mX i):=by
 intro g D' E σ H Hm F D hx R p nx rt
 replace p:Df E i D'.rt:=p
 unfold Df at p;split at p
 rotate_left
 ·exact p.elim
 rename_i k d e1;rw [eE] at p;obtain ⟨hk,p⟩:=p;have hk:k.pin=false:=by simpa using hk
 obtain ⟨v,F',h1,R',T⟩:=R.move e1 hk;exact WS.of (FY h) ⟨v,dm (iT hi) h1,rt _ _ _ _ _ _ _ _ _ p R' T⟩
def iS {i:Nat}(h:b9 E i=true):i < E.length:=by
 rcases SG i E.length with z | z
 ·exact z
 ·unfold b9 at h;rw [S4 z] at h;cases h
def ON {i:Nat}{x:Str}{e:Expr}{pos pos':Pos}{d:DE}(hN:X.N.Nodup)(hi:X.N[i]?=some x)(hl:Loc X.env.scope x)(hs:swapsWith e (some (.Name x pos')) pos.line X.env=pure false)(hf:X.fn x=true\/X.env.scope.names.lookup x=some .local)(h:SE X Ex (aQ X) e d):S1 X Ex (.Assign [.Name x pos'] e pos) (aS i d):=by
 rw [qY];intro g D' E σ H Hm F D hx R p nx rt;refine WS.of (M1 hN hi hl bg hs hf) (h g D'.xc E σ H Hm F _ _ hx R p fun E' k v u H' Hm' F' fp p' R' s' T=>?_)
 show D.nx ((sel (aQ X) σ).set i (some u)) H';rw [kY Sl (iT (bJ hi)) (R'.len ▸ iS p'.1)];exact nx _ _ _ _ _ p'.2 (R'.put T p'.1) s'
inductive k9 (X:Cx)(π:Uq):Ul->Uq->Prop
 | nil:k9 X π [] []
 | cons {x:Str}{p:Pos}{j i:Nat}{ts:Ul}{is:Uq}:X.N[j]?=some x->π[j]?=some i->Loc X.env.scope x->(X.fn x=true\/X.env.scope.names.lookup x=some .local)->k9 X π ts is->k9 X π (.Name x p::ts) (i::is)
inductive eo (X:Cx)(π:Uq):Expr->Tg->Prop
 | nm {x:Str}{p:Pos}{j i:Nat}:X.N[j]?=some x->π[j]?=some i->Loc X.env.scope x->(X.fn x=true\/X.env.scope.names.lookup x=some .local)->eo X π (.Name x p) (.nm i)
 | tp {ts:Ul}{k:Nat}{p:Pos}{is:Uq}:k9 X π ts is->eo X π (.Tuple ts k p) (.tp is)
def QX (X:Cx)(π:Uq)(tg:Tg)(G:TG):Prop:=∀ {g:Gh}{d:PyData}{v:V}{E E2:En}{σ:St}{H Hm:Hp}{F:Nat->Uh}{Q:St->Hp->Prop},cM tg d E=some E2->Rp X.K Hm v d->Rl X.K g E σ H Hm F->(∀ σ' F',Rl X.K g E2 σ' H Hm F'->(∀ j,j∉tg.slots->σ'[j]?=σ[j]?)->Q (sel π σ') H)->G v (sel π σ) H Q
def GS (hN:X.N.Nodup)(nd:π.Nodup)(h:k9 X π ts is):∃ G:r9,EL X ts G/\(assignEach ts X.env).length=is.length/\(assignEach ts X.env).findIdx? (·.1)=none /\
  ∀ {g:Gh}{ds:Ub}{vs:List V}{E E2:En}{σ:St}{H Hm:Hp}{F:Nat->Uh}{Q:St->Hp->Prop},b7 is ds E=some E2->aG X.K Hm vs ds->Rl X.K g E σ H Hm F->(∀ σ' F',Rl X.K g E2 σ' H Hm F'->(∀ j,j∉is->σ'[j]?=σ[j]?)->Q (sel π σ') H)->vs.length=is.length/\G vs (sel π σ) H Q:=by
 induction h with
 | nil =>
  refine ⟨Nt,KU,rfl,rfl,fun {g ds vs E E2 σ H Hm F Q} h r R q=>?_⟩
  cases ds with
  | nil =>
   cases h;cases r;exact ⟨rfl,rfl,q _ _ R fun _ _=>rfl⟩
  | cons _ _=>cases h
 | @cons x p j i ts is h1 h2 h3 h4 _ ih =>
  obtain ⟨G,g1,g2,g3,g4⟩:=ih;refine ⟨IM (mY j) G,Gm (BA hN h1 h3 h4) g1,?_,?_,fun {g ds vs E E2 σ H Hm F Q} h r R q=>?_⟩
  ·show (assignEach ts X.env).length + 1=_;rw [g2];rfl
  ·show List.findIdx? (·.1) ((false,assign (.Name x p) X.env)::assignEach ts X.env)=none;rw [List.findIdx?_cons,g3];rfl
  ·cases ds with
   | nil=>cases h
   | cons d ds =>
    rw [b7] at h
    by_cases o:b9 E i=true
    ·rw [if_pos o] at h;cases r with
     | cons r1 r2 =>
      obtain ⟨l,k⟩:=g4 h r2 (R.put (Tm.sh r1) o) fun σ' F' R' a=>q σ' F' R' fun j' hj=>by
       have ne:i≠j':=fun z=>hj (z ▸ RA)
       exact (a j' fun z=>hj (RG _ z)).trans (au ne)
      refine ⟨congrArg (· + 1) l,_,_,rfl,?_⟩;show G _ ((sel π σ).set j (some _)) H Q;rw [kY nd h2 (R.len ▸ iS o)];exact k
    ·rw [if_neg o] at h;cases h
def rj (hc:X.calm=true)(hN:X.N.Nodup)(nd:π.Nodup)(h:eo X π e tg):∃ G,PG X e G/\QX X π tg G:=by
 cases h with
 | @nm x p j i h1 h2 h3 h4 =>
  refine ⟨mY j,BA hN h1 h3 h4,fun {g d v E E2 σ H Hm F Q} h r R q=>?_⟩
  have h:b7 [i] [d] E=some E2:=h;rw [b7] at h
  by_cases o:b9 E i=true
  ·rw [if_pos o] at h;cases h;show Q ((sel π σ).set j (some v)) H;rw [kY nd h2 (R.len ▸ iS o)];exact q _ _ (R.put (Tm.sh r) o) fun j' hj=>au (show i≠j' from fun z=>hj (z ▸ RA))
  ·rw [if_neg o] at h;cases h
 | @tp ts k p is h =>
  obtain ⟨G,g1,g2,g3,g4⟩:=GS hN nd h;refine ⟨_,Lc hc g1 g2 g3,fun {g d v E E2 σ H Hm F Q} h r R q=>?_⟩
  cases d with
  | tuple ds =>
   have h:b7 is ds E=some E2:=h;cases r with
   | tup a r =>
    obtain ⟨l,k⟩:=g4 h r R q;exact ⟨_,_,rfl,cP.of (R.sub _ _ a),l,k⟩
  | _=>cases h
def Oo {k:Nat}(hc:X.calm=true)(hN:X.N.Nodup)(ht:k9 X (aQ X) ts is)(hs:swapsWithSole [.Tuple ts k p] e pos.line X.env=pure false)(hw:swappedStores [.Tuple ts k p] e X.env=pure none)(h:SE X Ex (aQ X) e d):S1 X Ex (.Assign [.Tuple ts k p] e pos) (tD is d):=by
 intro g D' E σ H Hm F D hx R pp nx rt;obtain ⟨G,g1,g2⟩:=rj hc hN Sl (eo.tp (k:=k) (p:=p) ht);refine WS.of (Ep bg g1 hs hw) (h g D'.xc E σ H Hm F _ _ hx R pp fun E' k v u H' Hm' F' fp p' R' s' T=>?_)
 replace p':bK k.fz _:=p'
 rw [eE] at p';obtain ⟨hk,p'⟩:=p';unfold IX at p';split at p'
 rotate_left
 ·exact p'.elim
 rename_i ds;rw [<- bS,Dz] at p';obtain ⟨E2,e2,p'⟩:=p';have e2:cM (.tp is) (.tuple ds) E'=some E2:=e2;obtain ⟨Hm2,s2,R2,r2⟩:=T.cJ R' hk;exact g2 e2 r2 R2 fun σ' F' R3 _=>nx _ _ _ _ _ p' R3 (s'.trans s2)
def JI (hp:PassesOwn (model X.prog X.w) X.A X.env X.xe)(hc:ST X Ex (aQ X) c t)(hb:SS X Ex b d):S1 X Ex (.While c b [] pos) (uQ t d):=by
 intro g D' E σ H Hm F D hx R h nx rt;obtain ⟨W,⟨m0,w0⟩,step⟩:=h;refine WS.of (HK hp j5 jC) ⟨fun m τ H'=>∃ E' σ' Hm' F',W m E'/\Rl X.K g E' σ' H' Hm' F'/\aj Hm Hm'/\τ=sel (aQ X) σ',⟨m0,E,σ,Hm,F,w0,R,aj.refl _,rfl⟩,?_⟩
 rintro m τ H1 ⟨E1,σ1,Hm1,F1,w1,R1,s1,rfl⟩;refine hc g D'.xc E1 σ1 H1 Hm1 F1 _ _ hx R1 (step m E1 w1) fun E2 b2 H2 Hm2 F2 p2 R2 s2=>?_
 cases b2 with
 | true =>
  refine pI ⟨fun τ H'=>∃ m',m' < m/\∃ E' σ' Hm' F',W m' E'/\Rl X.K g E' σ' H' Hm' F'/\aj Hm Hm'/\τ=sel (aQ X) σ',fun _ _ z=>z,?_⟩
  exact hb g { D' with nx:=fun E'=>∃ m',m' < m/\W m' E' } E2 σ1 H2 Hm2 F2 _ hx R2 (by simpa using p2) (fun E3 σ3 H3 Hm3 F3 p3 R3 s3=>by
   obtain ⟨m',hm,w3⟩:=p3;exact ⟨m',hm,E3,σ3,Hm3,F3,w3,R3,s1.trans (s2.trans s3),rfl⟩) rt
 | false=>exact oO (nx _ _ _ _ _ (by simpa using p2) R2 (s1.trans s2))
def v8 (K:Frag)(J:It)(xs:Ub)(fF:Hp):Prop:=∀ (i:Nat)(H Hm:Hp),aj fF Hm->aj Hm H ->
 (∀ d,xs[i]?=some d->J.go i H/\∀ x H',J.su i H x H'->∃ Hm',aj Hm Hm'/\aj Hm' H'/\aj H H'/\(∀ a,H a≠none->OE (Hm' a) (Hm a))/\Rp K Hm' x d)/\(xs.length<=i->J.stop i H)
def SI (X:Cx)(Ex:XK)(π:Uq)(tg e:Expr)(d:DI):Prop:=∃ wi:TI,PI X tg e wi /\
 ∀ (g:Gh)(x:XC)(E:En)(σ:St)(H Hm:Hp)(F:Nat->Uh)(P:En->Ub->Prop)(R:It->Hp->Prop),XL X Ex x g->Rl X.K g E σ H Hm F->d x E P ->
  (∀ E' xs J H' Hm' F',P E' xs->Rl X.K g E' σ H' Hm' F'->aj Hm Hm'->v8 X.K J xs Hm'->R J H')->wi (sel π σ) H R
def Rl.turn {F:Nat->Uh}(R:Rl K g E σ H Hm F)(s1:aj Hm Hm')(s2:aj Hm' H')(s3:aj H H')(old:∀ a,H a≠none->OE (Hm' a) (Hm a)):Rl K g E σ H' Hm' F :=
 R.grow s3 s1 s2 (fun i a ha=>by
  obtain ⟨u,hu,nt⟩:=R.bW i a ha;exact (old a (by rw [hu];simp)).off (R.off i a ha) s2 (s3 _ _ hu) nt) fun a ha=>old a (R.uH ha)
def OJ (hp:PassesOwn (model X.prog X.w) X.A X.env X.xe)(hc:X.calm=true)(hN:X.N.Nodup)(hi:SI X Ex (aQ X) tg it di)(ht:eo X (aQ X) tg t)(hb:SS X Ex b d)
  (hs:∀ x,foldedSetIterable it X.env x=pure x):S1 X Ex (.For tg it b [] pos) (fM di t d):=by
 intro g D' E σ H Hm F D hx R h nx rt;obtain ⟨wi,hpi,hw⟩:=hi;obtain ⟨G,g1,g2⟩:=rj hc hN Sl ht;refine WS.of (Lj hp hc hpi g1 jC hs) (hw g D'.xc E σ H Hm F _ _ hx R h fun E1 xs J H1 Hm1 F1 p1 R1 s1 it1=>?_)
 obtain ⟨I,i0,step,fin⟩:=p1;refine ⟨fun i m τ H'=>m=xs.length - i/\i<=xs.length/\∃ E' σ' Hm' F',I i E'/\Rl X.K g E' σ' H' Hm' F'/\aj Hm1 Hm'/\τ=sel (aQ X) σ',⟨xs.length,by simp,S8 _,E1,σ,Hm1,F1,i0,R1,aj.refl _,rfl⟩,?_⟩
 rintro i m τ H2 ⟨rfl,hi,E2,σ2,Hm2,F2,i2,R2,s2,rfl⟩;obtain ⟨go,stop⟩:=it1 i H2 Hm2 s2 R2.sub
 by_cases c:i < xs.length
 ·obtain ⟨go,su⟩:=go xs[i] (RS c);refine .inr ⟨go,fun τ H'=>i + 1<=xs.length/\∃ E' σ' Hm' F',I (i + 1) E'/\Rl X.K g E' σ' H' Hm' F'/\aj Hm1 Hm'/\τ=sel (aQ X) σ',fun τ H' z=>⟨xs.length - (i + 1),by omega,rfl,z⟩,fun x H3 y=>?_⟩
  obtain ⟨Hm3,t1,t2,t3,old,r⟩:=su x H3 y;have R3:=R2.turn t1 t2 t3 old;obtain ⟨E4,e4,p4⟩:=step i xs[i] E2 (RS c) i2;refine g2 e4 r R3 fun σ4 F4 R4 _=>?_
  exact hb g { D' with nx:=I (i + 1) } E4 σ4 H3 Hm3 F4 _ hx R4 p4 (fun E5 σ5 H5 Hm5 F5 p5 R5 s5=>⟨c,E5,σ5,Hm5,F5,p5,R5,s2.trans (t1.trans s5),rfl⟩) rt
 ·have e:i=xs.length:=by omega
  subst e;exact .inl ⟨stop (RE _),nx _ _ _ _ _ (fin E2 i2) R2 (s1.trans s2)⟩
end
end Dv
namespace L2
open PySem PySem.Spec PyProof.Rows
def iM (elt:Expr)(gens:Tp)(scope:Scope)(pos:Pos) (k:Nat)(acc:Value)(env:Env)(fin:Sem Fin):Sem Fin:=match gens[k]? with
 | some g'=>do
  let x <- eval g'.iter env
  standAt g'.iter.pos
  let x <- foldedSetIterable g'.iter env x
  let y <- holding [x] (pyIter x)
  let _ <- runOwn (.compStart (.ListComp elt gens scope pos) k y acc env) env
  fin
 | none=>do
  (do let _ <- call (.builtin "list.append") [acc,<- eval elt env])
  fin
def compTurn_gen {k:Nat}(hk:gens[k]?=some ⟨tg,iter,ifs,0⟩)(ha:∀ g∈gens,g.is_async=0)(it acc:Value)(env:Env) :
  compTurn (.ListComp elt gens scope pos) k it acc env=(do
   standAt iter.pos
   match <- pyNext it with
   | none=>pure (.done .next)
   | some v =>
    letOwnedTupleGo tg it v
    assign tg env v
    let mut ok:=true
    for c in ifs do
     if ok then ok <- isTrue c env (eval c env)
    if ok then iM elt gens scope pos (k + 1) acc env (again (.compLoop (.ListComp elt gens scope pos) k it acc env))
    else again (.compLoop (.ListComp elt gens scope pos) k it acc env)):=by
 unfold compTurn iM;simp only [hk];cases h:gens[k + 1]? with
 | none=>rfl
 | some g' =>
  have e:=ha g' (Rt h);obtain ⟨t,i,f,a⟩:=g';dsimp only at e;subst e;rfl
section
variable {prog:Program}{w:World}{A:Around}{R:Result->Shared->Prop}{s:Shared}{elt tg iter:Expr}{gens:Tp}{ifs:Ul}{scope:Scope}{pos:Pos}{k:Nat}
def pK (hk:gens[k]?=some ⟨tg,iter,ifs,0⟩)(ha:∀ g∈gens,g.is_async=0)(I:Nat->Shared->Prop)
  (turn:∀ n s,I n s->wpAny (model prog w) A (pyNext it) (fun r s1=>match r with
   | none=>R (.ok .next) s1
   | some v=>wpAny (model prog w) A (letOwnedTupleGo tg it v) (fun _ s0=>wpAny (model prog w) A (assign tg env v) (fun _ s2=>wpAny (model prog w) A (forIn ifs true fun c r=>if r=true then do let ok <- isTrue c env (eval c env);pure (ForInStep.yield ok) else pure (ForInStep.yield r)) (fun ok s3 =>
      if ok=true then ∀ (fin:Sem Fin)(Qf:Fin->Shared->Prop),(∀ s5,(∃ m,m < n/\I m s5)->wpAny (model prog w) A fin Qf (pV prog w A env R) s5)->wpAny (model prog w) A (iM elt gens scope pos (k + 1) acc env fin) Qf (pV prog w A env R) s3
      else ∃ m,m < n/\I m s3) (pV prog w A env R) s2) (pV prog w A env R) s0) (pV prog w A env R) s1) (pV prog w A env R) s)
  (n:Nat)(h:I n s):codeAny (model prog w) A (.compLoop (.ListComp elt gens scope pos) k it acc env) R s:=by
 refine codeAny_loop rfl I (fun n s hI=>?_) n h
 refine (wpAny_noted (?_:_):wpAny _ A ((compTurn (.ListComp elt gens scope pos) k it acc env).onRaise (fun x=>do noteFrame x env;theTreesLotGoes x)) _ _ s)
 rw [compTurn_gen hk ha];refine R8 (T9 (R8 (Rr (turn n s hI) (fun r s1 h1=>?_) fun _ _ z=>z)))
 cases r with
 | none=>exact R9 h1
 | some v =>
  refine R8 (Rr h1 (fun _ s0 h0=>R8 (Rr h0 (fun _ s2 h2=>R8 (Rr h2 (fun ok s3 h3=>?_) fun _ _ z=>z)) fun _ _ z=>z)) fun _ _ z=>z)
  cases ok with
  | false=>exact R9 ⟨rfl,h3⟩
  | true=>exact h3 _ _ fun s5 h5=>R9 ⟨rfl,h5⟩
def z9 (hk:gens[k]?=some ⟨tg,iter,ifs,0⟩)
  (h0:codeAny (model prog w) A (.compLoop (.ListComp elt gens scope pos) k it acc env) R s)
  (h:wpAny (model prog w) A (pyIter it) (fun it' s'=>codeAny (model prog w) A (.compLoop (.ListComp elt gens scope pos) k it' acc env) R s') (notedBy (model prog w) A env fun x s'=>R (.error x) s') s) :
  codeAny (model prog w) A (.compStart (.ListComp elt gens scope pos) k it acc env) R s:=by
 refine codeAny_of_tree ?_;show wpAny _ _ ((compStart (.ListComp elt gens scope pos) k it acc env).onRaise (fun x=>do noteFrame x env;standAt theWindowsPlace)) _ _ s
 refine wpAny_notedAt ?_;unfold compStart;have ec:(clausesOf (.ListComp elt gens scope pos))[k]?=some ⟨tg,iter,ifs,0⟩:=hk;rw [ec];show wpAny _ _ (ask >>= _) _ _ s;refine R8 (wpAny_askSetting (wpAny_ite ?_));split
 ·first
   | exact R8 (R9 (R9 (And.intro rfl h0)))
   | exact R9 (And.intro rfl h0)
 ·first
   | exact R8 (SY (R8 (T9 (R8 (Rr h (fun it' s' h'=>R9 (And.intro rfl h')) fun _ _ x=>x)))))
   | (refine R8 (SY ?_);show wpAny _ _ (standAt iter.pos >>= _) _ _ s;exact R8 (T9 (R8 (Rr h (fun it' s' h'=>R9 (And.intro rfl h')) fun _ _ x=>x))))
end
def nL (N:Us)(fs scope:Scope)(vs NB:Us)(ix:Uq):Bool :=
 decide (scope.kind=.function) && scope.names.all (fun y=>decide (y.2≠.cell)) && scope.names.all (fun y=>decide (y.2≠.local) || decide (scope.names.lookup y.1=some .local)) &&
 scope.names.all (fun y=>decide (y.2≠.free) || (decide (fs.names.lookup y.1=some .cell) || decide (fs.names.lookup y.1=some .free))) &&
 decide (NB=vs++ix.map fun i=>N.getD i "") && decide NB.Nodup && ix.all fun i=>match N[i]? with | some y=>decide (scope.names.lookup y=some .free) | none=>false
structure cT (X:Cx)(scope:Scope)(vs NB:Us)(ix:Uq):Prop where
 kind:scope.kind=.function
 cell:∀ y∈scope.names,y.2≠.cell
 names:∀ y∈scope.names,y.2=.local->scope.names.lookup y.1=some .local
 free:∀ y,(y,NameKind.free)∈scope.names->(X.env.kindOf y=some .cell\/X.env.kindOf y=some .free)
 nb:NB=vs++ix.map fun i=>X.N.getD i ""
 nd:NB.Nodup
 cap:∀ i∈ix,∃ y,X.N[i]?=some y/\scope.names.lookup y=some .free
def cT.of (h:nL N fs scope vs NB ix=true)(hN:X.N=N:=by rfl)(hf:X.env.scope=fs:=by rfl):cT X scope vs NB ix:=by
 subst hN hf;unfold nL at h;simp only [RK] at h;obtain ⟨⟨⟨⟨⟨⟨h1,h2⟩,h3⟩,h4⟩,h6⟩,h7⟩,h8⟩:=h;refine ⟨Rn h1,fun y hy=>Rn (RP.mp h2 y hy),fun y hy e=>?_,fun y hy=>?_,Rn h6,Rn h7,fun i hi=>?_⟩
 ·have z:=RP.mp h3 y hy;rw [TR] at z;rcases z with z | z
  ·exact absurd e (Rn z)
  ·exact Rn z
 ·have z:=RP.mp h4 _ hy;rw [TR,TR] at z;rcases z with z | z | z
  ·exact absurd rfl (Rn z)
  ·exact .inl (Rn z)
  ·exact .inr (Rn z)
 ·have z:=RP.mp h8 i hi;cases e:X.N[i]? with
  | none=>rw [e] at z;cases z
  | some y=>rw [e] at z;exact ⟨y,rfl,Rn z⟩
section
variable {X:Cx}{scope:Scope}{vs:Us}{NB:Us}{ix:Uq}{pins:UG}{σ:St}{H2:Hp}{s2:Shared}{fp:Uh}
def cT.clos (B:cT X scope vs NB ix)(I2:Inv X pins σ H2 s2):closureFor scope X.env=pure (cu X.env.cells scope.names []) :=
 mR fun n hn=>I2.ok.has n (B.free n hn)
def cT.look (B:cT X scope vs NB ix)(I2:Inv X pins σ H2 s2){c:Addr}(h:(cu X.env.cells scope.names []).lookup y=some c):X.env.cells.lookup y=some c:=by
 rcases nC _ _ h with ⟨m,e⟩ | e
 ·obtain ⟨c',hc⟩:=I2.ok.has y (B.free y m);rw [hc] at e ⊢;exact congrArg some e
 ·cases e
def Dt (B:cT X scope vs NB ix)(I2:Inv X pins σ H2 s2){C:Addr}(hC:s2.heap.objs.size<=C)(f2:∀ b∈fp,dY X pins H2 b)(ft:∀ b∈fp,b < s2.heap.objs.size):(X.block scope C NB s2 H2 fp).Ok where
 mod:=I2.ok.mod
 kind:=B.kind
 glob:=I2.ok.glob
 blt:=I2.ok.blt
 above:=hC
 inj:=fun a b c h1 h2=>I2.ok.inj a b c (B.look I2 h1) (B.look I2 h2)
 has:=fun y hy=>by
  have key:∀ k,(relabel scope X.env).names.lookup y=some k->(k=.cell\/k=.free)->∃ c,(cu X.env.cells scope.names []).lookup y=some c:=fun k hk kk=>by
   rcases sZ (names:=scope.names) hk with e | ⟨e,_⟩
   ·rcases kk with rfl | rfl
    ·exact absurd rfl (B.cell _ (dO e))
    ·exact fN _ _ (.inl (dO e))
   ·exact fN _ _ (.inl (dO e))
  rcases hy with e | e
  ·exact key _ e (.inl rfl)
  ·exact key _ e (.inr rfl)
 Fb:=fun _ _ z=>by cases z
 hd:=I2.ok.hd
 frames:=I2.ok.frames
 stk:=.inl rfl
 PF:=fun b hb=>⟨RQ (RY (ft b hb) hC),fun y c e=>(f2 b hb).2.2.2.2.1 y c (B.look I2 e)⟩
 bs:=I2.bs
 wu:=Rz I2.ok.wu I2.sz
 vF:=fun b o e hb=>by
  rcases (f2 b hb).2.2.2.1 with z | z
  ·exact I2.ok.vF b o e z
  ·exact absurd (RY (RL (I2.ok.bs b o e).1) z) (SA _)
 CB:=fun b hb z=>by
  rcases RJ.mp (I2.kh b z) with e | e
  ·exact (f2 b hb).2.1 e
  ·exact (f2 b hb).2.2.1 e
 lZ:=I2.stack
 Au:=I2.rD
def BD (B:cT X scope vs NB ix)(I2:Inv X pins σ H2 s2){C D:Addr}{tk:Nat}(hC:s2.heap.objs.size<=C)(hD:s2.heap.objs.size<=D)(hDC:D≠C)(f2:∀ b∈fp,dY X pins H2 b)(ft:∀ b∈fp,b < s2.heap.objs.size)
  (old:∀ b o,s2.heap.get? b=some o->h1.get? b=some o)(hn:h1.Ns C m)(ho:h1.get? D=some oD)(hcl:∀ v,oD.data≠.cell v) :
  Inv (X.block scope C NB s2 H2 fp) [(D,oD)] (List.replicate vs.length none++caps ix σ) H2 { s2 with heap:=h1,toks:=tk } where
 ok:=Dt B I2 hC f2 ft
 os:=rfl
 bare:=I2.bare
 base:=Un.kept old
 loc:=by
  refine ⟨m,hn,fun i y v e1 e2 _=>?_⟩
  have e1:NB[i]?=some y:=e1
  by_cases li:i < vs.length
  ·rw [U4 (by rw [Sg];exact li),List.getElem?_replicate,if_pos li] at e2
   cases e2
  ·obtain ⟨j,rfl⟩:∃ j,i=vs.length + j:=⟨i - vs.length,by omega⟩
   have e2:(caps ix σ)[j]?=some (some v):=by
    rw [Ti (by rw [Sg];omega),Sg,UY] at e2
    exact e2
   rw [B.nb] at e1;have e1:(ix.map fun i=>X.N.getD i "")[j]?=some y:=by
    rw [Ti (by omega),UY] at e1
    exact e1
   rw [RN] at e1;unfold caps at e2;rw [RN] at e2;cases q:ix[j]? with
   | none=>rw [q] at e1;cases e1
   | some i =>
    rw [q] at e1 e2;obtain ⟨z,hz,fz⟩:=B.cap i (Rt q);have ey:y=z:=by
     have w:X.N.getD i ""=y:=Option.some.inj e1;rw [<- w,Sk,hz];rfl
    subst ey;have e2:(σ[i]?).join=some v:=Option.some.inj e2;have es:σ[i]?=some (some v):=by
     cases w:σ[i]? with
     | none=>rw [w] at e2;cases e2
     | some o=>rw [w] at e2;exact congrArg some e2
    have fk:=B.free y (dO fz);have vis:ko X.env.scope y:=.inr fk;obtain ⟨mm,_,hl⟩:=I2.loc;obtain ⟨u,ru,lk⟩:=hl i y v hz es vis;refine ⟨u,ru,.inr ⟨?_,?_⟩⟩
    ·rcases oX (env:=X.env) (names:=scope.names) fz with e | ⟨_,e⟩
     ·exact .inr e
     ·exact .inl e
    ·rcases lk with ⟨lk,_⟩ | ⟨_,c,hc,hcell⟩
     ·rcases fk with fk | fk
      ·rw [lk] at fk;cases fk
      ·rw [lk] at fk;cases fk
     ·obtain ⟨c',hc'⟩:=fN (cells:=X.env.cells) scope.names [] (.inl (dO fz));have e3:=B.look I2 hc';rw [hc] at e3;cases e3;obtain ⟨oc,g1,g2⟩:=hcell;exact ⟨c,hc',oc,old _ _ g1,g2⟩
 cell:=fun y c e=>by
  obtain ⟨v,o,g1,g2⟩:=I2.cell y c (B.look I2 e);exact ⟨v,o,old _ _ g1,g2⟩
 free:=I2.hok.fresh hC
 ju:=fun y c e=>I2.ju y c (B.look I2 e)
 pin:=fun p hp=>by
  have e:p=(D,oD):=by simpa [Cx.block] using hp
  subst e;refine ⟨ho,I2.hok.fresh hD,hDC,fun z=>?_,hcl⟩
  rcases RJ.mp (I2.kh D z) with e | e
  ·have e:D=X.env.locals:=e;exact absurd (RY I2.lt (e ▸ hD)) (SA _)
  ·exact I2.G3 hD e
 hok:=I2.hok.kept old
 len:=by
  show (List.replicate vs.length none++caps ix σ).length=NB.length;rw [B.nb,RW,RW,yH,RD,Sg]
end
abbrev TL:=List V->St->Hp->(List V->St->Hp->Prop)->Prop
def PL (X:Cx)(D:Addr)(elt:Expr)(gens:Tp)(scope:Scope)(pos:Pos) (k:Nat)(t:TL):Prop :=
 X.s₀.heap.objs.size<=D->(∀ y c,X.env.cells.lookup y=some c->c≠D)->(∀ e s',X.xe e s'->False) ->
 ∀ (pins:UG)(s:Shared)(σ:St)(H:Hp)(ys:List V)(its:Ug) (nn:Nat)(Q:List V->St->Hp->Prop)(fin:Sem Fin)(Qf:Fin->Shared->Prop)(E:Tn),
  (∀ p∈X.pn++pins,p.1≠D)->Inv X ((D,dU its nn)::pins) σ H s->Vals ys its->ys.length<=sizeLine->t ys σ H Q ->
  (∀ s' ys' its' nn' σ' H',Inv X ((D,dU its' nn')::pins) σ' H' s'->Vals ys' its'->ys'.length<=sizeLine->Q ys' σ' H'->wpAny (model X.prog X.w) X.A fin Qf E s') ->
  wpAny (model X.prog X.w) X.A (iM elt gens scope pos k (.ref D) X.env fin) Qf E s
def Iw (te:TE):TL:=fun ys σ H Q=>te σ H fun v H1=>ys.length < sizeLine/\Q (ys++[v]) σ H1
def yF (J:It)(g:TG)(tt:TT)(tr:TL)(ys0:List V)(σ0:St)(H1:Hp)(Q:List V->St->Hp->Prop):Prop :=
 ∃ W:Nat->Nat->List V->St->Hp->Prop,(∃ m,W 0 m ys0 σ0 H1)/\∀ i m ys σ H,W i m ys σ H ->
  (J.stop i H/\Q ys σ H)\/(J.go i H/\∃ N:List V->St->Hp->Prop,(∀ ys' σ' H',N ys' σ' H'->∃ m',m' < m/\W (i + 1) m' ys' σ' H') /\
   ∀ x H',J.su i H x H'->g x σ H' fun σ2 H2=>tt σ2 H2 fun b H3=>if b=true then tr ys σ2 H3 N else N ys σ2 H3)
def Ol (wi:TI)(g:TG)(tt:TT)(tr:TL):TL:=fun ys σ H Q=>wi σ H fun J H1=>yF J g tt tr ys σ H1 Q
section
variable {X:Cx}{D:Addr}{elt tg iter:Expr}{gens:Tp}{ifs:Ul}{scope:Scope}{pos:Pos}{k:Nat}
def Ay (he:PE X elt te)(hk:gens[k]?=none:=by rfl):PL X D elt gens scope pos k (Iw te):=by
 intro hD hc hx pins s σ H ys its nn Q fin Qf E hp I rv hz h hf;unfold iM;rw [hk];refine R8 (R8 (Rr (he _ s σ H _ I h) (fun y s8 ⟨yv,H8,I8,r8,hlt,n8⟩=>R8 ?_) fun e s' z=>(hx e s' z).elim))
 have pD:=I8.pin (D,dU its nn) (Ry _ RA);refine append_at (hsz:=by rw [RV,<- rv.length];exact hz) pD.1 fun h9 hs9 hD9=>R9 ?_
 have I8n:Inv X pins σ H8 s8:=I8.jU fun p hp'=>I8.pin p (Ry _ (RG _ hp'))
 have I9:=I8n.turned (h':=h9) (t':=s8.toks) (it:=D) (fun b o hb e=>hs9.extBut b o hb e) pD.2.1 pD.2.2.1 (.inr hD) hc hp
 have e9:dU (its++[y]) (nn + 1)={ cls:=.type "list",data:=.seq (its.toArray.push y) (nn + 1) }:=by
  show ({ cls:=.type "list",data:=.seq (its++[y]).toArray (nn + 1) }:Obj)=_;rw [List.push_toArray]
 have I10:Inv X ((D,dU (its++[y]) (nn + 1))::pins) σ H8 { s8 with heap:=h9 }:=by
  refine I9.jU fun p hp'=>?_
  rcases RJ.mp hp' with rfl | hp'
  ·exact ⟨hD9.trans (congrArg some e9.symm),pD.2.1,pD.2.2.1,pD.2.2.2.1,fun v q=>by cases q⟩
  ·exact I9.pin p (Ry _ hp')
 exact hf _ (ys++[yv]) (its++[y]) (nn + 1) σ H8 I10 (Vals.append rv (.cons r8 .nil)) (by rw [RW];exact hlt) n8
def HM {b:Addr}(f:dY X ((D,o)::pins) H b)(hn:H' b=none):dY X ((D,o')::pins) H' b:=by
 obtain ⟨f0,f1,f2,f3,f4,f5⟩:=f;refine ⟨hn,f1,f2,f3,f4,fun p hp=>?_⟩
 rcases RM.mp hp with hp | hp
 ·exact f5 p (UN _ hp)
 ·rcases RJ.mp hp with rfl | hp
  ·exact f5 (D,o) (Ry _ RA)
  ·exact f5 p (Ry _ (RG _ hp))
def N7 (hc:X.calm=true)(hi:PI X tg iter wi)(hg:PG X tg g)(ht:oB X ifs tt)(hr:PL X D elt gens scope pos (k + 1) tr)
  (hk:gens[k]?=some ⟨tg,iter,ifs,0⟩:=by rfl)(ha:∀ g∈gens,g.is_async=0:=by decide)(hs:∀ v,foldedSetIterable iter X.env v=pure v:=by intro _;rfl):PL X D elt gens scope pos k (Ol wi g tt tr):=by
 intro hD hcD hx pins s σ H ys its nn Q fin Qf E hp I rv hz h hf;unfold iM;rw [hk];refine R8 (Rr (hi _ s σ H _ I h) (fun v s1 h1=>R8 (T9 (R8 (wpAny_of_eq (hs v) (R8 (Sa (Rr h1 (fun itv s2 h2=>?_) fun e s' z=>(hx e s' z).elim))))))) fun e s' z=>(hx e s' z).elim)
 obtain ⟨it,fp,tn,J,H2,e,I2,T,st2,f2,W,⟨m0,w0⟩,turn⟩:=h2;subst e;refine R8 (wpAny_runOwn ?_);have loop:codeAny (model X.prog X.w) X.A (.compLoop (.ListComp elt gens scope pos) k (.ref it) (.ref D) X.env) (fun r s'=>match r with | .ok f=>wpAny (model X.prog X.w) X.A fin Qf E s' | .error e=>cameBackBy (model X.prog X.w) X.A X.env E e s') s2:=by
  refine pK hk ha (fun n s'=>∃ i ys' its' nn' σ' H',W i n ys' σ' H'/\Inv X ((D,dU its' nn')::pins) σ' H' s'/\tn i s'.heap/\(∀ b∈fp,H' b=none)/\Vals ys' its'/\ys'.length<=sizeLine) ?_ m0 ⟨0,ys,its,nn,σ,H2,w0,I2,st2,fun b hb=>(f2 b hb).1,rv,hz⟩
  rintro n s' ⟨i,ys',its',nn',σ',H',w',I',st',fr',rv',hz'⟩;have fy:∀ {H3:Hp},(∀ b∈fp,H3 b=none)->∀ b∈fp,dY X ((D,dU its' nn')::pins) H3 b:=fun hn b hb=>HM (f2 b hb) (hn b hb)
  rcases turn i n ys' σ' H' w' with ⟨stop,q⟩ | ⟨go,Nx,hNx,step⟩
  ·refine Rr (T.done X rfl rfl rfl hc i _ s' _ H' (fun _ _=>False) I' (fy fr') st' stop) (fun r s4 ⟨hr',I4⟩=>?_) fun _ _ z=>z.elim
   subst hr';exact hf _ _ _ _ _ _ I4 rv' hz' q
  ·refine Rr (T.item X rfl rfl rfl hc i _ s' _ H' (fun _ _=>False) I' (fy fr') st' go) (fun r s4 ⟨u,hr',h4⟩=>?_) fun _ _ z=>z.elim
   subst hr';refine Rr h4 (fun _ s4 ⟨v,H5,I5,r5,y5,st5,fr5⟩=>?_) fun _ _ z=>z.elim
   have pIt:∀ b∈fp,∃ o,s4.heap.get? b=some o/\∀ v,o.data≠.cell v:=T.obj _ _ st5;have I5':=I5.pinned (fy fr5) pIt;refine Rr (hg _ s4 σ' H5 v u _ I5' r5 (step v H5 y5)) (fun _ s6 ⟨σ6,H6,I6,q6⟩=>?_) fun e s' z=>(hx e s' z).elim
   refine Rr (ht _ s6 σ6 H6 _ I6 q6) (fun b s7 ⟨H7,I7,q7⟩=>?_) fun e s' z=>(hx e s' z).elim
   have stays:∀ {s9:Shared}{H9:Hp}{σ9:St}{oD:Obj},Inv X ((D,oD)::(pins++fR fp s4.heap)) σ9 H9 s9->tn (i + 1) s9.heap/\(∀ b∈fp,H9 b=none)/\Inv X ((D,oD)::pins) σ9 H9 s9:=fun {s9 H9 σ9 oD} I9=>by
    refine ⟨T.keep _ _ _ st5 fun b hb o e=>(I9.pin (b,o) (Ry _ (RG _ (Ry _ (eN hb e))))).1,fun b hb=>?_,I9.jU fun p hp'=>I9.pin p (Ry _ ?_)⟩
    ·obtain ⟨o,e,d⟩:=pIt b hb;exact (I9.pin (b,o) (Ry _ (RG _ (Ry _ (eN hb e))))).2.1
    ·rcases RJ.mp hp' with rfl | hp'
     ·exact RA
     ·exact RG _ (UN _ hp')
   cases b with
   | false =>
    rw [if_neg RX] at q7 ⊢;obtain ⟨m',hm,w7⟩:=hNx _ _ _ q7;obtain ⟨g1,g2,g3⟩:=stays I7;exact ⟨m',hm,i + 1,ys',its',nn',σ6,H7,w7,g3,g1,g2,rv',hz'⟩
   | true =>
    rw [if_pos rfl] at q7 ⊢;intro fin' Qf' hf';refine hr hD hcD hx (pins++fR fp s4.heap) s7 σ6 H7 ys' its' nn' Nx fin' Qf' _ (fun p hp'=>?_) I7 rv' hz' q7 fun s8 ys8 its8 nn8 σ8 H8 I8 rv8 hz8 n8=>?_
    ·rcases RM.mp hp' with hp' | hp'
     ·exact hp p (UN _ hp')
     ·rcases RM.mp hp' with hp' | hp'
      ·exact hp p (Ry _ hp')
      ·exact Ne.symm ((f2 p.1 (mJ hp').1).2.2.2.2.2 (D,dU its nn) (Ry _ RA))
    ·obtain ⟨m',hm,w8⟩:=hNx _ _ _ n8;obtain ⟨g1,g2,g3⟩:=stays I8;exact hf' s8 ⟨m',hm,i + 1,ys8,its8,nn8,σ8,H8,w8,g3,g1,g2,rv8,hz8⟩
 exact z9 hk loop (T.self _ 0 _ _ _ st2 loop)
end
section
variable {X:Cx}{scope:Scope}{vs:Us}{NB:Us}{ix:Uq}
def lH (wi:TI) (n:Nat)(ix:Uq)(g:TG)(tt:TT)(tr:TL):TE:=fun σ H Q=>wi σ H fun J H1=>yF J g tt tr [] (List.replicate n none++caps ix σ) H1 fun ys _ H'=>∀ p,H' p=none->Q (.ref p) (upd H' p (.lst ys))
def uD {elt tg iter:Expr}{ifs:Ul}{rest:Tp}{pos:Pos}{g:TG}{tt:TT}{tr:TL}{J:It}{it:Addr}{tn:Nat->Heap->Prop}{fp:Uh}{pins:UG}{σ:St}{H2:Hp}{s2:Shared}{E:Tn}{RR:Value->Addr->Result->Shared->Prop}{Qr:VK}(B:cT X scope vs NB ix)(hc:X.calm=true)
  (hg:∀ (C:Addr)(s:Shared)(H:Hp)(fp:Uh),PG (X.block scope C NB s H fp) tg g)(ht:∀ (C:Addr)(s:Shared)(H:Hp)(fp:Uh),oB (X.block scope C NB s H fp) ifs tt)
  (hr:∀ (C:Addr)(s:Shared)(H:Hp)(fp:Uh)(D:Addr),PL (X.block scope C NB s H fp) D elt (⟨tg,iter,ifs,0⟩:: rest) scope pos 1 tr)
  (ha:∀ g∈rest,g.is_async=0)(I2:Inv X pins σ H2 s2)(T:Turn X.prog X.w X.K tg J fp it tn)(st2:tn 0 s2.heap)(f2:∀ b∈fp,dY X pins H2 b)(h:yF J g tt tr [] (List.replicate vs.length none++caps ix σ) H2 fun ys _ H'=>∀ p,H' p=none->Qr (.ref p) (upd H' p (.lst ys)))
  (hRR:∀ (D C:Addr)(Hf:Hp)(s':Shared)(m':UE),Inv X pins σ Hf s'->s'.heap.Ns C m'->dY X pins Hf C->Qr (.ref D) Hf->RR (.ref D) C (.ok .next) s') :
  wpAny (model X.prog X.w) X.A (newList []) (fun acc s3=>wpAny (model X.prog X.w) X.A (newFunctionEnv scope X.env.globals (cu X.env.cells scope.names []) [] X.env.qual none .none (some X.env)) (fun cenv s4 =>
   codeAny (model X.prog X.w) X.A (.compStart (.ListComp elt (⟨tg,iter,ifs,0⟩:: rest) scope pos) 0 (.ref it) acc { cenv with scope:=relabel scope X.env }) (RR acc cenv.locals) s4) E s3) E s2:=by
 obtain ⟨W,⟨m0,w0⟩,turn⟩:=h;have ha':∀ g∈(⟨tg,iter,ifs,0⟩:Comprehension)::rest,g.is_async=0:=fun g hg=>by
  rcases RJ.mp hg with rfl | hg
  ·rfl
  ·exact ha g hg
 refine SX (wpAny_newFunctionEnv B.cell (by intro y hy;simp at hy) (fun h1 hns hsb=>?_) B.kind)
 dsimp only at hns hsb ⊢;generalize eG:s2.heap.push { cls:=.type "list",dict:=none,data:=.seq ([]:Ug).toArray }=G at hns hsb ⊢;have hC:G.objs.size=s2.heap.objs.size + 1:=by rw [<- eG,Heap.size_push]
 have hDC:s2.heap.objs.size≠G.objs.size:=by rw [hC];exact RQ (Nat.lt_succ_self _)
 have hCle:s2.heap.objs.size<=G.objs.size:=by rw [hC];exact Nat.le_succ _
 have old:∀ b o,s2.heap.get? b=some o->h1.get? b=some o:=fun b o e=>by
  have lt:=RL e;exact hsb.extBut b o (RQ (RY lt hCle)) (RO _ (eG ▸ RO _ e))
 have hacc:h1.get? s2.heap.objs.size=some (dU [] 0):=hsb.extBut _ _ hDC (RO _ (eG ▸ Rx _ rfl));have ft:∀ b∈fp,b < s2.heap.objs.size:=fun b hb=>by
  obtain ⟨o,e,_⟩:=T.obj _ _ st2 b hb;exact RL e
 have cD:∀ y c,(X.block scope G.objs.size NB s2 H2 fp).env.cells.lookup y=some c->c≠s2.heap.objs.size:=fun y c e z=>by
  obtain ⟨w,q⟩:=I2.cell y c (B.look I2 e);exact SA _ (z ▸ q.lt)
 have loop:∀ s3:Shared,s3={ s2 with heap:=h1,toks:=s2.toks + ([]:List (Str×Value)).length } ->
   codeAny (model X.prog X.w) X.A (.compLoop (.ListComp elt (⟨tg,iter,ifs,0⟩:: rest) scope pos) 0 (.ref it) (.ref s2.heap.objs.size) (compEnvC scope (cu X.env.cells scope.names []) G.objs.size X.env))
    (RR (.ref s2.heap.objs.size) G.objs.size) s3:=by
  rintro s3 rfl;have I3:=BD (tk:=s2.toks + ([]:List (Str×Value)).length) B I2 hCle (RE _) hDC f2 ft old hns hacc (fun v q=>by cases q)
  have st3:tn 0 h1:=T.keep _ _ _ st2 fun b _ o e=>old b o e
  have fy:∀ {H':Hp}{oD:Obj},(∀ b∈fp,H' b=none)->∀ b∈fp,dY (X.block scope G.objs.size NB s2 H2 fp) [(s2.heap.objs.size,oD)] H' b:=fun {H' oD} hn b hb=>by
   refine ⟨hn b hb,RQ (RY (ft b hb) hCle),fun z=>?_,.inl hb,fun y c e=>(f2 b hb).2.2.2.2.1 y c (B.look I2 e),fun p hp=>?_⟩
   ·rcases RJ.mp (I2.kh b z) with e | e
    ·exact (f2 b hb).2.1 e
    ·exact (f2 b hb).2.2.1 e
   ·have e:p=(s2.heap.objs.size,oD):=by simpa [Cx.block] using hp
    subst e;exact Ne.symm (RQ (ft b hb))
  refine pK (k:=0) rfl ha' (fun n s'=>∃ i ys its nn σ' H',W i n ys σ' H'/\Inv (X.block scope G.objs.size NB s2 H2 fp) [(s2.heap.objs.size,dU its nn)] σ' H' s'/\tn i s'.heap/\(∀ b∈fp,H' b=none)/\Vals ys its/\ys.length<=sizeLine)
   ?_ m0 ⟨0,[],[],0,_,H2,w0,I3,st3,fun b hb=>(f2 b hb).1,.nil,S8 _⟩
  rintro n s' ⟨i,ys,its,nn,σ',H',w',I',st',fr',rv,hz⟩;rcases turn i n ys σ' H' w' with ⟨stop,q⟩ | ⟨go,Nx,hNx,step⟩
  ·refine Rr (T.done (X.block scope G.objs.size NB s2 H2 fp) rfl rfl rfl hc i _ s' _ H' (fun _ _=>False) I' (fy fr') st' stop) (fun r s4 ⟨hr',I4⟩=>?_) fun _ _ z=>z.elim
   subst hr';have I5:=Dw I2 f2 (RE _) I4 rv hz;obtain ⟨m4,hn4,_⟩:=I4.loc;have hfree:H' s2.heap.objs.size=none:=(I4.pin (s2.heap.objs.size,dU its nn) (by show _∈[]++[(s2.heap.objs.size,dU its nn)];simp)).2.1
   have fC:dY X pins (upd H' s2.heap.objs.size (.lst ys)) G.objs.size:=I2.qU hCle (by
    rw [ao (Ne.symm hDC)];exact I4.free)
   exact hRR _ _ _ s4 m4 I5 hn4 fC (q _ hfree)
  ·refine Rr (T.item (X.block scope G.objs.size NB s2 H2 fp) rfl rfl rfl hc i _ s' _ H' (fun _ _=>False) I' (fy fr') st' go) (fun r s4 ⟨u,hr',h4⟩=>?_) fun _ _ z=>z.elim
   subst hr';refine Rr h4 (fun _ s4 ⟨v,H5,I5,r5,y5,st5,fr5⟩=>?_) fun _ _ z=>z.elim
   have pIt:∀ b∈fp,∃ o,s4.heap.get? b=some o/\∀ v,o.data≠.cell v:=T.obj _ _ st5;have I5':=I5.pinned (fy fr5) pIt;refine Rr (hg _ _ _ _ _ s4 σ' H5 v u _ I5' r5 (step v H5 y5)) (fun _ s6 ⟨σ6,H6,I6,q6⟩=>?_) fun _ _ z=>z.elim
   refine Rr (ht _ _ _ _ _ s6 σ6 H6 _ I6 q6) (fun b s7 ⟨H7,I7,q7⟩=>?_) fun _ _ z=>z.elim
   have stays:∀ {s9:Shared}{H9:Hp}{σ9:St}{oD:Obj},Inv (X.block scope G.objs.size NB s2 H2 fp) ((s2.heap.objs.size,oD)::fR fp s4.heap) σ9 H9 s9->tn (i + 1) s9.heap/\(∀ b∈fp,H9 b=none)/\Inv (X.block scope G.objs.size NB s2 H2 fp) [(s2.heap.objs.size,oD)] σ9 H9 s9:=fun {s9 H9 σ9 oD} I9=>by
    refine ⟨T.keep _ _ _ st5 fun b hb o e=>(I9.pin (b,o) (Ry _ (RG _ (eN hb e)))).1,fun b hb=>?_,I9.jU fun p hp'=>I9.pin p (Ry _ ?_)⟩
    ·obtain ⟨o,e,d⟩:=pIt b hb;exact (I9.pin (b,o) (Ry _ (RG _ (eN hb e)))).2.1
    ·rw [RH.mp hp'];exact RA
   cases b with
   | false =>
    rw [if_neg RX] at q7 ⊢;obtain ⟨m',hm,w7⟩:=hNx _ _ _ q7;obtain ⟨g1,g2,g3⟩:=stays I7;exact ⟨m',hm,i + 1,ys,its,nn,σ6,H7,w7,g3,g1,g2,rv,hz⟩
   | true =>
    rw [if_pos rfl] at q7 ⊢;intro fin' Qf' hf';refine hr _ _ _ _ s2.heap.objs.size (RE _) cD (fun _ _ z=>z) (fR fp s4.heap) s7 σ6 H7 ys its nn Nx fin' Qf' _ (fun p hp'=>?_) I7 rv hz q7 fun s8 ys8 its8 nn8 σ8 H8 I8 rv8 hz8 n8=>?_
    ·have hp'':p∈fR fp s4.heap:=hp';exact RQ (ft _ (mJ hp'').1)
    ·obtain ⟨m',hm,w8⟩:=hNx _ _ _ n8;obtain ⟨g1,g2,g3⟩:=stays I8;exact hf' s8 ⟨m',hm,i + 1,ys8,its8,nn8,σ8,H8,w8,g3,g1,g2,rv8,hz8⟩
 exact codeAny_compStart_list (loop _ rfl) (T.self _ 0 _ _ _ (T.keep _ _ _ st2 fun b _ o e=>old b o e) (loop _ rfl))
def HN {elt tg iter:Expr}{ifs:Ul}{rest:Tp}{pos:Pos}{wi:TI}{g:TG}{tt:TT}{tr:TL}(B:cT X scope vs NB ix)(hc:X.calm=true)(hi:PI X tg iter wi)
  (hg:∀ (C:Addr)(s:Shared)(H:Hp)(fp:Uh),PG (X.block scope C NB s H fp) tg g)(ht:∀ (C:Addr)(s:Shared)(H:Hp)(fp:Uh),oB (X.block scope C NB s H fp) ifs tt)
  (hr:∀ (C:Addr)(s:Shared)(H:Hp)(fp:Uh)(D:Addr),PL (X.block scope C NB s H fp) D elt (⟨tg,iter,ifs,0⟩:: rest) scope pos 1 tr)
  (ha:∀ g∈rest,g.is_async=0:=by decide)(hs:∀ v,foldedSetIterable iter X.env v=pure v:=by intro _;rfl):PE X (.ListComp elt (⟨tg,iter,ifs,0⟩:: rest) scope pos) (lH wi vs.length ix g tt tr):=by
 intro pins s σ H Q I h;rw [eval_ListComp];refine wpAny_comprehension_free (use:=none) rfl hs (B.clos I) B.kind B.names (aN (hi pins s σ H _ I h) fun v s1 h1=>aN h1 fun itv s2 h2=>?_)
 obtain ⟨it,fp,tn,J,H2,e,I2,T,st2,f2,w⟩:=h2;subst e;refine uD (Qr:=Q) (RR:=fun acc C=>compPost (model X.prog X.w) X.A X.xe none (EP X pins σ Q) acc C) B hc hg ht hr ha I2 T st2 f2 w fun D C Hf s' m' I' hn' fC q=>?_
 refine ⟨m',hn',fun h'' hs''=>⟨.ref D,Hf,?_,rfl,q⟩⟩
 obtain ⟨c0,c1,c2,c3,c4,c5⟩:=fC;exact I'.turned (it:=C) (t':=s'.toks) (fun b o hb e=>hs''.extBut b o hb e) c0 c1 c3 c4 c5
def yO {elt tg iter:Expr}{ifs:Ul}{rest:Tp}{pos py spos:Pos}{wi:TI}{g:TG}{tt:TT}{tr:TL}{j:Nat}{y:Str}(hN:X.N.Nodup)(hj:X.N[j]?=some y)(hy:X.env.scope.names.lookup y=some .local)(B:cT X scope vs NB ix)(hc:X.calm=true)(hi:PI X tg iter wi)
  (hg:∀ (C:Addr)(s:Shared)(H:Hp)(fp:Uh),PG (X.block scope C NB s H fp) tg g)(ht:∀ (C:Addr)(s:Shared)(H:Hp)(fp:Uh),oB (X.block scope C NB s H fp) ifs tt)
  (hr:∀ (C:Addr)(s:Shared)(H:Hp)(fp:Uh)(D:Addr),PL (X.block scope C NB s H fp) D elt (⟨tg,iter,ifs,0⟩:: rest) scope pos 1 tr)
  (hsw:swapsWith (.ListComp elt (⟨tg,iter,ifs,0⟩:: rest) scope pos) (some (.Name y py)) spos.line X.env=pure true)
  (ha:∀ g∈rest,g.is_async=0:=by decide)(hs:∀ v,foldedSetIterable iter X.env v=pure v:=by intro _;rfl):PS X (.Assign [.Name y py] (.ListComp elt (⟨tg,iter,ifs,0⟩:: rest) scope pos) spos) (CO (lH wi vs.length ix g tt tr) (mY j)):=by
 intro pins s σ H Dn I h;rw [exec_Assign_Name_used _ _ _ _ hsw];refine R8 (T9 (R8 ?_));show wpAny (model X.prog X.w) X.A (comprehension (.ListComp elt (⟨tg,iter,ifs,0⟩:: rest) scope pos) scope X.env _ (newList []) false (eval iter X.env) (some (assign (.Name y py) X.env)) >>= fun _=>pure ()) _ _ s
 refine R8 (aN (wpAny_comprehension_free (use:=some (assign (.Name y py) X.env)) (Q:=fun _ s'=>SP X pins Dn .next s') rfl hs (B.clos I) B.kind B.names (aN (hi pins s σ H _ I h) fun v s1 h1=>aN h1 fun itv s2 h2=>?_)) fun _ s' q=>R9 (R9 q))
 obtain ⟨it,fp,tn,J,H2,e,I2,T,st2,f2,w⟩:=h2;subst e;refine uD (Qr:=fun x H1=>mY j x σ H1 Dn.nx) (RR:=fun acc C=>compPost (model X.prog X.w) X.A X.xe (some (assign (.Name y py) X.env)) (fun _ s'=>SP X pins Dn .next s') acc C) B hc hg ht hr ha I2 T st2 f2 w fun D C Hf s' m' I' hn' fC q=>?_
 obtain ⟨c0,c1,c2,c3,c4,c5⟩:=fC;show wpAny (model X.prog X.w) X.A (assign (.Name y py) X.env (.ref D)) _ _ s';refine wpAny_assign_Name (qP I' hN hj (.inl hy) (v:=.ref D) rfl (fun s'' I'' ⟨a,sb,ha⟩=>?_) (.inr hy))
 have hCa:C≠a:=by
  rcases ha with e | e
  ·rw [e];exact c1
  ·exact fun z=>c4 y a e z.symm
 refine ⟨m',hn'.sameBut sb hCa,fun h3 hs3=>⟨_,Hf,?_,q⟩⟩
 exact I''.turned (it:=C) (t':=s''.toks) (fun b o hb e=>hs3.extBut b o hb e) c0 c1 c3 c4 c5
end
end L2
namespace Dv
open PySem L2 PySem.W
section
variable {X:Cx}{Ex:XK}{π:Uq}{tg:Expr}
def GZ {a:Addr}(h:cG K fF a xs)(r:aG K fF xs ds):v8 K (IJ K a) ds fF:=by
 intro i H Hm s1 s2;have q:bT K H a xs:=(cG.mono (s1.trans s2) h).sq;refine ⟨fun d e=>?_,fun l=>⟨xs,q,by rw [r.len];exact l⟩⟩
 obtain ⟨v,e1,r1⟩:=r.get e;refine ⟨⟨xs,v,q,e1⟩,fun x H' y=>?_⟩
 obtain ⟨rfl,y⟩:=y;have:=y xs q;rw [e1] at this;cases this;exact ⟨Hm,aj.refl _,s2,aj.refl _,fun _ _=>.inl rfl,r1.mono s1⟩
def Kf {a:Addr}(h:fF a=some (.tup xs))(r:aG K fF xs ds):v8 K (Ie K a) ds fF:=by
 intro i H Hm s1 s2;have q:cP K H a xs:=cP.of (s2 _ _ (s1 _ _ h));refine ⟨fun d e=>?_,fun l=>⟨xs,q,by rw [r.len];exact l⟩⟩
 obtain ⟨v,e1,r1⟩:=r.get e;refine ⟨⟨xs,v,q,e1⟩,fun x H' y=>?_⟩
 obtain ⟨rfl,y⟩:=y;have:=y xs q;rw [e1] at this;cases this;exact ⟨Hm,aj.refl _,s2,aj.refl _,fun _ _=>.inl rfl,r1.mono s1⟩
def KD {lo:Int}{n i:Nat}(h:(kR lo n)[i]?=some d):i < n/\d=.int (lo + i):=by
 unfold kR at h;rw [RN] at h
 by_cases c:i < n
 ·rw [SV c] at h;cases h;exact ⟨c,rfl⟩
 ·rw [S4 (by rw [Rm];omega)] at h
  cases h
def AZ {lo:Int}{n:Nat}:v8 K (DP lo n) (kR lo n) fF:=by
 intro i H Hm s1 s2;refine ⟨fun d e=>?_,fun l=>?_⟩
 ·obtain ⟨l,rfl⟩:=KD e;refine ⟨l,fun x H' y=>?_⟩
  obtain ⟨rfl,rfl⟩:=y;exact ⟨Hm,aj.refl _,s2,aj.refl _,fun _ _=>.inl rfl,.int _⟩
 ·unfold kR at l;rw [RD,Rm] at l;exact l
def yo {T:Addr}(s:aj Hm H)(hT:H T=none)(r1:Rp K Hm x a)(r2:Rp K Hm y b):∃ Hm',aj Hm Hm'/\aj Hm' (upd H T (.tup [x,y]))/\aj H (upd H T (.tup [x,y]))/\(∀ a,H a≠none->OE (Hm' a) (Hm a))/\Rp K Hm' (.ref T) (.tuple [a,b]):=by
 have n:=ic s hT;have s2:=bZ (o:=.tup [x,y]) n;refine ⟨upd Hm T (.tup [x,y]),s2,fun b o e=>?_,bZ hT,fun a ha=>.inl (ao fun z=>ha (z ▸ hT)),.tup aL (.cons (r1.mono s2) (.cons (r2.mono s2) .nil))⟩
 by_cases c:b=T
 ·rw [c,aL] at e ⊢;exact e
 ·rw [ao c] at e ⊢;exact s _ _ e
def D7 {i:Nat}(h:(j4 ds)[i]?=some d):∃ e,ds[i]?=some e/\d=.tuple [.int i,e]:=by
 unfold j4 at h;rw [RN,List.getElem?_zipIdx] at h;cases e:ds[i]? with
 | none=>rw [e] at h;cases h
 | some a =>
  rw [e] at h;simp at h;exact ⟨a,rfl,h.symm⟩
def FZ (ds:Ub):(j4 ds).length=ds.length:=by unfold j4;rw [RD,List.length_zipIdx]
def GN {a:Addr}(h:cG K fF a xs)(r:aG K fF xs ds):v8 K (MN K a) (j4 ds) fF:=by
 intro i H Hm s1 s2;have q:bT K H a xs:=(cG.mono (s1.trans s2) h).sq;refine ⟨fun d e=>?_,fun l=>⟨xs,q,by rw [r.len,<- FZ];exact l⟩⟩
 obtain ⟨d0,e0,rfl⟩:=D7 e;obtain ⟨v,e1,r1⟩:=r.get e0;refine ⟨⟨xs,v,q,e1⟩,fun x H' y=>?_⟩
 obtain ⟨T,hT,rfl,y⟩:=y;obtain ⟨x',e2,rfl⟩:=y xs q;rw [e1] at e2;cases e2;exact yo s2 hT (.int _) (r1.mono s1)
open PyProof.Rows in
def JF {a:Addr}(I:Inv X pins σ H s)(hq:bT X.K H a xs)(q:R (IJ X.K a) H):wpAny (model X.prog X.w) X.A (pyIter (.ref a)) (I0 X pins σ tg R) E s:=by
 obtain ⟨its,rv,p,hz⟩:=I.list hq;refine wpAny_pyIter_list p.isList ?_;refine ⟨s.heap.objs.size,[s.heap.objs.size],_,_,H,rfl,I.kept (t':=s.toks) fun b o e=>RO _ e,Dq a _,⟨_,Rx _ rfl,rfl,rfl⟩,fun b hb=>?_,q⟩
 have e:b=s.heap.objs.size:=by simpa using hb
 subst e;exact I.qU (RE _) (I.hok.fresh (RE _))
open PyProof.Rows in
def Mm {a:Addr}(I:Inv X pins σ H s)(hq:cP X.K H a xs)(q:R (Ie X.K a) H):wpAny (model X.prog X.w) X.A (pyIter (.ref a)) (I0 X pins σ tg R) E s:=by
 obtain ⟨its,rv,p,hz⟩:=I.tuple hq;refine wpAny_pyIter_tuple (show s.heap.IsTuple a its.toArray from p) ?_
 refine ⟨s.heap.objs.size,[s.heap.objs.size],_,_,H,rfl,I.kept (t':=s.toks) fun b o e=>RO _ e,CQ a _,⟨_,Rx _ rfl,rfl,rfl⟩,fun b hb=>?_,q⟩
 have e:b=s.heap.objs.size:=by simpa using hb
 subst e;exact I.qU (RE _) (I.hok.fresh (RE _))
def d8 (h:SE X Ex π e d):SI X Ex π tg e (iE d):=by
 rw [O6];refine ⟨fun σ H R=>WE X e σ H fun x H1=>(∃ a,x=.ref a/\(∃ xs,bT X.K H1 a xs)/\R (IJ X.K a) H1)\/∃ a,x=.ref a/\(∃ xs,cP X.K H1 a xs)/\R (Ie X.K a) H1,?_,?_⟩
 ·intro pins s σ H R I h;refine aN (h pins s I) fun v s1 ⟨x,H1,I1,r1,q1⟩=>?_
  rcases q1 with ⟨a,rfl,⟨xs,hq⟩,q⟩ | ⟨a,rfl,⟨xs,hq⟩,q⟩
  ·cases r1;exact JF I1 hq q
  ·cases r1;exact Mm I1 hq q
 ·intro g x E σ H Hm F P R hx Rl p q;refine h g x E σ H Hm F _ _ hx Rl p fun E' k v u H' Hm' F' fp p' R' s' T=>?_
  obtain ⟨hk,ds,e1,p'⟩:=p';obtain ⟨Hm2,s2,R2,r2⟩:=T.cJ R' hk;cases r2 with
  | lst a r =>
   cases e1;exact .inl ⟨_,rfl,⟨_,(cG.mono R2.sub a).sq⟩,q _ _ _ _ _ _ p' R2 (s'.trans s2) (GZ a r)⟩
  | tup a r =>
   cases e1;exact .inr ⟨_,rfl,⟨_,cP.of (R2.sub _ _ a)⟩,q _ _ _ _ _ _ p' R2 (s'.trans s2) (Kf a r)⟩
  | _=>cases e1
def kQ:Ub->Option (Ub)
 | [.int j]=>@ite _ (-(2 ^ 62)<=j/\j < 2 ^ 62) (Classical.propDecidable _) (some (kR 0 j.toNat)) none
 | _=>none
def DX:Ub->Option (Ub)
 | [.int i,.int j]=>@ite _ (-(2 ^ 62)<=i/\i < 2 ^ 62/\-(2 ^ 62)<=j/\j < 2 ^ 62) (Classical.propDecidable _) (some (kR i (j - i).toNat)) none
 | _=>none
def zC {g:Gh}{σ:St}{E:En}{H Hm:Hp}{F:Nat->Uh}{as:List Arg}{os:Uu}{vs:List V}{ds:Ub}{K:Frag}(R:Rl K g E σ H Hm F)(G:Got K σ Hm as os vs)(h:fill as E os=some ds):aG K H vs ds:=nX R R.sub G h fun _ _ _ _=>rfl
def Oe (hg:Gl X "range")(hm:X.mg "range"=none)(ns:noStar a=true)(S:aY X Ex π [a] as):SI X Ex π tg (.Call (.Name "range" p) [a] [] pos) (jy kQ as):=by
 refine ⟨_,Gg hg hm (ff (es:=[a]) (by rw [RU,ns];rfl)) (bR ns),fun g x E σ H Hm F P R hx Rl p q=>?_⟩
 refine oz hx S Rl p fun E1 os vs H1 Hm1 F1 p1 R1 s1 G=>?_
 replace p1:aO (dN as E1 os) _:=p1
 rw [<- bS,gn] at p1;obtain ⟨ds,hf,p1⟩:=p1;rw [<- bS] at p1;obtain ⟨xs,hg',p1⟩:=p1;have r:=zC R1 G hf;unfold kQ at hg';split at hg'
 ·rename_i j;obtain ⟨v,rfl,r1⟩:=d7 r;cases r1;split at hg'
  ·rename_i c;cases hg';exact ⟨j,rfl,c.1,c.2,q _ _ _ _ _ _ p1 R1 s1 AZ⟩
  ·cases hg'
 ·cases hg'
def Pa (hg:Gl X "range")(hm:X.mg "range"=none)(ns:noStar a=true)(ns2:noStar b=true)(S:aY X Ex π [a,b] as):SI X Ex π tg (.Call (.Name "range" p) [a,b] [] pos) (jy DX as):=by
 refine ⟨_,Ge hg hm (ff (es:=[a,b]) (by rw [RU,RU,ns,ns2];rfl)) ((bR ns).trans (by rw [bR ns2];rfl)) (bR ns2),fun g x E σ H Hm F P R hx Rl p q=>?_⟩
 refine oz hx S Rl p fun E1 os vs H1 Hm1 F1 p1 R1 s1 G=>?_
 replace p1:aO (dN as E1 os) _:=p1
 rw [<- bS,gn] at p1;obtain ⟨ds,hf,p1⟩:=p1;rw [<- bS] at p1;obtain ⟨xs,hg',p1⟩:=p1;have r:=zC R1 G hf;unfold DX at hg';split at hg'
 ·rename_i i j;obtain ⟨v,w,rfl,r1,r2⟩:=cW r;cases r1;cases r2;split at hg'
  ·rename_i c;cases hg';exact ⟨i,j,rfl,c,q _ _ _ _ _ _ p1 R1 s1 AZ⟩
  ·cases hg'
 ·cases hg'
def OW {x1:Nat}(hg:Gl X "enumerate")(hm:X.mg "enumerate"=none)(ns:noStar e=true)(h:SE X Ex π e d):SI X Ex π (.Tuple elts x1 tp) (.Call (.Name "enumerate" p) [e] [] pos) (wk d):=by
 rw [NP];refine ⟨_,JL hg hm (ff (es:=[e]) (by rw [RU,ns];rfl)) (bR ns),fun g x E σ H Hm F P R hx Rl p q=>?_⟩
 refine h g x E σ H Hm F _ _ hx Rl p fun E' k v u H' Hm' F' fp p' R' s' T=>?_
 obtain ⟨hk,ds,rfl,p'⟩:=p';obtain ⟨Hm2,s2,R2,r2⟩:=T.cJ R' hk;obtain ⟨a,xs,rfl,ha,r⟩:=gH r2;exact ⟨a,rfl,⟨xs,(cG.mono R2.sub ha).sq⟩,q _ _ _ _ _ _ p' R2 (s'.trans s2) (GN ha r)⟩
def GD {ds es:Ub}{i:Nat}(h:((ds.zip es).map fun p=>PyData.tuple [p.1,p.2])[i]?=some d):∃ a b,ds[i]?=some a/\es[i]?=some b/\d=.tuple [a,b]:=by
 rw [RN] at h;cases e:(ds.zip es)[i]? with
 | none=>rw [e] at h;cases h
 | some p =>
  rw [e] at h;cases h;obtain ⟨h1,h2⟩:=List.getElem?_zip_eq_some.mp e;exact ⟨_,_,h1,h2,rfl⟩
def KQ {a b:Addr}{ds:Ub}(h:cG K fF a xs)(h2:cG K fF b ys)(r:aG K fF xs ds)(r2:aG K fF ys es):v8 K (M9 K a b) ((ds.zip es).map fun p=>.tuple [p.1,p.2]) fF:=by
 intro i H Hm s1 s2;have q:bT K H a xs:=(cG.mono (s1.trans s2) h).sq;have q2:bT K H b ys:=(cG.mono (s1.trans s2) h2).sq;refine ⟨fun d e=>?_,fun l=>⟨xs,ys,q,q2,?_⟩⟩
 ·obtain ⟨d1,d2,e1,e2,rfl⟩:=GD e;obtain ⟨v1,f1,g1⟩:=r.get e1;obtain ⟨v2,f2,g2⟩:=r2.get e2;refine ⟨⟨xs,ys,v1,v2,q,q2,f1,f2⟩,fun x H' y=>?_⟩
  obtain ⟨T,hT,rfl,y⟩:=y;obtain ⟨x1,z1,hx,hz2,rfl⟩:=y xs ys q q2;rw [f1] at hx;cases hx;rw [f2] at hz2;cases hz2;exact yo s2 hT (g1.mono s1) (g2.mono s1)
 ·rw [RD,List.length_zip] at l;have:=r.len;have:=r2.len;omega
def Pe {x1:Nat}(hg:Gl X "zip")(hm:X.mg "zip"=none)(ns:noStar e1=true)(ns2:noStar e2=true)(h1:SE X Ex π e1 d1)(h2:SE X Ex π e2 d2):SI X Ex π (.Tuple elts x1 tp) (.Call (.Name "zip" p) [e1,e2] [] pos) (xT d1 d2):=by
 refine ⟨_,N2 hg hm (ff (es:=[e1,e2]) (by rw [RU,RU,ns,ns2];rfl)) ((bR ns).trans (by rw [bR ns2];rfl)) (bR ns2),fun g x E σ H Hm F P R hx Rl p q=>?_⟩
 refine h1 g x E σ H Hm F _ _ hx Rl p fun E1 k v u H1 Hm1 F1 fp p1 R1 s1 T=>?_
 replace p1:bK k.fz _:=p1
 rw [eE] at p1;obtain ⟨hk,p1⟩:=p1;obtain ⟨Hm2,s2,R2,r2⟩:=T.cJ R1 hk;refine h2 g x E1 σ H1 Hm2 F1 _ _ hx R2 p1 fun E3 k3 v3 u3 H3 Hm3 F3 fp3 p3 R3 s3 T3=>?_
 replace p3:bK k3.fz _:=p3
 rw [eE,<- C0] at p3;obtain ⟨hk3,ds,rfl,p3⟩:=p3;rw [<- C0] at p3;obtain ⟨es,rfl,p3⟩:=p3;obtain ⟨Hm4,s4,R4,r4⟩:=T3.cJ R3 hk3;have r2':=r2.mono (s3.trans s4);obtain ⟨a,xs,rfl,ha,ra⟩:=gH r2';obtain ⟨b,ys,rfl,hb,rb⟩:=gH r4;exact ⟨a,b,rfl,⟨xs,(cG.mono R4.sub ha).sq⟩,⟨ys,(cG.mono R4.sub hb).sq⟩,q _ _ _ _ _ _ p3 R4 (s1.trans (s2.trans (s3.trans s4))) (KQ ha hb ra rb)⟩
end
def WG (X:Cx)(tg:Expr):TG:=fun v σ H Q=>∀ (pins:UG)(s:Shared)(u:Value),Inv X pins σ H s->RelV v u->wpAny (model X.prog X.w) X.A (assign tg X.env u) (fun _ s'=>∃ σ' H',Inv X pins σ' H' s'/\Q σ' H') X.xe s
def WG.of (h:PG X tg t)(q:t v σ H Q):WG X tg v σ H Q:=fun pins s u I r=>h pins s σ H v u Q I r q
def uv (X:Cx)(ifs:Ul):TT:=fun σ H Q=>∀ (pins:UG)(s:Shared),Inv X pins σ H s->wpAny (model X.prog X.w) X.A (forIn ifs true fun c r=>if r=true then do let ok <- isTrue c X.env (eval c X.env);pure (ForInStep.yield ok) else pure (ForInStep.yield r)) (TP X pins σ Q) X.xe s
def uv.of (h:oB X ifs t)(q:t σ H Q):uv X ifs σ H Q:=fun pins s I=>h pins s σ H Q I q
def WL (X:Cx)(D:Addr)(elt:Expr)(gens:Tp)(scope:Scope)(pos:Pos) (k:Nat):TL:=fun ys σ H Q =>
 X.s₀.heap.objs.size<=D->(∀ y c,X.env.cells.lookup y=some c->c≠D)->(∀ e s',X.xe e s'->False) ->
 ∀ (pins:UG)(s:Shared)(its:Ug) (nn:Nat)(fin:Sem Fin)(Qf:Fin->Shared->Prop)(E:Tn),
  (∀ p∈X.pn++pins,p.1≠D)->Inv X ((D,dU its nn)::pins) σ H s->Vals ys its->ys.length<=sizeLine ->
  (∀ s' ys' its' nn' σ' H',Inv X ((D,dU its' nn')::pins) σ' H' s'->Vals ys' its'->ys'.length<=sizeLine->Q ys' σ' H'->wpAny (model X.prog X.w) X.A fin Qf E s') ->
  wpAny (model X.prog X.w) X.A (iM elt gens scope pos k (.ref D) X.env fin) Qf E s
def OS {D:Addr}{k:Nat}:PL X D elt gens scope pos k (WL X D elt gens scope pos k):=fun h1 h2 h3 pins s σ H ys its nn Q fin Qf E hp I rv hz h hf=>h h1 h2 h3 pins s its nn fin Qf E hp I rv hz hf
def WL.of {D:Addr}{k:Nat}(h:PL X D elt gens scope pos k t)(q:t ys σ H Q):WL X D elt gens scope pos k ys σ H Q:=fun h1 h2 h3 pins s its nn fin Qf E hp I rv hz hf=>h h1 h2 h3 pins s σ H ys its nn Q fin Qf E hp I rv hz q hf
def Agree (cs:Uq)(σ σ':St):Prop:=σ.length=σ'.length/\∀ j,j∉cs->σ'[j]?=σ[j]?
def Agree.refl (cs:Uq)(σ:St):Agree cs σ σ:=⟨rfl,fun _ _=>rfl⟩
theorem Agree.trans (h:Agree cs a b)(k:Agree cs b c):Agree cs a c:=⟨h.1.trans k.1,fun j hj=>(k.2 j hj).trans (h.2 j hj)⟩
theorem Agree.symm (h:Agree cs a b):Agree cs b a:=⟨h.1.symm,fun j hj=>(h.2 j hj).symm⟩
section
variable {K:Frag}{g:Gh}{E E0:En}{σ σ':St}{H Hm:Hp}{F:Nat->Uh}
def Rl.Pc (R:Rl K g E σ H Hm F){i:Nat}(o:b9 E i=true)(v:Option V):Rl K g (E.set i none) (σ.set i v) H Hm (fun j=>if j=i then [] else F j) where
 len:=by rw [SH,SH];exact R.len
 sub:=R.sub
 slot:=fun j k' d' e'=>by
  by_cases c:j=i
  ·subst c;rw [aM (iS o)] at e';cases e'
  ·rw [au (Ne.symm c)] at e';obtain ⟨u,g1,g2⟩:=R.slot j k' d' e';exact ⟨u,by rw [au (Ne.symm c)];exact g1,by rw [if_neg c];exact g2⟩
 off:=fun j a ha=>by
  by_cases c:j=i
  ·rw [if_pos c] at ha;cases ha
  ·rw [if_neg c] at ha;exact R.off j a ha
 bW:=fun j a ha=>by
  by_cases c:j=i
  ·rw [if_pos c] at ha;cases ha
  ·rw [if_neg c] at ha;exact R.bW j a ha
 aV:=fun j l a g1 g2=>by
  by_cases c:j=i
  ·rw [if_pos c] at g1;cases g1
  ·rw [if_neg c] at g1
   by_cases c':l=i
   ·rw [if_pos c'] at g2;cases g2
   ·rw [if_neg c'] at g2;exact R.aV j l a g1 g2
 fr:=R.fr
 new:=fun j a ha=>by
  by_cases c:j=i
  ·rw [if_pos c] at ha;cases ha
  ·rw [if_neg c] at ha;exact R.new j a ha
 pin:=fun q hq=>by
  obtain ⟨g1,ds',g2⟩:=R.pin q hq;have c:i≠q.1:=fun z=>by
   unfold b9 at o;rw [z,g2] at o;cases o
  exact ⟨by rw [au c];exact g1,ds',by rw [au c];exact g2⟩
 old:=R.old
theorem Rl.bD:∀ {cs:Uq}{E E0:En}{σ:St}{F:Nat->Uh},Rl K g E σ H Hm F->Dv.bD cs E=some E0->∃ σ' F',Rl K g E0 σ' H Hm F'/\Agree cs σ σ'/\(∀ c∈cs,σ'[c]?=some none/\E0[c]?=some none)
 | [],E,E0,σ,F,R,h=>by
  cases h;exact ⟨σ,F,R,Agree.refl _ _,fun _ z=>by cases z⟩
 | c::cs,E,E0,σ,F,R,h=>by
  rw [Dv.bD] at h
  by_cases o:b9 E c=true
  ·rw [if_pos o] at h;have R1:=R.Pc o none;obtain ⟨σ',F',R',a,n⟩:=Rl.bD (cs:=cs) R1 h;have lc:=iS o;have keep:∀ {l:Uq}{E E0:En},Dv.bD l E=some E0->∀ j,j∉l->E0[j]?=E[j]?:=by
    intro l
    induction l with
    | nil=>intro E E0 h j _;cases h;rfl
    | cons i l ih =>
     intro E E0 h j hj;rw [Dv.bD] at h
     by_cases o:b9 E i=true
     ·rw [if_pos o] at h;have ne:i≠j:=fun z=>hj (z ▸ RA)
      exact (ih h j fun z=>hj (RG _ z)).trans (au ne)
     ·rw [if_neg o] at h;cases h
   refine ⟨σ',F',R',⟨by rw [<- a.1,SH],fun j hj=>?_⟩,fun d hd=>?_⟩
   ·have ne:c≠j:=fun z=>hj (z ▸ RA)
    exact (a.2 j fun z=>hj (RG _ z)).trans (au ne)
   ·by_cases m:d∈cs
    ·exact n d m
    ·have e:d=c:=(RJ.mp hd).resolve_right m;subst e;exact ⟨(a.2 d m).trans (aM (R.len ▸ lc)),(keep h d m).trans (aM lc)⟩
  ·rw [if_neg o] at h;cases h
def Rl.agree (R:Rl K g E σ H Hm F)(a:Agree cs σ σ')(n:∀ c∈cs,E[c]?=some none):Rl K g E σ' H Hm F where
 len:=R.len.trans a.1
 sub:=R.sub
 slot:=fun j k d e=>by
  obtain ⟨v,h1,h2⟩:=R.slot j k d e;refine ⟨v,?_,h2⟩;rw [a.2 j fun z=>by rw [n j z] at e;cases e]
  exact h1
 off:=R.off
 bW:=R.bW
 aV:=R.aV
 fr:=R.fr
 new:=R.new
 pin:=fun q hq=>by
  obtain ⟨g1,ds',g2⟩:=R.pin q hq;refine ⟨?_,ds',g2⟩;rw [a.2 q.1 fun z=>by rw [n q.1 z] at g2;cases g2]
  exact g1
 old:=R.old
end
inductive fV (X:Cx)(Ex:XK)(π:Uq):Ul->DT->Prop
 | nil:fV X Ex π [] dR
 | one {e:Expr}{t:DT}:ST X Ex π e t->fV X Ex π [e] t
def fV.ok (h:fV X Ex π ifs t){F:Nat->Uh}(hx:XL X Ex x g)(R:Rl X.K g E σ H Hm F)(p:t x E P)
  (q:∀ E' b H' Hm' F',P E' b->Rl X.K g E' σ H' Hm' F'->aj Hm Hm'->Q b H'):uv X ifs (sel π σ) H Q:=by
 cases h with
 | nil=>exact uv.of J8 (q _ _ _ _ _ p R (aj.refl _))
 | one h=>exact uv.of (Jv j5) (h g x E σ H Hm F P Q hx R p q)
def SL (X:Cx)(π cs:Uq)(D:Addr)(elt:Expr)(gens:Tp)(scope:Scope)(pos:Pos) (k:Nat)(dc:DC):Prop :=
 ∀ (g:Gh)(E:En)(σ:St)(H Hm:Hp)(F:Nat->Uh)(ys:List V)(dys:Ub)(P:Ub->En->Prop)(Q:List V->St->Hp->Prop),Rl X.K g E σ H Hm F->aG X.K Hm ys dys->dc xF dys E P ->
  (∀ E' dys' ys' σ' H' Hm' F',P dys' E'->Rl X.K g E' σ' H' Hm' F'->aj Hm Hm'->aG X.K Hm' ys' dys'->Agree cs σ σ'->Q ys' (sel π σ') H')->WL X D elt gens scope pos k ys (sel π σ) H Q
section
variable {X:Cx}{Ex:XK}{π cs:Uq}{D:Addr}{elt tg iter:Expr}{ifs:Ul}{gens:Tp}{scope:Scope}{pos:Pos}{k:Nat}
def JA (h:SE X Ex π elt d)(hk:gens[k]?=none):SL X π cs D elt gens scope pos k (bL sizeLine d):=by
 intro g E σ H Hm F ys dys P Q R r p q;refine WL.of (Ay bg hk) (h g xF E σ H Hm F _ _ XL.no R p fun E1 k1 v u H1 Hm1 F1 fp p1 R1 s1 T=>?_)
 obtain ⟨hk,hl,p1⟩:=p1;obtain ⟨Hm2,s2,R2,r2⟩:=T.cJ R1 hk;exact ⟨by rw [r.len];exact hl,q _ _ _ _ _ _ _ p1 R2 (s1.trans s2) ((r.mono (s1.trans s2)).snoc r2) (Agree.refl _ _)⟩
def sU {xs:Ub}{t:Tg}{c:DT}{r:DC}{G:TG}{tt:TT}{tr:TL}{I:Nat->Ub->En->Prop}{σ:St}{F1:Nat->Uh}{Q:List V->St->Hp->Prop}
  (hts:∀ i∈t.slots,i∈cs)(it1:v8 K J xs Hm1)(R1:Rl K g E1 σ H1 Hm1 F1)(r0:aG K Hm1 ys dys)(i0:I 0 dys E1)
  (hG:∀ {d:PyData}{v:V}{E E2:En}{σ:St}{H Hm:Hp}{F:Nat->Uh}{Q:St->Hp->Prop},cM t d E=some E2->Rp K Hm v d->Rl K g E σ H Hm F->(∀ σ' F',Rl K g E2 σ' H Hm F'->(∀ j,j∉t.slots->σ'[j]?=σ[j]?)->Q (sel π σ') H)->G v (sel π σ) H Q)
  (hT:∀ {E:En}{σ:St}{H Hm:Hp}{F:Nat->Uh}{P:Uy}{Q:Bool->Hp->Prop},Rl K g E σ H Hm F->c xF E P->(∀ E' b H' Hm' F',P E' b->Rl K g E' σ H' Hm' F'->aj Hm Hm'->Q b H')->tt (sel π σ) H Q)
  (hR:∀ {E:En}{σ:St}{H Hm:Hp}{F:Nat->Uh}{ys:List V}{dys:Ub}{P:Ub->En->Prop}{Q:List V->St->Hp->Prop},Rl K g E σ H Hm F->aG K Hm ys dys->r xF dys E P->(∀ E' dys' ys' σ' H' Hm' F',P dys' E'->Rl K g E' σ' H' Hm' F'->aj Hm Hm'->aG K Hm' ys' dys'->Agree cs σ σ'->Q ys' (sel π σ') H')->tr ys (sel π σ) H Q)
  (step:∀ i d ys E,xs[i]?=some d->I i ys E->∃ E2,cM t d E=some E2/\c xF E2 fun E3 b=>if b=true then r xF ys E3 (I (i + 1)) else I (i + 1) ys E3)
  (fin:∀ E' dys' ys' σ' H' Hm' F',I xs.length dys' E'->Rl K g E' σ' H' Hm' F'->aj Hm1 Hm'->aG K Hm' ys' dys'->Agree cs σ σ'->Q ys' (sel π σ') H'):yF J G tt tr ys (sel π σ) H1 Q:=by
 refine ⟨fun i m ys τ H'=>m=xs.length - i/\i<=xs.length/\∃ E' dys' σ' Hm' F',I i dys' E'/\Rl K g E' σ' H' Hm' F'/\aj Hm1 Hm'/\aG K Hm' ys dys'/\Agree cs σ σ'/\τ=sel π σ',⟨xs.length,by simp,S8 _,E1,dys,σ,Hm1,F1,i0,R1,aj.refl _,r0,Agree.refl _ _,rfl⟩,?_⟩
 rintro i m ys τ H2 ⟨rfl,hi,E2,dys2,σ2,Hm2,F2,i2,R2,s2,r2,a2,rfl⟩;obtain ⟨go,stop⟩:=it1 i H2 Hm2 s2 R2.sub
 by_cases c':i < xs.length
 ·obtain ⟨go,su⟩:=go xs[i] (RS c');refine .inr ⟨go,fun ys τ H'=>i + 1<=xs.length/\∃ E' dys' σ' Hm' F',I (i + 1) dys' E'/\Rl K g E' σ' H' Hm' F'/\aj Hm1 Hm'/\aG K Hm' ys dys'/\Agree cs σ σ'/\τ=sel π σ',fun ys τ H' z=>⟨xs.length - (i + 1),by omega,rfl,z⟩,fun x H3 y=>?_⟩
  obtain ⟨Hm3,t1,t2,t3,old,rx⟩:=su x H3 y;have R3:=R2.turn t1 t2 t3 old;obtain ⟨E4,e4,p4⟩:=step i xs[i] dys2 E2 (RS c') i2;refine hG e4 rx R3 fun σ4 F4 R4 ag=>?_
  have a4:Agree cs σ σ4:=a2.trans ⟨by rw [<- R3.len,<- R4.len];exact (show E2.length=E4.length from R3.len.trans (by
   have h1:=R3.len;have h2:=R4.len;have:E4.length=E2.length:=by
    have go:∀ {is:Uq}{ds:Ub}{E E':En},b7 is ds E=some E'->E'.length=E.length:=by
     intro is
     induction is with
     | nil=>intro ds E E' h;cases ds with | nil=>cases h;rfl | cons _ _=>cases h
     | cons j is ih =>
      intro ds E E' h;cases ds with
      | nil=>cases h
      | cons d ds =>
       rw [b7] at h
       by_cases o:b9 E j=true
       ·rw [if_pos o] at h;rw [ih h,SH]
       ·rw [if_neg o] at h;cases h
    cases t with
    | nm j=>exact go (is:=[j]) e4
    | tp js =>
     cases hd:xs[i] with
     | tuple ds=>rw [hd] at e4;exact go (is:=js) e4
     | _=>rw [hd] at e4;cases e4
   omega)),fun j hj=>ag j fun z=>hj (hts j z)⟩
  refine hT R4 p4 fun E5 b H5 Hm5 F5 p5 R5 s5=>?_
  cases b with
  | true =>
   refine pI (hR R5 (r2.mono (t1.trans s5)) (by simpa using p5) fun E6 dys6 ys6 σ6 H6 Hm6 F6 p6 R6 s6 r6 a6=>?_)
   exact ⟨c',E6,dys6,σ6,Hm6,F6,p6,R6,s2.trans (t1.trans (s5.trans s6)),r6,a4.trans a6,rfl⟩
  | false=>exact oO ⟨c',E5,dys2,σ4,Hm5,F5,by simpa using p5,R5,s2.trans (t1.trans s5),r2.mono (t1.trans s5),a4,rfl⟩
 ·have e:i=xs.length:=by omega
  subst e;exact .inl ⟨stop (RE _),fin _ _ _ _ _ _ _ i2 R2 s2 r2 a2⟩
def NR (hc:X.calm=true)(hN:X.N.Nodup)(nd:π.Nodup)(hi:SI X Ex π tg iter di)(ht:eo X π tg t)(hts:∀ i∈t.slots,i∈cs)(hif:fV X Ex π ifs c)(hr:SL X π cs D elt gens scope pos (k + 1) r)
  (hk:gens[k]?=some ⟨tg,iter,ifs,0⟩)(ha:∀ g∈gens,g.is_async=0)(hs:∀ v,foldedSetIterable iter X.env v=pure v):SL X π cs D elt gens scope pos k (FL di t c r):=by
 intro g E σ H Hm F ys dys P Q R rr p q;obtain ⟨wi,hpi,hw⟩:=hi;obtain ⟨G,g1,g2⟩:=rj hc hN nd ht;refine WL.of (N7 (tt:=uv X ifs) hc hpi g1 (fun pins s σ H Q I h=>h pins s I) OS hk ha hs) (hw g xF E σ H Hm F _ _ XL.no R p fun E1 xs J H1 Hm1 F1 p1 R1 s1 it1=>?_)
 obtain ⟨I,i0,step,fin⟩:=p1;exact sU (cs:=cs) (t:=t) (c:=c) (r:=r) hts it1 R1 (rr.mono s1) i0 (fun h1 h2 h3 h4=>g2 h1 h2 h3 h4) (fun h1 h2 h3=>hif.ok XL.no h1 h2 h3) (fun h1 h2 h3 h4=>hr g _ _ _ _ _ _ _ _ _ h1 h2 h3 h4) step fun E' dys' ys' σ' H' Hm' F' i R' s' r' a'=>q _ _ _ _ _ _ _ (fin _ _ i) R' (s1.trans s') r' a'
def Gi:caps ix (sel π σ)=ix.map fun i=>(((π[i]?).map fun m=>(σ[m]?).join)).join:=by
 unfold caps sel;refine Sm fun i _=>?_
 rw [RN]
def bA (π cs ix:Uq):Uq:=cs++ix.map fun i=>(π[i]?).getD 0
def vO (hix:∀ i∈ix,i < π.length)(aV:∀ c∈cs,c∉π)(a:Agree cs σ σ0)(n:∀ c∈cs,σ0[c]?=some none):List.replicate cs.length none++caps ix (sel π σ)=sel (bA π cs ix) σ0:=by
 unfold bA;rw [Gi];unfold sel;rw [Rw,RT];congr 1
 ·refine (List.eq_replicate_iff.mpr ⟨RD ..,fun x hx=>?_⟩).symm
  obtain ⟨c,hc,rfl⟩:=RI.mp hx;rw [n c hc];rfl
 ·refine Sm fun i hi=>?_
  have l:=hix i hi;show ((π[i]?).map fun m=>(σ[m]?).join).join=(σ0[(π[i]?).getD 0]?).join
  rw [RS l];show (σ[π[i]]?).join=(σ0[π[i]]?).join;rw [a.2 π[i] fun z=>aV _ z (UB l)]
def Bj {rest:Tp}{vs NB:Us}{ix:Uq}{di:DI}{t:Tg}{c:DT}{r:DC}(B:cT X scope vs NB ix)(hc:X.calm=true)(hcs:cs.length=vs.length)(hix:∀ i∈ix,i < π.length)(aV:∀ c∈cs,c∉π)(nd:(bA π cs ix).Nodup)
  (hi:SI X Ex π tg iter di)(ht:∀ (C:Addr)(s:Shared)(H:Hp)(fp:Uh),eo (X.block scope C NB s H fp) (bA π cs ix) tg t)(hts:∀ i∈t.slots,i∈cs)(hif:∀ (C:Addr)(s:Shared)(H:Hp)(fp:Uh),fV (X.block scope C NB s H fp) E0 (bA π cs ix) ifs c)
  (hr:∀ (C:Addr)(s:Shared)(H:Hp)(fp:Uh)(D:Addr),SL (X.block scope C NB s H fp) (bA π cs ix) cs D elt (⟨tg,iter,ifs,0⟩:: rest) scope pos 1 r)
  (ha:∀ g∈rest,g.is_async=0)(hs:∀ v,foldedSetIterable iter X.env v=pure v){w:(V->Hp->Prop)->St->Hp->Prop}
  (hw:∀ {wi:TI}{G:TG}{tt:TT}{tr:TL}{σ:St}{H:Hp}{Q:VK},PI X tg iter wi->(∀ (C:Addr)(s:Shared)(H:Hp)(fp:Uh),PG (X.block scope C NB s H fp) tg G)->(∀ (C:Addr)(s:Shared)(H:Hp)(fp:Uh),oB (X.block scope C NB s H fp) ifs tt) ->
   (∀ (C:Addr)(s:Shared)(H:Hp)(fp:Uh)(D:Addr),PL (X.block scope C NB s H fp) D elt (⟨tg,iter,ifs,0⟩:: rest) scope pos 1 tr)->lH wi vs.length ix G tt tr σ H Q->w Q σ H)
  (g:Gh)(x:XC)(E:En)(σ:St)(H Hm:Hp)(F:Nat->Uh)(P:Ut)(Q:VK)(hx:XL X Ex x g)(R:Rl X.K g E σ H Hm F)(p:br cs di t c r x E P)
  (q:∀ E' k v u H' Hm' F' fp,P E' k v->Rl X.K g E' σ H' Hm' F'->aj Hm Hm'->Tm X.K g F' H' Hm' k u v fp->Q u H'):w Q (sel π σ) H:=by
 obtain ⟨wi,hpi,hwi⟩:=hi;refine hw (wi:=wi) (G:=fun v σ H Q=>∀ (C:Addr)(s:Shared)(H2:Hp)(fp:Uh),WG (X.block scope C NB s H2 fp) tg v σ H Q) (tt:=fun σ H Q=>∀ (C:Addr)(s:Shared)(H2:Hp)(fp:Uh),uv (X.block scope C NB s H2 fp) ifs σ H Q)
  (tr:=fun ys σ H Q=>∀ (C:Addr)(s:Shared)(H2:Hp)(fp:Uh)(D:Addr),WL (X.block scope C NB s H2 fp) D elt (⟨tg,iter,ifs,0⟩:: rest) scope pos 1 ys σ H Q) hpi (fun C s H2 fp pins s' σ H v u Q I r h=>h C s H2 fp pins s' u I r) (fun C s H2 fp pins s' σ H Q I h=>h C s H2 fp pins s' I)
  (fun C s H2 fp D h1 h2 h3 pins s' σ H ys its nn Q fin Qf E hp I rv hz h hf=>h C s H2 fp D h1 h2 h3 pins s' its nn fin Qf E hp I rv hz hf) ?_
 refine hwi g x E σ H Hm F _ _ hx R p fun E1 xs J H1 Hm1 F1 p1 R1 s1 it1=>?_
 obtain ⟨E0',I,hcl,i0,step,fin⟩:=p1;obtain ⟨σ0,F0,R0,a0,n0⟩:=R1.bD hcl;rw [<- hcs,vO hix aV a0 fun c hc=>(n0 c hc).1]
 refine sU (cs:=cs) (t:=t) (c:=c) (r:=r) hts it1 R0 .nil i0 (fun h1 h2 h3 h4 C s H2 fp=>?_) (fun h1 h2 h3 C s H2 fp=>(hif C s H2 fp).ok XL.no h1 h2 h3) (fun h1 h2 h3 h4 C s H2 fp D=>hr C s H2 fp D g _ _ _ _ _ _ _ _ _ h1 h2 h3 h4) step fun E' dys' ys' σ' H' Hm' F' i R' s' r' a' p hp=>?_
 ·obtain ⟨G,g1,g2⟩:=rj (X:=X.block scope C NB s H2 fp) hc B.nd nd (ht C s H2 fp);exact WG.of g1 (g2 h1 h2 h3 h4)
 ·obtain ⟨E2,hcl2,p2⟩:=fin _ _ i;obtain ⟨σ2,F2,R2,a2,n2⟩:=R'.bD hcl2;have R3:=R2.agree (cs:=cs) ((a0.trans a').trans a2).symm fun c hc=>(n2 c hc).2
  have s2:=bZ (o:=.lst ys') hp;have R4:=R3.grow (H':=upd H' p (.lst ys')) s2 (aj.refl _) (R3.sub.trans s2) (fun i a ha=>R3.off i a ha) fun _ _=>.inl rfl
  refine q _ _ _ _ _ Hm' F2 [p] p2 R4 (s1.trans s') ⟨.ow aL r',fun a ha=>?_,fun a ha i=>?_,fun a ha=>?_⟩
  ·rw [RH.mp ha];exact R3.lG hp
  ·rw [RH.mp ha];exact R3.fresh hp
  ·rw [RH.mp ha];exact R3.fj hp
end
end Dv
namespace L2
open PySem PySem.Spec PyProof.Rows
structure cS (X:Cx)(scope:Scope) (x:Str)(vs NB:Us)(ix:Uq):Prop where
 kind:scope.kind=.function
 cell:∀ y∈scope.names,y.2=.cell->y.1=x
 names:∀ y∈scope.names,y.2=.local->scope.names.lookup y.1=some .local
 free:∀ y,(y,NameKind.free)∈scope.names->(X.env.kindOf y=some .cell\/X.env.kindOf y=some .free)
 zu:(x,NameKind.free)∉scope.names
 var:scope.names.lookup x=some .cell
 nb:NB=vs++ix.map fun i=>X.N.getD i ""
 nd:NB.Nodup
 cap:∀ i∈ix,∃ y,X.N[i]?=some y/\scope.names.lookup y=some .free
 cf:∀ (n:Nat)(acc:List (Str×Addr)),cellsFrom n scope.names acc=(x,n)::acc
 pc:∀ h:Heap,pushCells h scope.names=h.push oK
section
variable {M:Model}{A:Around}{E:Tn}{s:Shared}{X:Cx}{scope:Scope}{x:Str}{vs NB:Us}{ix:Uq}
def Qc {g:Addr}(B:cS X scope x vs NB ix)
  (q:Q { scope:=scope,locals:=s.heap.objs.size,globals:=g,cells:=(x,s.heap.objs.size + 1)::cl,qual:=ql,func:=none,code:=env.code,frame:=env.frame,builtins:=env.builtins } { s with heap:=(s.heap.push { cls:=.type "dict",data:=.dict #[] }).push oK }) :
  wpAny M A (newFunctionEnv scope g cl [] ql none .none (some env)) Q E s:=by
 simp only [newFunctionEnv,Option.isSome_some,if_true];refine R8 (wpAny_alloc (?_:_))
 refine R8 (wpAny_layCells _ (fun name kind cells=>by cases hkc:kind == NameKind.cell <;> simp [hkc]) _ _ _ _ (?_:_))
 rw [B.cf,B.pc];rw [show ({ s with heap:=s.heap.push { cls:=.type "dict",data:=.dict #[] } }:Shared).heap.objs.size=s.heap.objs.size + 1 from Heap.size_push ..]
 rw [List.forIn_nil];exact R8 (R9 (R9 q))
end
section
variable {X:Cx}{scope:Scope}{x:Str}{vs NB:Us}{ix:Uq}{pins:UG}{σ:St}{H2:Hp}{s2:Shared}{fp:Uh}
def cS.clos (B:cS X scope x vs NB ix)(I2:Inv X pins σ H2 s2):closureFor scope X.env=pure (cu X.env.cells scope.names []) :=
 mR fun n hn=>I2.ok.has n (B.free n hn)
def cS.look (B:cS X scope x vs NB ix)(I2:Inv X pins σ H2 s2){c c':Addr}(h:((x,c)::cu X.env.cells scope.names []).lookup y=some c'):(y=x/\c'=c)\/X.env.cells.lookup y=some c':=by
 rw [SD] at h;cases q:(y == x) with
 | true =>
  rw [q] at h;exact .inl ⟨by simpa using q,(Option.some.inj h).symm⟩
 | false =>
  rw [q] at h;rcases nC _ _ h with ⟨m,e⟩ | e
  ·obtain ⟨c2,hc⟩:=I2.ok.has y (B.free y m);rw [hc] at e ⊢;exact .inr (congrArg some e)
  ·cases e
def cS.apart (B:cS X scope x vs NB ix)(I2:Inv X pins σ H2 s2){c c' b:Addr}(hc:s2.heap.objs.size<=c)(h:((x,c)::cu X.env.cells scope.names []).lookup y=some c')(hb:b < s2.heap.objs.size)(nb:∀ z d,X.env.cells.lookup z=some d->d≠b):c'≠b:=by
 rcases B.look I2 h with ⟨_,rfl⟩ | e
 ·exact TF (RY hb hc)
 ·exact nb y c' e
def Ez (B:cS X scope x vs NB ix)(I2:Inv X pins σ H2 s2){C c:Addr}(hC:s2.heap.objs.size<=C)(hc:s2.heap.objs.size<=c)(f2:∀ b∈fp,dY X pins H2 b)(ft:∀ b∈fp,b < s2.heap.objs.size):(X.aR scope x C c NB s2 H2 fp).Ok where
 mod:=I2.ok.mod
 kind:=B.kind
 glob:=I2.ok.glob
 blt:=I2.ok.blt
 above:=hC
 inj:=fun a b d h1 h2=>by
  rcases B.look I2 h1 with ⟨e1,e2⟩ | e1 <;> rcases B.look I2 h2 with ⟨e3,e4⟩ | e3
  ·rw [e1,e3]
  ·exact absurd (RY (tL I2 e3) (e2 ▸ hc)) (SA _)
  ·exact absurd (RY (tL I2 e1) (e4 ▸ hc)) (SA _)
  ·exact I2.ok.inj a b d e1 e3
 has:=fun y hy=>by
  show ∃ d,((x,c)::cu X.env.cells scope.names []).lookup y=some d;rw [SD];cases q:(y == x) with
  | true=>exact ⟨c,rfl⟩
  | false =>
   have nx:y≠x:=fun z=>by rw [z,beq_self_eq_true] at q;cases q
   have key:∀ k,(relabel scope X.env).names.lookup y=some k->(k=.cell\/k=.free)->∃ d,(cu X.env.cells scope.names []).lookup y=some d:=fun k hk kk=>by
    rcases sZ (names:=scope.names) hk with e | ⟨e,_⟩
    ·rcases kk with rfl | rfl
     ·exact absurd (B.cell _ (dO e) rfl) nx
     ·exact fN _ _ (.inl (dO e))
    ·exact fN _ _ (.inl (dO e))
   rcases hy with e | e
   ·exact key _ e (.inl rfl)
   ·exact key _ e (.inr rfl)
 Fb:=fun y d z e=>by
  rcases B.look I2 e with ⟨_,rfl⟩ | e
  ·exact hc
  ·have z:(y == x)=true:=z;have yx:y=x:=by simpa using z
   have h:((x,c)::cu X.env.cells scope.names []).lookup y=some d:=‹_›;rw [SD,z] at h;cases h;exact hc
 hd:=I2.ok.hd
 frames:=I2.ok.frames
 stk:=.inl rfl
 PF:=fun b hb=>⟨RQ (RY (ft b hb) hC),fun y d e=>B.apart I2 hc e (ft b hb) (f2 b hb).2.2.2.2.1⟩
 bs:=I2.bs
 wu:=Rz I2.ok.wu I2.sz
 vF:=fun b o e hb=>by
  rcases (f2 b hb).2.2.2.1 with z | z
  ·exact I2.ok.vF b o e z
  ·exact absurd (RY (RL (I2.ok.bs b o e).1) z) (SA _)
 CB:=fun b hb z=>by
  rcases RJ.mp (I2.kh b z) with e | e
  ·exact (f2 b hb).2.1 e
  ·exact (f2 b hb).2.2.1 e
 lZ:=I2.stack
 Au:=I2.rD
def BO (B:cS X scope x vs NB ix)(I2:Inv X pins σ H2 s2){C c D:Addr}{tk:Nat}(hC:s2.heap.objs.size<=C)(hD:s2.heap.objs.size<=D)(hDC:D≠C)(hc:s2.heap.objs.size<=c)(hcc:h1.IsCell c none)(f2:∀ b∈fp,dY X pins H2 b)(ft:∀ b∈fp,b < s2.heap.objs.size)
  (old:∀ b o,s2.heap.get? b=some o->h1.get? b=some o)(hn:h1.Ns C m)(ho:h1.get? D=some oD)(hcl:∀ v,oD.data≠.cell v) :
  Inv (X.aR scope x C c NB s2 H2 fp) [(D,oD)] (List.replicate vs.length none++caps ix σ) H2 { s2 with heap:=h1,toks:=tk } where
 ok:=Ez B I2 hC hc f2 ft
 os:=rfl
 bare:=I2.bare
 base:=Un.kept old
 loc:=by
  refine ⟨m,hn,fun i y v e1 e2 _=>?_⟩
  have e1:NB[i]?=some y:=e1
  by_cases li:i < vs.length
  ·rw [U4 (by rw [Sg];exact li),List.getElem?_replicate,if_pos li] at e2
   cases e2
  ·obtain ⟨j,rfl⟩:∃ j,i=vs.length + j:=⟨i - vs.length,by omega⟩
   have e2:(caps ix σ)[j]?=some (some v):=by
    rw [Ti (by rw [Sg];omega),Sg,UY] at e2
    exact e2
   rw [B.nb] at e1;have e1:(ix.map fun i=>X.N.getD i "")[j]?=some y:=by
    rw [Ti (by omega),UY] at e1
    exact e1
   rw [RN] at e1;unfold caps at e2;rw [RN] at e2;cases q:ix[j]? with
   | none=>rw [q] at e1;cases e1
   | some i =>
    rw [q] at e1 e2;obtain ⟨z,hz,fz⟩:=B.cap i (Rt q);have ey:y=z:=by
     have w:X.N.getD i ""=y:=Option.some.inj e1;rw [<- w,Sk,hz];rfl
    subst ey;have e2:(σ[i]?).join=some v:=Option.some.inj e2;have es:σ[i]?=some (some v):=by
     cases w:σ[i]? with
     | none=>rw [w] at e2;cases e2
     | some o=>rw [w] at e2;exact congrArg some e2
    have fk:=B.free y (dO fz);have vis:ko X.env.scope y:=.inr fk;obtain ⟨mm,_,hl⟩:=I2.loc;obtain ⟨u,ru,lk⟩:=hl i y v hz es vis;refine ⟨u,ru,.inr ⟨?_,?_⟩⟩
    ·rcases oX (env:=X.env) (names:=scope.names) fz with e | ⟨_,e⟩
     ·exact .inr e
     ·exact .inl e
    ·rcases lk with ⟨lk,_⟩ | ⟨_,d,hd,hcell⟩
     ·rcases fk with fk | fk
      ·rw [lk] at fk;cases fk
      ·rw [lk] at fk;cases fk
     ·obtain ⟨c',hc'⟩:=fN (cells:=X.env.cells) scope.names [] (.inl (dO fz));have nx:(y == x)=false:=by
       cases q:(y == x) with
       | false=>rfl
       | true =>
        have e:y=x:=by simpa using q
        exact absurd (e ▸ dO fz) B.zu
      have hc2:((x,c)::cu X.env.cells scope.names []).lookup y=some c':=by
       rw [SD,nx];exact hc'
      have e3:X.env.cells.lookup y=some c':=by
       rcases B.look I2 hc2 with ⟨e,_⟩ | e
       ·rw [e,beq_self_eq_true] at nx;cases nx
       ·exact e
      rw [hd] at e3;cases e3;obtain ⟨oc,g1,g2⟩:=hcell;exact ⟨d,hc2,oc,old _ _ g1,g2⟩
 cell:=fun y d e=>by
  rcases B.look I2 e with ⟨_,rfl⟩ | e
  ·exact ⟨none,hcc⟩
  ·obtain ⟨v,o,g1,g2⟩:=I2.cell y d e;exact ⟨v,o,old _ _ g1,g2⟩
 free:=I2.hok.fresh hC
 ju:=fun y d e=>by
  rcases B.look I2 e with ⟨_,rfl⟩ | e
  ·exact I2.hok.fresh hc
  ·exact I2.ju y d e
 pin:=fun p hp=>by
  have e:p=(D,oD):=by simpa [Cx.aR] using hp
  subst e;refine ⟨ho,I2.hok.fresh hD,hDC,fun z=>?_,hcl⟩
  rcases RJ.mp (I2.kh D z) with e | e
  ·have e:D=X.env.locals:=e;exact absurd (RY I2.lt (e ▸ hD)) (SA _)
  ·exact I2.G3 hD e
 hok:=I2.hok.kept old
 len:=by
  show (List.replicate vs.length none++caps ix σ).length=NB.length;rw [B.nb,RW,RW,yH,RD,Sg]
end
section
variable {X:Cx}{scope:Scope}{x:Str}{vs:Us}{NB:Us}{ix:Uq}
def uq {elt tg iter:Expr}{ifs:Ul}{rest:Tp}{pos:Pos}{g:TG}{tt:TT}{tr:TL}{J:It}{it:Addr}{tn:Nat->Heap->Prop}{fp:Uh}{pins:UG}{σ:St}{H2:Hp}{s2:Shared}{E:Tn}{RR:Value->Addr->Result->Shared->Prop}{Qr:VK}(B:cS X scope x vs NB ix)(hc:X.calm=true)
  (hg:∀ (C c:Addr)(s:Shared)(H:Hp)(fp:Uh),PG (X.aR scope x C c NB s H fp) tg g)(ht:∀ (C c:Addr)(s:Shared)(H:Hp)(fp:Uh),oB (X.aR scope x C c NB s H fp) ifs tt)
  (hr:∀ (C c:Addr)(s:Shared)(H:Hp)(fp:Uh)(D:Addr),PL (X.aR scope x C c NB s H fp) D elt (⟨tg,iter,ifs,0⟩:: rest) scope pos 1 tr)
  (ha:∀ g∈rest,g.is_async=0)(I2:Inv X pins σ H2 s2)(T:Turn X.prog X.w X.K tg J fp it tn)(st2:tn 0 s2.heap)(f2:∀ b∈fp,dY X pins H2 b)(h:yF J g tt tr [] (List.replicate vs.length none++caps ix σ) H2 fun ys _ H'=>∀ p,H' p=none->Qr (.ref p) (upd H' p (.lst ys)))
  (hRR:∀ (D C:Addr)(Hf:Hp)(s':Shared)(m':UE),Inv X pins σ Hf s'->s'.heap.Ns C m'->dY X pins Hf C->Qr (.ref D) Hf->RR (.ref D) C (.ok .next) s') :
  wpAny (model X.prog X.w) X.A (newList []) (fun acc s3=>wpAny (model X.prog X.w) X.A (newFunctionEnv scope X.env.globals (cu X.env.cells scope.names []) [] X.env.qual none .none (some X.env)) (fun cenv s4 =>
   codeAny (model X.prog X.w) X.A (.compStart (.ListComp elt (⟨tg,iter,ifs,0⟩:: rest) scope pos) 0 (.ref it) acc { cenv with scope:=relabel scope X.env }) (RR acc cenv.locals) s4) E s3) E s2:=by
 obtain ⟨W,⟨m0,w0⟩,turn⟩:=h;have ha':∀ g∈(⟨tg,iter,ifs,0⟩:Comprehension)::rest,g.is_async=0:=fun g hg=>by
  rcases RJ.mp hg with rfl | hg
  ·rfl
  ·exact ha g hg
 refine SX (Qc B ?_);dsimp only;generalize eG:s2.heap.push { cls:=.type "list",dict:=none,data:=.seq ([]:Ug).toArray }=G;obtain ⟨h1,eh1⟩:∃ h1,h1=(G.push { cls:=.type "dict",data:=.dict #[] }).push { cls:=.type "cell",data:=.cell none }:=⟨_,rfl⟩;rw [<- eh1];have hC:G.objs.size=s2.heap.objs.size + 1:=by rw [<- eG,Heap.size_push]
 have hDC:s2.heap.objs.size≠G.objs.size:=by rw [hC];exact RQ (Nat.lt_succ_self _)
 have hCle:s2.heap.objs.size<=G.objs.size:=by rw [hC];exact Nat.le_succ _
 have up:∀ b o,G.get? b=some o->h1.get? b=some o:=fun b o e=>by
  rw [eh1];exact RO _ (RO _ e)
 have old:∀ b o,s2.heap.get? b=some o->h1.get? b=some o:=fun b o e=>up b o (eG ▸ RO _ e)
 have hacc:h1.get? s2.heap.objs.size=some (dU [] 0):=up _ _ (eG ▸ Rx _ rfl);have hns:h1.Ns G.objs.size (fun _=>none):=by
  rw [eh1];exact (Heap.Ns.new G (.type "dict")).keeps fun b o e=>RO _ e
 have hcc:h1.IsCell (G.objs.size + 1) none:=by
  rw [eh1];refine ⟨oK,?_,rfl⟩;have e:=Rx (G.push { cls:=.type "dict",data:=.dict #[] }) (o:=oK) rfl;rw [Heap.size_push] at e;exact e
 have hcle:s2.heap.objs.size<=G.objs.size + 1:=Nat.le_succ_of_le hCle;have ft:∀ b∈fp,b < s2.heap.objs.size:=fun b hb=>by
  obtain ⟨o,e,_⟩:=T.obj _ _ st2 b hb;exact RL e
 have cD:∀ y c,(X.aR scope x G.objs.size (G.objs.size + 1) NB s2 H2 fp).env.cells.lookup y=some c->c≠s2.heap.objs.size:=fun y c e z=>by
  rcases B.look I2 e with ⟨_,e4⟩ | e4
  ·rw [e4,hC] at z;exact absurd z (TF (Nat.lt_succ_of_lt (Nat.lt_succ_self _)))
  ·exact SA _ (z ▸ tL I2 e4)
 have loop:∀ s3:Shared,s3={ s2 with heap:=h1 } ->
   codeAny (model X.prog X.w) X.A (.compLoop (.ListComp elt (⟨tg,iter,ifs,0⟩:: rest) scope pos) 0 (.ref it) (.ref s2.heap.objs.size) (compEnvC scope ((x,G.objs.size + 1)::cu X.env.cells scope.names []) G.objs.size X.env))
    (RR (.ref s2.heap.objs.size) G.objs.size) s3:=by
  rintro s3 rfl;have I3:=BO (tk:=s2.toks) B I2 hCle (RE _) hDC hcle hcc f2 ft old hns hacc (fun v q=>by cases q)
  have st3:tn 0 h1:=T.keep _ _ _ st2 fun b _ o e=>old b o e
  have fy:∀ {H':Hp}{oD:Obj},(∀ b∈fp,H' b=none)->∀ b∈fp,dY (X.aR scope x G.objs.size (G.objs.size + 1) NB s2 H2 fp) [(s2.heap.objs.size,oD)] H' b:=fun {H' oD} hn b hb=>by
   refine ⟨hn b hb,RQ (RY (ft b hb) hCle),fun z=>?_,.inl hb,fun y c e=>B.apart I2 hcle e (ft b hb) (f2 b hb).2.2.2.2.1,fun p hp=>?_⟩
   ·rcases RJ.mp (I2.kh b z) with e | e
    ·exact (f2 b hb).2.1 e
    ·exact (f2 b hb).2.2.1 e
   ·have e:p=(s2.heap.objs.size,oD):=by simpa [Cx.aR] using hp
    subst e;exact Ne.symm (RQ (ft b hb))
  refine pK (k:=0) rfl ha' (fun n s'=>∃ i ys its nn σ' H',W i n ys σ' H'/\Inv (X.aR scope x G.objs.size (G.objs.size + 1) NB s2 H2 fp) [(s2.heap.objs.size,dU its nn)] σ' H' s'/\tn i s'.heap/\(∀ b∈fp,H' b=none)/\Vals ys its/\ys.length<=sizeLine)
   ?_ m0 ⟨0,[],[],0,_,H2,w0,I3,st3,fun b hb=>(f2 b hb).1,.nil,S8 _⟩
  rintro n s' ⟨i,ys,its,nn,σ',H',w',I',st',fr',rv,hz⟩;rcases turn i n ys σ' H' w' with ⟨stop,q⟩ | ⟨go,Nx,hNx,step⟩
  ·refine Rr (T.done (X.aR scope x G.objs.size (G.objs.size + 1) NB s2 H2 fp) rfl rfl rfl hc i _ s' _ H' (fun _ _=>False) I' (fy fr') st' stop) (fun r s4 ⟨hr',I4⟩=>?_) fun _ _ z=>z.elim
   subst hr';have I5:=CN I2 f2 (RE _) I4 rv hz;obtain ⟨m4,hn4,_⟩:=I4.loc;have hfree:H' s2.heap.objs.size=none:=(I4.pin (s2.heap.objs.size,dU its nn) (by show _∈[]++[(s2.heap.objs.size,dU its nn)];simp)).2.1
   have fC:dY X pins (upd H' s2.heap.objs.size (.lst ys)) G.objs.size:=I2.qU hCle (by
    rw [ao (Ne.symm hDC)];exact I4.free)
   exact hRR _ _ _ s4 m4 I5 hn4 fC (q _ hfree)
  ·refine Rr (T.item (X.aR scope x G.objs.size (G.objs.size + 1) NB s2 H2 fp) rfl rfl rfl hc i _ s' _ H' (fun _ _=>False) I' (fy fr') st' go) (fun r s4 ⟨u,hr',h4⟩=>?_) fun _ _ z=>z.elim
   subst hr';refine Rr h4 (fun _ s4 ⟨v,H5,I5,r5,y5,st5,fr5⟩=>?_) fun _ _ z=>z.elim
   have pIt:∀ b∈fp,∃ o,s4.heap.get? b=some o/\∀ v,o.data≠.cell v:=T.obj _ _ st5;have I5':=I5.pinned (fy fr5) pIt;refine Rr (hg _ _ _ _ _ _ s4 σ' H5 v u _ I5' r5 (step v H5 y5)) (fun _ s6 ⟨σ6,H6,I6,q6⟩=>?_) fun _ _ z=>z.elim
   refine Rr (ht _ _ _ _ _ _ s6 σ6 H6 _ I6 q6) (fun b s7 ⟨H7,I7,q7⟩=>?_) fun _ _ z=>z.elim
   have stays:∀ {s9:Shared}{H9:Hp}{σ9:St}{oD:Obj},Inv (X.aR scope x G.objs.size (G.objs.size + 1) NB s2 H2 fp) ((s2.heap.objs.size,oD)::fR fp s4.heap) σ9 H9 s9->tn (i + 1) s9.heap/\(∀ b∈fp,H9 b=none)/\Inv (X.aR scope x G.objs.size (G.objs.size + 1) NB s2 H2 fp) [(s2.heap.objs.size,oD)] σ9 H9 s9:=fun {s9 H9 σ9 oD} I9=>by
    refine ⟨T.keep _ _ _ st5 fun b hb o e=>(I9.pin (b,o) (Ry _ (RG _ (eN hb e)))).1,fun b hb=>?_,I9.jU fun p hp'=>I9.pin p (Ry _ ?_)⟩
    ·obtain ⟨o,e,d⟩:=pIt b hb;exact (I9.pin (b,o) (Ry _ (RG _ (eN hb e)))).2.1
    ·rw [RH.mp hp'];exact RA
   cases b with
   | false =>
    rw [if_neg RX] at q7 ⊢;obtain ⟨m',hm,w7⟩:=hNx _ _ _ q7;obtain ⟨g1,g2,g3⟩:=stays I7;exact ⟨m',hm,i + 1,ys,its,nn,σ6,H7,w7,g3,g1,g2,rv,hz⟩
   | true =>
    rw [if_pos rfl] at q7 ⊢;intro fin' Qf' hf';refine hr _ _ _ _ _ s2.heap.objs.size (RE _) cD (fun _ _ z=>z) (fR fp s4.heap) s7 σ6 H7 ys its nn Nx fin' Qf' _ (fun p hp'=>?_) I7 rv hz q7 fun s8 ys8 its8 nn8 σ8 H8 I8 rv8 hz8 n8=>?_
    ·have hp'':p∈fR fp s4.heap:=hp';exact RQ (ft _ (mJ hp'').1)
    ·obtain ⟨m',hm,w8⟩:=hNx _ _ _ n8;obtain ⟨g1,g2,g3⟩:=stays I8;exact hf' s8 ⟨m',hm,i + 1,ys8,its8,nn8,σ8,H8,w8,g3,g1,g2,rv8,hz8⟩
 exact codeAny_compStart_list (loop _ rfl) (T.self _ 0 _ _ _ (T.keep _ _ _ st2 fun b _ o e=>old b o e) (loop _ rfl))
def GP {elt tg iter:Expr}{ifs:Ul}{rest:Tp}{pos:Pos}{wi:TI}{g:TG}{tt:TT}{tr:TL}(B:cS X scope x vs NB ix)(hc:X.calm=true)(hi:PI X tg iter wi)
  (hg:∀ (C c:Addr)(s:Shared)(H:Hp)(fp:Uh),PG (X.aR scope x C c NB s H fp) tg g)(ht:∀ (C c:Addr)(s:Shared)(H:Hp)(fp:Uh),oB (X.aR scope x C c NB s H fp) ifs tt)
  (hr:∀ (C c:Addr)(s:Shared)(H:Hp)(fp:Uh)(D:Addr),PL (X.aR scope x C c NB s H fp) D elt (⟨tg,iter,ifs,0⟩:: rest) scope pos 1 tr)
  (ha:∀ g∈rest,g.is_async=0:=by decide)(hs:∀ v,foldedSetIterable iter X.env v=pure v:=by intro _;rfl):PE X (.ListComp elt (⟨tg,iter,ifs,0⟩:: rest) scope pos) (lH wi vs.length ix g tt tr):=by
 intro pins s σ H Q I h;rw [eval_ListComp];refine wpAny_comprehension_free (use:=none) rfl hs (B.clos I) B.kind B.names (aN (hi pins s σ H _ I h) fun v s1 h1=>aN h1 fun itv s2 h2=>?_)
 obtain ⟨it,fp,tn,J,H2,e,I2,T,st2,f2,w⟩:=h2;subst e;refine uq (Qr:=Q) (RR:=fun acc C=>compPost (model X.prog X.w) X.A X.xe none (EP X pins σ Q) acc C) B hc hg ht hr ha I2 T st2 f2 w fun D C Hf s' m' I' hn' fC q=>?_
 refine ⟨m',hn',fun h'' hs''=>⟨.ref D,Hf,?_,rfl,q⟩⟩
 obtain ⟨c0,c1,c2,c3,c4,c5⟩:=fC;exact I'.turned (it:=C) (t':=s'.toks) (fun b o hb e=>hs''.extBut b o hb e) c0 c1 c3 c4 c5
def Gu {elt tg iter:Expr}{ifs:Ul}{rest:Tp}{pos py spos:Pos}{wi:TI}{g:TG}{tt:TT}{tr:TL}{j:Nat}{y:Str}(hN:X.N.Nodup)(hj:X.N[j]?=some y)(hy:X.env.scope.names.lookup y=some .local)(B:cS X scope x vs NB ix)(hc:X.calm=true)(hi:PI X tg iter wi)
  (hg:∀ (C c:Addr)(s:Shared)(H:Hp)(fp:Uh),PG (X.aR scope x C c NB s H fp) tg g)(ht:∀ (C c:Addr)(s:Shared)(H:Hp)(fp:Uh),oB (X.aR scope x C c NB s H fp) ifs tt)
  (hr:∀ (C c:Addr)(s:Shared)(H:Hp)(fp:Uh)(D:Addr),PL (X.aR scope x C c NB s H fp) D elt (⟨tg,iter,ifs,0⟩:: rest) scope pos 1 tr)
  (hsw:swapsWith (.ListComp elt (⟨tg,iter,ifs,0⟩:: rest) scope pos) (some (.Name y py)) spos.line X.env=pure true)
  (ha:∀ g∈rest,g.is_async=0:=by decide)(hs:∀ v,foldedSetIterable iter X.env v=pure v:=by intro _;rfl):PS X (.Assign [.Name y py] (.ListComp elt (⟨tg,iter,ifs,0⟩:: rest) scope pos) spos) (CO (lH wi vs.length ix g tt tr) (mY j)):=by
 intro pins s σ H Dn I h;rw [exec_Assign_Name_used _ _ _ _ hsw];refine R8 (T9 (R8 ?_));show wpAny (model X.prog X.w) X.A (comprehension (.ListComp elt (⟨tg,iter,ifs,0⟩:: rest) scope pos) scope X.env _ (newList []) false (eval iter X.env) (some (assign (.Name y py) X.env)) >>= fun _=>pure ()) _ _ s
 refine R8 (aN (wpAny_comprehension_free (use:=some (assign (.Name y py) X.env)) (Q:=fun _ s'=>SP X pins Dn .next s') rfl hs (B.clos I) B.kind B.names (aN (hi pins s σ H _ I h) fun v s1 h1=>aN h1 fun itv s2 h2=>?_)) fun _ s' q=>R9 (R9 q))
 obtain ⟨it,fp,tn,J,H2,e,I2,T,st2,f2,w⟩:=h2;subst e;refine uq (Qr:=fun x H1=>mY j x σ H1 Dn.nx) (RR:=fun acc C=>compPost (model X.prog X.w) X.A X.xe (some (assign (.Name y py) X.env)) (fun _ s'=>SP X pins Dn .next s') acc C) B hc hg ht hr ha I2 T st2 f2 w fun D C Hf s' m' I' hn' fC q=>?_
 obtain ⟨c0,c1,c2,c3,c4,c5⟩:=fC;show wpAny (model X.prog X.w) X.A (assign (.Name y py) X.env (.ref D)) _ _ s';refine wpAny_assign_Name (qP I' hN hj (.inl hy) (v:=.ref D) rfl (fun s'' I'' ⟨a,sb,ha⟩=>?_) (.inr hy))
 have hCa:C≠a:=by
  rcases ha with e | e
  ·rw [e];exact c1
  ·exact fun z=>c4 y a e z.symm
 refine ⟨m',hn'.sameBut sb hCa,fun h3 hs3=>⟨_,Hf,?_,q⟩⟩
 exact I''.turned (it:=C) (t':=s''.toks) (fun b o hb e=>hs3.extBut b o hb e) c0 c1 c3 c4 c5
end
end L2
namespace Dv
open PySem L2 PySem.W
section
variable {X:Cx}{Ex:XK}{π cs:Uq}{elt tg iter:Expr}{ifs:Ul}{scope:Scope}{pos:Pos}
def zj {cx:Str}{rest:Tp}{vs NB:Us}{ix:Uq}{di:DI}{t:Tg}{c:DT}{r:DC}(B:cS X scope cx vs NB ix)(hc:X.calm=true)(hcs:cs.length=vs.length)(hix:∀ i∈ix,i < π.length)(aV:∀ c∈cs,c∉π)(nd:(bA π cs ix).Nodup)
  (hi:SI X Ex π tg iter di)(ht:∀ (C c':Addr)(s:Shared)(H:Hp)(fp:Uh),eo (X.aR scope cx C c' NB s H fp) (bA π cs ix) tg t)(hts:∀ i∈t.slots,i∈cs)(hif:∀ (C c':Addr)(s:Shared)(H:Hp)(fp:Uh),fV (X.aR scope cx C c' NB s H fp) E0 (bA π cs ix) ifs c)
  (hr:∀ (C c':Addr)(s:Shared)(H:Hp)(fp:Uh)(D:Addr),SL (X.aR scope cx C c' NB s H fp) (bA π cs ix) cs D elt (⟨tg,iter,ifs,0⟩:: rest) scope pos 1 r)
  (ha:∀ g∈rest,g.is_async=0)(hs:∀ v,foldedSetIterable iter X.env v=pure v){w:(V->Hp->Prop)->St->Hp->Prop}
  (hw:∀ {wi:TI}{G:TG}{tt:TT}{tr:TL}{σ:St}{H:Hp}{Q:VK},PI X tg iter wi->(∀ (C c':Addr)(s:Shared)(H:Hp)(fp:Uh),PG (X.aR scope cx C c' NB s H fp) tg G)->(∀ (C c':Addr)(s:Shared)(H:Hp)(fp:Uh),oB (X.aR scope cx C c' NB s H fp) ifs tt) ->
   (∀ (C c':Addr)(s:Shared)(H:Hp)(fp:Uh)(D:Addr),PL (X.aR scope cx C c' NB s H fp) D elt (⟨tg,iter,ifs,0⟩:: rest) scope pos 1 tr)->lH wi vs.length ix G tt tr σ H Q->w Q σ H)
  (g:Gh)(x:XC)(E:En)(σ:St)(H Hm:Hp)(F:Nat->Uh)(P:Ut)(Q:VK)(hx:XL X Ex x g)(R:Rl X.K g E σ H Hm F)(p:br cs di t c r x E P)
  (q:∀ E' k v u H' Hm' F' fp,P E' k v->Rl X.K g E' σ H' Hm' F'->aj Hm Hm'->Tm X.K g F' H' Hm' k u v fp->Q u H'):w Q (sel π σ) H:=by
 obtain ⟨wi,hpi,hwi⟩:=hi;refine hw (wi:=wi) (G:=fun v σ H Q=>∀ (C c':Addr)(s:Shared)(H2:Hp)(fp:Uh),WG (X.aR scope cx C c' NB s H2 fp) tg v σ H Q) (tt:=fun σ H Q=>∀ (C c':Addr)(s:Shared)(H2:Hp)(fp:Uh),uv (X.aR scope cx C c' NB s H2 fp) ifs σ H Q)
  (tr:=fun ys σ H Q=>∀ (C c':Addr)(s:Shared)(H2:Hp)(fp:Uh)(D:Addr),WL (X.aR scope cx C c' NB s H2 fp) D elt (⟨tg,iter,ifs,0⟩:: rest) scope pos 1 ys σ H Q) hpi (fun C c' s H2 fp pins s' σ H v u Q I r h=>h C c' s H2 fp pins s' u I r) (fun C c' s H2 fp pins s' σ H Q I h=>h C c' s H2 fp pins s' I)
  (fun C c' s H2 fp D h1 h2 h3 pins s' σ H ys its nn Q fin Qf E hp I rv hz h hf=>h C c' s H2 fp D h1 h2 h3 pins s' its nn fin Qf E hp I rv hz hf) ?_
 refine hwi g x E σ H Hm F _ _ hx R p fun E1 xs J H1 Hm1 F1 p1 R1 s1 it1=>?_
 obtain ⟨E0',I,hcl,i0,step,fin⟩:=p1;obtain ⟨σ0,F0,R0,a0,n0⟩:=R1.bD hcl;rw [<- hcs,vO hix aV a0 fun c hc=>(n0 c hc).1]
 refine sU (cs:=cs) (t:=t) (c:=c) (r:=r) hts it1 R0 .nil i0 (fun h1 h2 h3 h4 C c' s H2 fp=>?_) (fun h1 h2 h3 C c' s H2 fp=>(hif C c' s H2 fp).ok XL.no h1 h2 h3) (fun h1 h2 h3 h4 C c' s H2 fp D=>hr C c' s H2 fp D g _ _ _ _ _ _ _ _ _ h1 h2 h3 h4) step fun E' dys' ys' σ' H' Hm' F' i R' s' r' a' p hp=>?_
 ·obtain ⟨G,g1,g2⟩:=rj (X:=X.aR scope cx C c' NB s H2 fp) hc B.nd nd (ht C c' s H2 fp);exact WG.of g1 (g2 h1 h2 h3 h4)
 ·obtain ⟨E2,hcl2,p2⟩:=fin _ _ i;obtain ⟨σ2,F2,R2,a2,n2⟩:=R'.bD hcl2;have R3:=R2.agree (cs:=cs) ((a0.trans a').trans a2).symm fun c hc=>(n2 c hc).2
  have s2:=bZ (o:=.lst ys') hp;have R4:=R3.grow (H':=upd H' p (.lst ys')) s2 (aj.refl _) (R3.sub.trans s2) (fun i a ha=>R3.off i a ha) fun _ _=>.inl rfl
  refine q _ _ _ _ _ Hm' F2 [p] p2 R4 (s1.trans s') ⟨.ow aL r',fun a ha=>?_,fun a ha i=>?_,fun a ha=>?_⟩
  ·rw [RH.mp ha];exact R3.lG hp
  ·rw [RH.mp ha];exact R3.fresh hp
  ·rw [RH.mp ha];exact R3.fj hp
def Ni {rest:Tp}{vs NB:Us}{ix:Uq}{di:DI}{t:Tg}{c:DT}{r:DC}(B:cT X scope vs NB ix)(hc:X.calm=true)(hcs:cs.length=vs.length)(hix:∀ i∈ix,i < π.length)(aV:∀ c∈cs,c∉π)(nd:(bA π cs ix).Nodup)
  (hi:SI X Ex π tg iter di)(ht:∀ (C:Addr)(s:Shared)(H:Hp)(fp:Uh),eo (X.block scope C NB s H fp) (bA π cs ix) tg t)(hts:∀ i∈t.slots,i∈cs)(hif:∀ (C:Addr)(s:Shared)(H:Hp)(fp:Uh),fV (X.block scope C NB s H fp) E0 (bA π cs ix) ifs c)
  (hr:∀ (C:Addr)(s:Shared)(H:Hp)(fp:Uh)(D:Addr),SL (X.block scope C NB s H fp) (bA π cs ix) cs D elt (⟨tg,iter,ifs,0⟩:: rest) scope pos 1 r)(ha:∀ g∈rest,g.is_async=0)(hs:∀ v,foldedSetIterable iter X.env v=pure v):SE X Ex π (.ListComp elt (⟨tg,iter,ifs,0⟩:: rest) scope pos) (br cs di t c r):=fun g x E σ H Hm F P Q hx R p q =>
 Bj B hc hcs hix aV nd hi ht hts hif hr ha hs (w:=fun Q σ H=>WE X (.ListComp elt (⟨tg,iter,ifs,0⟩:: rest) scope pos) σ H Q) (fun h1 h2 h3 h4 h5=>WE.of (HN B hc h1 h2 h3 h4 ha hs) h5) g x E σ H Hm F P Q hx R p q
def O3 {j:Nat}{y:Str}{py spos:Pos}(hN:X.N.Nodup)(hj:X.N[j]?=some y)(hy:X.env.scope.names.lookup y=some .local){rest:Tp}{vs NB:Us}{ix:Uq}{di:DI}{t:Tg}{c:DT}{r:DC}(B:cT X scope vs NB ix)(hc:X.calm=true)(hcs:cs.length=vs.length)(hix:∀ i∈ix,i < (aQ X).length)(aV:∀ c∈cs,c∉aQ X)(nd:(bA (aQ X) cs ix).Nodup)
  (hi:SI X Ex (aQ X) tg iter di)(ht:∀ (C:Addr)(s:Shared)(H:Hp)(fp:Uh),eo (X.block scope C NB s H fp) (bA (aQ X) cs ix) tg t)(hts:∀ i∈t.slots,i∈cs)(hif:∀ (C:Addr)(s:Shared)(H:Hp)(fp:Uh),fV (X.block scope C NB s H fp) E0 (bA (aQ X) cs ix) ifs c)
  (hr:∀ (C:Addr)(s:Shared)(H:Hp)(fp:Uh)(D:Addr),SL (X.block scope C NB s H fp) (bA (aQ X) cs ix) cs D elt (⟨tg,iter,ifs,0⟩:: rest) scope pos 1 r)(ha:∀ g∈rest,g.is_async=0)(hs:∀ v,foldedSetIterable iter X.env v=pure v)
  (hsw:swapsWith (.ListComp elt (⟨tg,iter,ifs,0⟩:: rest) scope pos) (some (.Name y py)) spos.line X.env=pure true):S1 X Ex (.Assign [.Name y py] (.ListComp elt (⟨tg,iter,ifs,0⟩:: rest) scope pos) spos) (aS j (br cs di t c r)):=by
 rw [qY];intro g D' E σ H Hm F D hx R p nx rt;refine Bj B hc hcs hix aV nd hi ht hts hif hr ha hs (w:=fun Q τ H=>(Q=fun u H1=>D.nx (τ.set j (some u)) H1)->WS X (.Assign [.Name y py] (.ListComp elt (⟨tg,iter,ifs,0⟩:: rest) scope pos) spos) D τ H)
  (fun h1 h2 h3 h4 h5 e=>by
   subst e;exact WS.of (yO hN hj hy B hc h1 h2 h3 h4 hsw ha hs) h5) g D'.xc E σ H Hm F _ _ hx R p (fun E' k v u H' Hm' F' fp p' R' s' T=>?_) rfl
 rw [kY Sl (iT (bJ hj)) (R'.len ▸ iS p'.1)];exact nx _ _ _ _ _ p'.2 (R'.put T p'.1) s'
def NG {cx:Str}{rest:Tp}{vs NB:Us}{ix:Uq}{di:DI}{t:Tg}{c:DT}{r:DC}(B:cS X scope cx vs NB ix)(hc:X.calm=true)(hcs:cs.length=vs.length)(hix:∀ i∈ix,i < π.length)(aV:∀ c∈cs,c∉π)(nd:(bA π cs ix).Nodup)
  (hi:SI X Ex π tg iter di)(ht:∀ (C c':Addr)(s:Shared)(H:Hp)(fp:Uh),eo (X.aR scope cx C c' NB s H fp) (bA π cs ix) tg t)(hts:∀ i∈t.slots,i∈cs)(hif:∀ (C c':Addr)(s:Shared)(H:Hp)(fp:Uh),fV (X.aR scope cx C c' NB s H fp) E0 (bA π cs ix) ifs c)
  (hr:∀ (C c':Addr)(s:Shared)(H:Hp)(fp:Uh)(D:Addr),SL (X.aR scope cx C c' NB s H fp) (bA π cs ix) cs D elt (⟨tg,iter,ifs,0⟩:: rest) scope pos 1 r)(ha:∀ g∈rest,g.is_async=0)(hs:∀ v,foldedSetIterable iter X.env v=pure v):SE X Ex π (.ListComp elt (⟨tg,iter,ifs,0⟩:: rest) scope pos) (br cs di t c r):=fun g x E σ H Hm F P Q hx R p q =>
 zj B hc hcs hix aV nd hi ht hts hif hr ha hs (w:=fun Q σ H=>WE X (.ListComp elt (⟨tg,iter,ifs,0⟩:: rest) scope pos) σ H Q) (fun h1 h2 h3 h4 h5=>WE.of (GP B hc h1 h2 h3 h4 ha hs) h5) g x E σ H Hm F P Q hx R p q
def OI {j:Nat}{y:Str}{py spos:Pos}(hN:X.N.Nodup)(hj:X.N[j]?=some y)(hy:X.env.scope.names.lookup y=some .local){cx:Str}{rest:Tp}{vs NB:Us}{ix:Uq}{di:DI}{t:Tg}{c:DT}{r:DC}(B:cS X scope cx vs NB ix)(hc:X.calm=true)(hcs:cs.length=vs.length)(hix:∀ i∈ix,i < (aQ X).length)(aV:∀ c∈cs,c∉aQ X)(nd:(bA (aQ X) cs ix).Nodup)
  (hi:SI X Ex (aQ X) tg iter di)(ht:∀ (C c':Addr)(s:Shared)(H:Hp)(fp:Uh),eo (X.aR scope cx C c' NB s H fp) (bA (aQ X) cs ix) tg t)(hts:∀ i∈t.slots,i∈cs)(hif:∀ (C c':Addr)(s:Shared)(H:Hp)(fp:Uh),fV (X.aR scope cx C c' NB s H fp) E0 (bA (aQ X) cs ix) ifs c)
  (hr:∀ (C c':Addr)(s:Shared)(H:Hp)(fp:Uh)(D:Addr),SL (X.aR scope cx C c' NB s H fp) (bA (aQ X) cs ix) cs D elt (⟨tg,iter,ifs,0⟩:: rest) scope pos 1 r)(ha:∀ g∈rest,g.is_async=0)(hs:∀ v,foldedSetIterable iter X.env v=pure v)
  (hsw:swapsWith (.ListComp elt (⟨tg,iter,ifs,0⟩:: rest) scope pos) (some (.Name y py)) spos.line X.env=pure true):S1 X Ex (.Assign [.Name y py] (.ListComp elt (⟨tg,iter,ifs,0⟩:: rest) scope pos) spos) (aS j (br cs di t c r)):=by
 rw [qY];intro g D' E σ H Hm F D hx R p nx rt;refine zj B hc hcs hix aV nd hi ht hts hif hr ha hs (w:=fun Q τ H=>(Q=fun u H1=>D.nx (τ.set j (some u)) H1)->WS X (.Assign [.Name y py] (.ListComp elt (⟨tg,iter,ifs,0⟩:: rest) scope pos) spos) D τ H)
  (fun h1 h2 h3 h4 h5 e=>by
   subst e;exact WS.of (Gu hN hj hy B hc h1 h2 h3 h4 hsw ha hs) h5) g D'.xc E σ H Hm F _ _ hx R p (fun E' k v u H' Hm' F' fp p' R' s' T=>?_) rfl
 rw [kY Sl (iT (bJ hj)) (R'.len ▸ iS p'.1)];exact nx _ _ _ _ _ p'.2 (R'.put T p'.1) s'
end
def Bv (K:Frag)(f:DM)(r:V->List V->Hp->VK->Prop):Prop:=∀ (H Hm:Hp)(a:Addr)(xs:List V)(ds:Ub)(vs:List V)(args:Ub)(P:Ub->PyData->Prop)(Q:VK),H a=some (.lst xs)->Hm a=none->aj Hm H->aG K Hm xs ds->aG K Hm vs args->f ds args P ->
 (∀ ys new u v,P new v->aG K Hm ys new->Rp K Hm u v->Q u (upd H a (.lst ys)))->r (.ref a) vs H Q
theorem Fq:∀ {es:List DE}{os:Uu}{vs:List V}{ds:Ub},Got K σ Hm (es.map .ev) os vs->fill (es.map .ev) E os=some ds->aG K Hm vs ds
 | [],_,_,_,.nil,h=>by cases h;exact .nil
 | e::es,_,_,_,.ev (os:=os) r G,h=>by
  have h:(fill (es.map .ev) E os).map (_::·)=some _:=h;cases hf:fill (es.map .ev) E os with
  | none=>rw [hf] at h;cases h
  | some ds =>
   rw [hf] at h;cases h;exact .cons r (Fq G hf)
inductive rX (X:Cx)(Ex:XK)(π:Uq):Ul->List DE->Prop
 | nil:rX X Ex π [] []
 | cons {e:Expr}{d:DE}{es:Ul}{ds:List DE}:SE X Ex π e d->rX X Ex π es ds->rX X Ex π (e::es) (d::ds)
def rX.as (h:rX X Ex π es ds):aY X Ex π es (ds.map .ev):=by
 induction h with
 | nil=>exact .nil
 | cons h _ ih=>exact .ev h ih
def EX (ns:es.all noStar=true)(l:es.length < 30):((backTo cpos (starEach es env)).all (fun x=>!x.1) && (backToKw cpos (keywordEach [] env)).all (fun x=>x.1.isSome) && decide (es.length + ([]:List Keyword).length + (if ([]:List Keyword).isEmpty then 0 else 1) < 30))=true:=by
 have h:=jM (pos:=cpos) (env:=env) ns;rw [List.any_eq_false] at h;rw [RK,RK,RP];refine ⟨⟨fun x hx=>by simpa using h x hx,rfl⟩,Rq ?_⟩
 show es.length + 0 + 0 < 30;omega
section
variable {X:Cx}{Ex:XK}{π:Uq}
def HU {i:Nat}(h:jJ E i=true):∃ p ds,E[i]?=some (some (.ow p,.list ds)):=by
 unfold jJ at h;split at h
 ·rename_i p ds e;exact ⟨p,ds,e⟩
 ·cases h
def O7 {x name:Str}{id:String}{p apos cpos:Pos}{es:Ul}{ds:List DE}{f:DM}{r:V->List V->Hp->VK->Prop}{i j:Nat}(hm:wg X id r)(D:Bv X.K f r)(slot:Slot "list" name id)(hty:typeOf (.builtin id)=pure (.type "method_descriptor"))
  (hv:PE X (.Name x p) (jL j))(hj:π[j]?=some i)(ns:es.all noStar=true)(l30:es.length < 30)(hline:(apos.endLine == cpos.line)=true)(S:rX X Ex π es ds):SE X Ex π (.Call (.Attribute (.Name x p) name apos) es [] cpos) (uU f i ds):=by
 intro g xc E σ H Hm F P Q hx R h q
 replace h:bK (jJ E i) _:=h
 rw [eE] at h;obtain ⟨ho,h⟩:=h;obtain ⟨p0,ds0,e0⟩:=HU ho;obtain ⟨v,h1,h2⟩:=R.slot i _ _ e0;have hs1:=dm hj h1;have fin:∀ a xs0,v=.ref a->H a=some (.lst xs0)->wz X es (sel π σ) H fun vs H2=>r (.ref a) vs H2 Q:=fun a xs0 ev _=>by
  subst ev;refine oz hx S.as R h fun E1 os vs H1 Hm1 F1 p1 R1 s1 G=>?_
  replace p1:FE f i (ds.map .ev) E1 os P:=p1
  unfold FE at p1;rw [<- bS,gn] at p1;obtain ⟨args,hf,p1⟩:=p1;split at p1
  rotate_left
  ·exact p1.elim
  rename_i p1' ds1 e1;have ra:=Fq G hf;obtain ⟨v',g1,g2⟩:=R1.slot i _ _ e1;rw [h1] at g1;cases g1;generalize hfi:F1 i=fi at g2;cases g2 with
  | @ow _ _ xs1 _ ha1 hr1 =>
   refine D H1 Hm1 a xs1 ds1 vs args _ Q ha1 (R1.off i a (by rw [hfi];exact RA)) R1.sub hr1 ra p1 fun ys new u v p2 ry ru=>?_
   obtain ⟨a',xs',k1,k2,k3,k4,R2⟩:=R1.chg e1 ry;rw [h1] at k1;cases k1;exact q _ _ _ _ _ _ _ [] p2 R2 s1 (Tm.sh ru)
 generalize hfi:F i=fi at h2;cases h2 with
 | @ow _ a xs _ ha hr =>
  cases es with
  | nil=>exact WE.of (LZ PySem.F.plainAttrs_list slot hty hm hv rfl hline) ⟨_,hs1,.inl ⟨rfl,_,bT.of ha⟩,fin a xs rfl ha⟩
  | cons e es =>
   have ns':=ns;rw [RU,RK] at ns';exact WE.of (xw PySem.F.plainAttrs_list slot hty hm hv (ff ns) rfl (EX ns l30) hline (bR ns'.1) (jM ns'.2)) ⟨_,hs1,.inl ⟨rfl,_,bT.of ha⟩,fin a xs rfl ha⟩
def fT:DM:=fun ds args P=>match args with
 | [d]=>ds.length < sizeLine/\P (ds++[d]) .none
 | _=>False
def jf:Bv K fT AL:=by
 intro H Hm a xs ds vs args P Q ha _ s r ra h q;unfold fT at h;split at h
 ·obtain ⟨x,rfl,h1⟩:=d7 ra;exact ⟨a,xs,x,rfl,rfl,ha,by rw [r.len];exact h.1,q _ _ _ _ h.2 (r.snoc h1) .bF⟩
 ·exact h.elim
def JX:DM:=fun ds args P=>match args with
 | [.list es]=>ds.length + es.length<=sizeLine/\P (ds++es) .none
 | _=>False
theorem aG.dropLast (r:aG K H vs ds):aG K H vs.dropLast ds.dropLast:=by
 rw [List.dropLast_eq_take,List.dropLast_eq_take,r.len];exact r.take _
theorem aG.erase:∀ {vs:List V}{ds:Ub} (i:Nat),aG K H vs ds->aG K H (vs.eraseIdx i) (ds.eraseIdx i)
 | _,_,_,.nil=>.nil
 | _,_,0,.cons _ r=>r
 | _,_,i + 1,.cons h r=>.cons h (r.erase i)
def vo:DM:=fun ds args P=>match args with
 | []=>∃ d,ds[ds.length - 1]?=some d/\P ds.dropLast d
 | [.int i]=>(-(2 ^ 63)<=i/\i < 2 ^ 63)/\∃ n d,seqIndex? i ds.length=some n/\ds[n]?=some d/\P (ds.eraseIdx n) d
 | _=>False
def A7:wg X "list.pop" fun x vs H Q=>HB x vs H Q\/yd x vs H Q:=fun pins s σ H x xs v us Q I a b z=>z.elim (NY pins s σ H x xs v us Q I a b) (GK pins s σ H x xs v us Q I a b)
def AK:Bv K vo fun x vs H Q=>HB x vs H Q\/yd x vs H Q:=by
 intro H Hm a xs ds vs args P Q ha _ s r ra h q;unfold vo at h;split at h
 ·cases ra;obtain ⟨d,e,h⟩:=h;obtain ⟨v,ev,rv⟩:=r.get e;refine .inl ⟨a,xs,v,rfl,rfl,ha,by rw [r.len];exact ev,q _ _ _ _ h r.dropLast rv⟩
 ·obtain ⟨x,rfl,h1⟩:=d7 ra;cases h1;obtain ⟨⟨b1,b2⟩,n,d,e1,e2,h⟩:=h;obtain ⟨v,ev,rv⟩:=r.get e2;exact .inr ⟨a,xs,_,n,v,rfl,rfl,ha,b1,b2,by rw [r.len];exact e1,ev,q _ _ _ _ h (r.erase n) rv⟩
 ·exact h.elim
end
def pJ:bq a=bq b↔a=b:=by
 cases a <;> cases b <;> simp [bq]
theorem v7:∀ {a b:List Key},a.map bq=b.map bq↔a=b
 | [],[]=>by simp
 | [],_::_=>by simp
 | _::_,[]=>by simp
 | a::as,b::bs=>by simp [pJ,v7 (a:=as) (b:=bs)]
def tE {a b:List Key}:PyData.tuple (a.map bq)=.tuple (b.map bq)↔a=b:=by
 rw [PyData.tuple.injEq];exact v7
def rq (h:mQ w=true):∃ k,w=bq k:=by
 cases w with
 | int i=>exact ⟨.inl i,rfl⟩
 | str x=>exact ⟨.inr x,rfl⟩
 | _=>cases h
theorem kr:∀ {ks:Ub},ks.all mQ=true->∃ k:List Key,ks=k.map bq
 | [],_=>⟨[],rfl⟩
 | w::ks,h=>by
  rw [RU,RK] at h;obtain ⟨k,rfl⟩:=rq h.1;obtain ⟨l,rfl⟩:=kr h.2;exact ⟨k::l,rfl⟩
section
variable {K:Frag}{H:Hp}
def ue (r:Rp K H u (bq k)):u=kV k:=by
 cases k with
 | inl i =>
  have r:Rp K H u (.int i):=r;cases r;rfl
 | inr x =>
  have r:Rp K H u (.str x):=r;cases r;rfl
theorem sC:∀ {us:List V}{k:List Key},aG K H us (k.map bq)->us=k.map kV
 | _,[],r=>by cases r;rfl
 | _,k::ks,r=>by
  cases r with
  | cons h t=>rw [ue h,sC t];rfl
def vm {k:List Key}(r:Rp K H u (.tuple (k.map bq))):∃ b,u=.ref b/\H b=some (.tup (k.map kV)):=by
 cases r with
 | tup a r=>exact ⟨_,rfl,by rw [<- sC r];exact a⟩
theorem fG.len:∀ {kvs:List (Key×V)}{ds:TH},fG K H kvs ds->kvs.length=ds.length
 | _,_,.nil=>rfl
 | _,_,.cons _ r=>congrArg (· + 1) r.len
theorem fm.len:∀ {kvs:List (List Key×V)}{ds:TH},fm K H kvs ds->kvs.length=ds.length
 | _,_,.nil=>rfl
 | _,_,.cons _ r=>congrArg (· + 1) r.len
theorem fG.val:∀ {kvs:List (Key×V)}{ds:TH},fG K H kvs ds->(dS ds (bq k)=none/\cg kvs k=none)\/∃ v d,cg kvs k=some v/\dS ds (bq k)=some d/\Rp K H v d
 | _,_,.nil=>.inl ⟨rfl,rfl⟩
 | _,_,.cons (k:=k') (v:=v) (d:=d) (kvs:=kvs) (ds:=ds) h r=>by
  by_cases c:k'=k
  ·subst c;exact .inr ⟨v,d,by unfold cg;rw [Uc (by simp)];rfl,by unfold dS;rw [Uc (by simp)];rfl,h⟩
  ·have c':¬ bq k'=bq k:=fun z=>c (pJ.mp z)
   have e1:cg ((k',v)::kvs) k=cg kvs k:=by unfold cg;rw [Ud (by simpa using c)]
   have e2:dS ((bq k',d)::ds) (bq k)=dS ds (bq k):=by unfold dS;rw [Ud (by simpa using c')]
   rw [e1,e2];exact r.val
theorem fm.val:∀ {kvs:List (List Key×V)}{ds:TH},fm K H kvs ds->(dS ds (.tuple (k.map bq))=none/\cg kvs k=none)\/∃ v d,cg kvs k=some v/\dS ds (.tuple (k.map bq))=some d/\Rp K H v d
 | _,_,.nil=>.inl ⟨rfl,rfl⟩
 | _,_,.cons (k:=k') (v:=v) (d:=d) (kvs:=kvs) (ds:=ds) h r=>by
  by_cases c:k'=k
  ·subst c;exact .inr ⟨v,d,by unfold cg;rw [Uc (by simp)];rfl,by unfold dS;rw [Uc (by simp)];rfl,h⟩
  ·have c':¬ PyData.tuple (k'.map bq)=.tuple (k.map bq):=fun z=>c (tE.mp z)
   have e1:cg ((k',v)::kvs) k=cg kvs k:=by unfold cg;rw [Ud (by simpa using c)]
   have e2:dS ((.tuple (k'.map bq),d)::ds) (.tuple (k.map bq))=dS ds (.tuple (k.map bq)):=by unfold dS;rw [Ud (by simpa using c')]
   rw [e1,e2];exact r.val
theorem fG.any:∀ {kvs:List (Key×V)}{ds:TH},fG K H kvs ds->(kvs.any fun kv=>decide (kv.1=k))=ds.any fun kv=>decide (kv.1=bq k)
 | _,_,.nil=>rfl
 | _,_,.cons (k:=k') h r=>by
  rw [TJ,TJ,r.any,decide_eq_decide.mpr (pJ (a:=k') (b:=k)).symm]
theorem fm.any {k:List Key}:∀ {kvs:List (List Key×V)}{ds:TH},fm K H kvs ds->(kvs.any fun kv=>decide (kv.1=k))=ds.any fun kv=>decide (kv.1=.tuple (k.map bq))
 | _,_,.nil=>rfl
 | _,_,.cons (k:=k') h r=>by
  rw [TJ,TJ,r.any,decide_eq_decide.mpr (tE (a:=k') (b:=k)).symm]
theorem fG.app (k:Key)(h:Rp K H v d):∀ {kvs:List (Key×V)}{ds:TH},fG K H kvs ds->fG K H (kvs++[(k,v)]) (ds++[(bq k,d)])
 | _,_,.nil=>.cons h .nil
 | _,_,.cons g r=>.cons g (r.app k h)
theorem fm.app (k:List Key)(h:Rp K H v d):∀ {kvs:List (List Key×V)}{ds:TH},fm K H kvs ds->fm K H (kvs++[(k,v)]) (ds++[(.tuple (k.map bq),d)])
 | _,_,.nil=>.cons h .nil
 | _,_,.cons g r=>.cons g (r.app k h)
def fG.put (k:Key)(h:Rp K H v d)(r:fG K H kvs ds):fG K H (putK kvs k v) (putD ds (bq k) d):=by
 unfold putK putD;rw [r.any (k:=k)];split
 ·have go:∀ {kvs:List (Key×V)}{ds:TH},fG K H kvs ds->fG K H (kvs.map fun kv=>if kv.1=k then (kv.1,v) else kv) (ds.map fun kv=>if kv.1=bq k then (kv.1,d) else kv):=by
   intro kvs
   induction kvs with
   | nil=>intro ds r;cases r;exact .nil
   | cons p kvs ih =>
    intro ds r;cases r with
    | @cons k' v' d' _ ds g r =>
     rw [RZ,RZ]
     by_cases c:k'=k
     ·rw [if_pos c,if_pos (congrArg bq c)];exact .cons h (ih r)
     ·rw [if_neg c,if_neg fun z=>c (pJ.mp z)]
      exact .cons g (ih r)
  exact go r
 ·exact r.app k h
def fm.put (k:List Key)(h:Rp K H v d)(r:fm K H kvs ds):fm K H (putK kvs k v) (putD ds (.tuple (k.map bq)) d):=by
 unfold putK putD;rw [r.any (k:=k)];split
 ·have go:∀ {kvs:List (List Key×V)}{ds:TH},fm K H kvs ds->fm K H (kvs.map fun kv=>if kv.1=k then (kv.1,v) else kv) (ds.map fun kv=>if kv.1=.tuple (k.map bq) then (kv.1,d) else kv):=by
   intro kvs
   induction kvs with
   | nil=>intro ds r;cases r;exact .nil
   | cons p kvs ih =>
    intro ds r;cases r with
    | @cons k' v' d' _ ds g r =>
     rw [RZ,RZ]
     by_cases c:k'=k
     ·rw [if_pos c,if_pos (by rw [c])]
      exact .cons h (ih r)
     ·rw [if_neg c,if_neg fun z=>c (tE.mp z)]
      exact .cons g (ih r)
  exact go r
 ·exact r.app k h
end
section
variable {X:Cx}{Ex:XK}{π:Uq}
inductive HX (neg:Bool) (x:V) (y:V)(H:Hp)(Q:VK):Prop
 | mk:∀ a o,(y=.ref a)->(jS H a x o)->(Q (.bl (if neg then !o.isSome else o.isSome)) H)->HX neg x y H Q
def Nm (neg:Bool):R2:=fun x y H Q=>HX neg x y H Q
def LA (hu:X.A.units + 64 < cLine):bX X (compareOp .In) (Nm false):=by
 intro pins s σ H x y v u Q I rx ry h;obtain ⟨a,o,rfl,g,q⟩:=h;cases ry;exact Qt (by omega) I g rx fun s3 I3=>⟨.bl o.isSome,H,I3,rfl,q⟩
def iC (neg:Bool):DR:=fun ds P=>match ds with
 | [.tuple ks,.dict ((.none,.none)::kvs)]=>ks.all mQ=true/\P .sh (.bool (if neg then !(dS kvs (.tuple ks)).isSome else (dS kvs (.tuple ks)).isSome))
 | [w,.dict kvs]=>(mQ w=true/\t8 kvs=true)/\P .sh (.bool (if neg then !(dS kvs w).isSome else (dS kvs w).isSome))
 | ds=>D9 neg ds P
def NT (K:Frag)(neg:Bool):R2:=fun x y H Q=>GO K neg x y H Q\/Nm neg x y H Q
def Eh (hu:X.A.units + 64 < cLine):bX X (compareOp .In) (NT X.K false):=bX.or (MK hu) (LA hu)
def tF (r:Rp K H u (.dict kvs))(h:t8 kvs=true):∃ a es,u=.ref a/\H a=some (.dK es)/\fG K H es kvs:=by
 cases r with
 | dk a r=>exact ⟨_,_,rfl,a,r⟩
 | dt a r=>cases h
def xW (r:Rp K H u (.dict ((.none,.none)::kvs))):∃ a es,u=.ref a/\H a=some (.dT es)/\fm K H es kvs:=by
 generalize e:((PyData.none,PyData.none)::kvs)=ds at r;cases r with
 | dk a r =>
  cases r with
  | nil=>cases e
  | @cons k _ _ _ _ _ _=>cases k <;> cases e
 | dt a r=>cases e;exact ⟨_,_,rfl,a,r⟩
def Av (neg:Bool):cY K (iC neg) (r2 (NT K neg)):=by
 intro H Hm vs ds P Q s r h q;unfold iC at h;split at h
 ·rename_i ks kvs;obtain ⟨x,y,rfl,h1,h2⟩:=cW r;obtain ⟨k,rfl⟩:=kr h.1;obtain ⟨b,rfl,hb⟩:=vm h1;obtain ⟨a,es,rfl,ha,rt⟩:=xW h2;refine .inr ⟨a,_,rfl,jS.t (s _ _ ha) (s _ _ hb),?_⟩;have e:(cg es k).isSome=(dS kvs (.tuple (k.map bq))).isSome:=by
   rcases rt.val (k:=k) with ⟨e1,e2⟩ | ⟨v,d,e1,e2,_⟩
   ·rw [e1,e2];rfl
   ·rw [e1,e2];rfl
  rw [e];exact bY.sc q s h.2 (.bl _)
 ·rename_i w kvs _;obtain ⟨x,y,rfl,h1,h2⟩:=cW r;obtain ⟨⟨hk,hp⟩,h⟩:=h;obtain ⟨k,rfl⟩:=rq hk;cases ue h1;obtain ⟨a,es,rfl,ha,rt⟩:=tF h2 hp;refine .inr ⟨a,_,rfl,jS.k (s _ _ ha),?_⟩;have e:(cg es k).isSome=(dS kvs (bq k)).isSome:=by
   rcases rt.val (k:=k) with ⟨e1,e2⟩ | ⟨v,d,e1,e2,_⟩
   ·rw [e1,e2];rfl
   ·rw [e1,e2];rfl
  rw [e];exact bY.sc q s h (.bl _)
 ·rcases vs with _ | ⟨x,_ | ⟨y,_ | ⟨z,t⟩⟩⟩
  ·cases r;exact (show False from h).elim
  ·cases r with | cons _ r=>cases r;exact (by unfold D9 at h;simpa using h:False).elim
  ·exact .inl (Nz neg H Hm _ _ P Q s r h q)
  ·cases r with | cons _ r=>cases r with | cons _ r=>cases r;exact (by unfold D9 at h;simpa using h:False).elim
inductive Iq (x:V) (y:V)(H:Hp)(Q:VK):Prop
 | mk:∀ a v,(x=.ref a)->(jS H a y (some v))->(Q v H)->Iq x y H Q
def LV:R2:=fun x y H Q=>Iq x y H Q
def JJ (hu:X.A.units + 64 < cLine):qb X LV:=by
 intro value slice pins s σ H x y v u Q I rx ry h hs;obtain ⟨a,w,rfl,g,q⟩:=h;cases rx;exact PyProof.Rows.tail_any (Ad I g) PySem.F.slot_dict_getitem.lookup (Fg (by omega) I g ry fun w' s3 I3 rw'=>⟨w,H,I3,rw',q⟩) hs
def atK (xs:Ub) (i:Int):Option PyData:=match i with
 | .ofNat n=>xs[n]?
 | .negSucc n=>fc xs (.negSucc n)
def uB {xs:Ub}{i:Int}:atK xs i=fc xs i:=by
 cases i with
 | ofNat n =>
  unfold atK fc p7;show xs[n]?=_;rw [if_pos (show (0:Int)<=Int.ofNat n from Int.natCast_nonneg n)]
  by_cases h:n < xs.length
  ·rw [if_pos (show Int.ofNat n < (xs.length:Int) from Int.ofNat_lt.mpr h)];rfl
  ·rw [if_neg (show ¬ Int.ofNat n < (xs.length:Int) from fun z=>h (Int.ofNat_lt.mp z))]
   exact S4 (Nat.le_of_not_lt h)
 | negSucc n=>rfl
def bN:DR:=fun ds P=>match ds with
 | [.list xs,.int i]=>aO (atK xs i) (P .sh)
 | [.tuple xs,.int i]=>aO (atK xs i) (P .sh)
 | [.dict ((.none,.none)::kvs),.tuple ks]=>ks.all mQ=true/\∃ d,dS kvs (.tuple ks)=some d/\P .sh d
 | [.dict kvs,w]=>(mQ w=true/\t8 kvs=true)/\∃ d,dS kvs w=some d/\P .sh d
 | ds=>Ek ds P
def K3 (K:Frag):R2:=fun x y H Q=>NZ K x y H Q\/LV x y H Q
def Qa (hu:X.A.units + 64 < cLine):qb X (K3 X.K):=DJ.or (JJ hu)
def KL:cY K bN (r2 (K3 K)):=by
 intro H Hm vs ds P Q s r h q;unfold bN at h;split at h
 ·rename_i xs i;rw [uB,<- bS] at h;obtain ⟨x,y,rfl,_,_⟩:=cW r;exact .inl (yc H Hm _ _ P Q s r h q)
 ·rename_i xs i;rw [uB,<- bS] at h;obtain ⟨x,y,rfl,_,_⟩:=cW r;exact .inl (yc H Hm _ _ P Q s r h q)
 ·rename_i kvs ks;obtain ⟨x,y,rfl,h2,h1⟩:=cW r;obtain ⟨hk,d,hv,h⟩:=h;obtain ⟨k,rfl⟩:=kr hk;obtain ⟨b,rfl,hb⟩:=vm h1;obtain ⟨a,es,rfl,ha,rt⟩:=xW h2;rcases rt.val (k:=k) with ⟨e1,e2⟩ | ⟨v,d',e1,e2,rv⟩
  ·rw [e1] at hv;cases hv
  ·rw [e2] at hv;cases hv;exact .inr ⟨a,v,rfl,by rw [<- e1];exact jS.t (s _ _ ha) (s _ _ hb),bY.sc q s h rv⟩
 ·rename_i kvs w _;obtain ⟨x,y,rfl,h2,h1⟩:=cW r;obtain ⟨⟨hk,hp⟩,d,hv,h⟩:=h;obtain ⟨k,rfl⟩:=rq hk;cases ue h1;obtain ⟨a,es,rfl,ha,rt⟩:=tF h2 hp;rcases rt.val (k:=k) with ⟨e1,e2⟩ | ⟨v,d',e1,e2,rv⟩
  ·rw [e1] at hv;cases hv
  ·rw [e2] at hv;cases hv;exact .inr ⟨a,v,rfl,by rw [<- e1];exact jS.k (s _ _ ha),bY.sc q s h rv⟩
 ·rcases vs with _ | ⟨x,_ | ⟨y,_ | ⟨z,t⟩⟩⟩
  ·cases r;exact (show False from h).elim
  ·cases r with | cons _ r=>cases r;exact (by unfold Ek at h;simpa using h:False).elim
  ·exact .inl (yc H Hm _ _ P Q s r h q)
  ·cases r with | cons _ r=>cases r with | cons _ r=>cases r;exact (by unfold Ek at h;simpa using h:False).elim
def cU:DR:=fun ds P=>match ds with
 | [.dict kvs]=>t8 kvs=true/\P .sh (.int kvs.length)
 | ds=>GG ds P
def Gj:cY K cU fun xs H Q=>(∃ p ys,xs=[.ref p]/\(bT K H p ys\/cP K H p ys)/\Q (.int ys.length) H)\/∃ a kvs,xs=[V.ref a]/\H a=some (.dK kvs)/\Q (.int kvs.length) H:=by
 intro H Hm vs ds P Q s r h q;unfold cU at h;split at h
 ·obtain ⟨x,rfl,h1⟩:=d7 r;obtain ⟨a,es,rfl,ha,rt⟩:=tF h1 h.1;exact .inr ⟨a,es,rfl,s _ _ ha,by rw [rt.len];exact bY.sc q s h.2 (.int _)⟩
 ·exact .inl (J9 H Hm _ _ P Q s r h q)
def GF:DE:=fun _ E Q=>Q E (.dk false) (.dict [])\/Q E (.dt false) (.dict [(.none,.none)])
def Lh (h1:PE X (.Dict [] [] pos) FD)(h2:PE X (.Dict [] [] pos) DF):SE X Ex π (.Dict [] [] pos) GF:=by
 intro g x E σ H Hm F P Q hx R p q;have go:∀ (o:HO)(k:Kd)(d:PyData),P E k d->(∀ p,Own X.K (upd H p o) Hm k (.ref p) d [p])->∀ p,H p=none->Q (.ref p) (upd H p o):=fun o k d p own a ha=>by
  have s2:=bZ (o:=o) ha;have R2:=R.grow (H':=upd H a o) s2 (aj.refl _) (R.sub.trans s2) (fun i b hb=>R.off i b hb) fun _ _=>.inl rfl
  refine q _ _ _ _ _ Hm F [a] p R2 (aj.refl _) ⟨own a,fun b hb=>?_,fun b hb i=>?_,fun b hb=>?_⟩
  ·rw [RH.mp hb];exact R.lG ha
  ·rw [RH.mp hb];exact R.fresh ha
  ·rw [RH.mp hb];exact R.fj ha
 rcases p with p | p
 ·exact WE.of h1 (go _ _ _ p fun _=>.dk aL .nil)
 ·exact WE.of h2 (go _ _ _ p fun _=>.dt aL .nil)
def Rl.GJ {F:Nat->Uh}(R:Rl K g E σ H Hm F){i:Nat}{a:Addr}(e:E[i]?=some (some (k,d)))(hF:F i=[a])(hv:σ[i]?=some (some (.ref a)))(new:Own K (upd H a o) Hm k (.ref a) d' [a])(nt:rK o)(hp:k=.ow true->∃ ds,d'=.list ds) :
  Rl K g (E.set i (some (k,d'))) σ (upd H a o) Hm F:=by
 have ma:a∈F i:=by rw [hF];exact RA
 have na:=R.off i a ma;have up:∀ b,b≠a->upd H a o b=H b:=fun b hb=>ao hb
 have li:=bJ e;exact {
  len:=by rw [SH];exact R.len
  sub:=fun b u hb=>by
   have:b≠a:=fun z=>by rw [z,na] at hb;cases hb
   rw [up b this];exact R.sub b u hb
  slot:=fun j k' d'' e'=>by
   by_cases c:j=i
   ·subst c;rw [aM li] at e';cases e';exact ⟨_,hv,by rw [hF];exact new⟩
   ·rw [au (Ne.symm c)] at e';obtain ⟨u,g1,g2⟩:=R.slot j k' d'' e';refine ⟨u,g1,g2.step (aj.refl _) fun b hb=>up b fun z=>c (R.aV j i a (z ▸ hb) ma)⟩
  off:=R.off
  bW:=fun j b hb=>by
   by_cases c:b=a
   ·rw [c];exact ⟨_,aL,nt⟩
   ·rw [up b c];exact R.bW j b hb
  aV:=R.aV
  fr:=fun q u hq ho=>by
   have:q≠a:=fun z=>by
    rcases R.new i a ma with y | y
    ·exact hq (z ▸ y)
    ·rw [z,y] at ho;cases ho
   rw [up q this];exact R.fr q u hq ho
  new:=R.new
  pin:=fun q hq=>by
   obtain ⟨g1,ds',g2⟩:=R.pin q hq
   by_cases c:i=q.1
   ·rw [<- c] at g1 g2 ⊢;rw [e] at g2;cases g2;obtain ⟨ds,rfl⟩:=hp rfl;exact ⟨g1,ds,aM li⟩
   ·exact ⟨g1,ds',by rw [au c];exact g2⟩
  old:=R.old }
def HW:BF:=fun o i v H Q=>Ic o i v H Q\/∃ a H',o=.ref a/\qt H a i v H'/\Q H'
def OR (hu:X.A.units + 64 < cLine):G4 X HW:=by
 intro pins s σ H o i v ov iv u Q I ro ri rv h;rcases h with h | ⟨a,H',rfl,g,q⟩
 ·exact set_list pins s σ H o i v ov iv u Q I ro ri rv h
 ·cases ro;exact Ef (by omega) I g ri rv fun s' I'=>⟨H',I',q⟩
def JN {F:Nat->Uh}{i:Nat}(R:Rl K g E σ H Hm F)(ho:σ[i]?=some (some o))(rw':Rp K Hm wv w)(rv:Rp K Hm vv v)(h:fH.setI E i w v Qe)
  (q:∀ E' H',Qe E'->Rl K g E' σ H' Hm F->Q H'):HW o wv vv H Q:=by
 unfold fH.setI at h;split at h
 ·rename_i p ds a e;rw [<- bS,xJ] at h;obtain ⟨n,hn,h⟩:=h;cases rw';obtain ⟨v',h1,h2⟩:=R.slot i _ _ e;rw [ho] at h1;cases h1;generalize hfi:F i=fi at h2;cases h2 with
  | @ow _ b xs _ ha hr =>
   refine .inl ⟨b,xs,a,n,rfl,rfl,ha,by rw [hr.len];exact hn,q _ _ h ?_⟩
   exact R.GJ e hfi ho (.ow aL (hr.set rv n)) lB fun _=>⟨_,rfl⟩
 ·rename_i p kvs _ e;obtain ⟨⟨hk,hl⟩,h⟩:=h;obtain ⟨k,rfl⟩:=rq hk;cases ue rw';obtain ⟨v',h1,h2⟩:=R.slot i _ _ e;rw [ho] at h1;cases h1;generalize hfi:F i=fi at h2;cases h2 with
  | @dk _ b es _ ha hr =>
   refine .inr ⟨b,_,rfl,qt.k ha (by rw [hr.len];exact hl),q _ _ h ?_⟩
   exact R.GJ e hfi ho (.dk aL (hr.put k rv)) wV fun z=>by cases z
 ·rename_i p kv kvs ks e;obtain ⟨⟨hk,hl⟩,h⟩:=h;obtain ⟨k,rfl⟩:=kr hk;obtain ⟨c,rfl,hc⟩:=vm rw';obtain ⟨v',h1,h2⟩:=R.slot i _ _ e;rw [ho] at h1;cases h1;generalize hfi:F i=fi at h2;cases h2 with
  | @dt _ b es _ ha hr =>
   refine .inr ⟨b,_,rfl,qt.t ha (R.sub _ _ hc) (by rw [hr.len];exact hl),q _ _ h ?_⟩
   exact R.GJ e hfi ho (.dt aL (hr.put k rv)) rZ fun z=>by cases z
 ·exact h.elim
def O9 {i jx:Nat}(hu:X.A.units + 64 < cLine)(hv:PE X (.Name x p) (jL jx))(hj:(aQ X)[jx]?=some i)(hs:swapsWithSole [.Subscript (.Name x p) j pos'] e pos.line X.env=pure false)
  (ha:∀ v,assign (.Subscript (.Name x p) j pos') X.env v=(do
   let ov <- holding [v] (eval (.Name x p) X.env)
   let iv <- holding [v,ov] (eval j X.env)
   standAt pos'
   holding [v,ov,iv] (setItem ov iv v)
   release [v,ov,iv] []))(hd:SE X Ex (aQ X) e de)(hd2:SE X Ex (aQ X) j dj):S1 X Ex (.Assign [.Subscript (.Name x p) j pos'] e pos) (fH i dj de):=by
 intro g D' E σ H Hm F D hx R pp nx rt;refine WS.of (Ep bg (NX hv bg (OR hu) ha) hs) (hd g D'.xc E σ H Hm F _ _ hx R pp fun E1 k v u H1 Hm1 F1 fp p1 R1 s1 T=>?_)
 replace p1:bK k.fz _:=p1
 rw [eE,eE] at p1;obtain ⟨hk,hh,p1⟩:=p1;obtain ⟨Hm2,s2,R2,r2⟩:=T.cJ R1 hk;obtain ⟨o,ho⟩:=mC R2 hh;refine ⟨o,dm hj ho,hd2 g D'.xc E1 σ H1 Hm2 F1 _ _ hx R2 p1 fun E3 k3 v3 u3 H3 Hm3 F3 fp3 p3 R3 s3 T3=>?_⟩
 replace p3:bK k3.fz _:=p3
 rw [eE] at p3;obtain ⟨hk3,p3⟩:=p3;obtain ⟨Hm4,s4,R4,r4⟩:=T3.cJ R3 hk3;exact JN R4 ho r4 (r2.mono (s3.trans s4)) p3 fun E' H' q R'=>nx _ _ _ _ _ q R' (s1.trans (s2.trans (s3.trans s4)))
end
def ini:Uk->Ub->En
 | true::ms,d::ds=>some (.ow true,d)::ini ms ds
 | false::ms,d::ds=>some (.sh,d)::ini ms ds
 | _,_=>[]
def fL:Uk->En->Option (Ub)
 | [],_=>some []
 | true::ms,some (.ow true,.list es)::E=>(fL ms E).map (.list es::·)
 | false::ms,_::E=>fL ms E
 | _,_=>none
def fP:Uk->Nat->Uh->List (Nat×Addr)
 | true::ms,n,a::as=>(n,a)::fP ms (n + 1) as
 | false::ms,n,as=>fP ms (n + 1) as
 | _,_,_=>[]
def gG:Uk->Uh->List (Uh)
 | true::ms,a::as=>[a]::gG ms as
 | false::ms,as=>[]::gG ms as
 | _,_=>[]
section
variable {K:Frag}{H Hm:Hp}
def Ag.zD (h:Ag K H Hm ms vs ds as):vs.length=ms.length:=by
 induction h with
 | nil=>rfl
 | sh _ _ ih=>rw [Ru,Ru,ih]
 | mu _ _ _ _ _ ih=>rw [Ru,Ru,ih]
def Ag.Qd (h:Ag K H Hm ms vs ds as):(ini ms ds).length=vs.length:=by
 induction h with
 | nil=>rfl
 | sh _ _ ih=>rw [ini,Ru,Ru,ih]
 | mu _ _ _ _ _ ih=>rw [ini,Ru,Ru,ih]
def Ag.pins (h:Ag K H Hm ms vs ds as):∀ n,(fP ms n as).map (·.2)=as:=by
 induction h with
 | nil=>exact fun _=>rfl
 | sh _ _ ih=>exact fun n=>ih (n + 1)
 | @mu _ _ _ _ a _ _ _ _ _ _ _ ih=>exact fun n=>congrArg (a::·) (ih (n + 1))
def Ag.slot (h:Ag K H Hm ms vs ds as):∀ {i:Nat}{k:Kd}{d:PyData},(ini ms ds)[i]?=some (some (k,d))->∃ v,vs[i]?=some v/\Own K H Hm k v d ((gG ms as)[i]?.getD []):=by
 induction h with
 | nil=>intro i k d e;simp [ini] at e
 | @sh ms vs ds as v d r _ ih =>
  intro i k d' e;rw [ini] at e;cases i with
  | zero =>
   cases e;exact ⟨v,rfl,.sh r⟩
  | succ i=>exact ih e
 | @mu ms vs ds as a xs es h1 h2 h3 h4 _ ih =>
  intro i k d' e;rw [ini] at e;cases i with
  | zero =>
   cases e;exact ⟨_,rfl,.ow h1 h2⟩
  | succ i=>exact ih e
def Ag.IK (h:Ag K H Hm ms vs ds as):(∀ (i:Nat) a,a∈(gG ms as)[i]?.getD []->a∈as/\Hm a=none/\∃ xs,H a=some (.lst xs))/\∀ (i j:Nat) a,a∈(gG ms as)[i]?.getD []->a∈(gG ms as)[j]?.getD []->i=j:=by
 induction h with
 | nil=>exact ⟨fun i a h=>by simp [gG] at h,fun i j a h=>by simp [gG] at h⟩
 | @sh ms vs ds as v d r _ ih =>
  refine ⟨fun i a h=>?_,fun i j a h1 h2=>?_⟩
  ·rw [gG] at h;cases i with
   | zero=>simp at h
   | succ i=>exact ih.1 i a h
  ·rw [gG] at h1 h2;cases i with
   | zero=>simp at h1
   | succ i =>
    cases j with
    | zero=>simp at h2
    | succ j=>exact congrArg (· + 1) (ih.2 i j a h1 h2)
 | @mu ms vs ds as a xs es g1 g2 g3 g4 _ ih =>
  refine ⟨fun i b h=>?_,fun i j b h1 h2=>?_⟩
  ·rw [gG] at h;cases i with
   | zero =>
    have h:b∈[a]:=h;rw [RH] at h;subst h;exact ⟨RA,g3,xs,g1⟩
   | succ i =>
    obtain ⟨y1,y2⟩:=ih.1 i b h;exact ⟨RG _ y1,y2⟩
  ·rw [gG] at h1 h2;cases i with
   | zero =>
    have h1:b∈[a]:=h1;rw [RH] at h1;subst h1;cases j with
    | zero=>rfl
    | succ j=>exact absurd (ih.1 j b h2).1 g4
   | succ i =>
    cases j with
    | zero =>
     have h2:b∈[a]:=h2;rw [RH] at h2;subst h2;exact absurd (ih.1 i b h1).1 g4
    | succ j=>exact congrArg (· + 1) (ih.2 i j b h1 h2)
def Ag.pin (h:Ag K H Hm ms vs ds as):∀ n,∀ q∈fP ms n as,∃ i,q.1=n + i/\vs[i]?=some (.ref q.2)/\∃ es,(ini ms ds)[i]?=some (some (.ow true,.list es)):=by
 induction h with
 | nil=>exact fun n q h=>by cases h
 | @sh ms vs ds as v d r _ ih =>
  intro n q h;obtain ⟨i,e,h1,h2⟩:=ih (n + 1) q h;exact ⟨i + 1,by omega,h1,h2⟩
 | @mu ms vs ds as a xs es g1 g2 g3 g4 _ ih =>
  intro n q h;have h:q∈(n,a)::fP ms (n + 1) as:=h;rcases RJ.mp h with rfl | h
  ·exact ⟨0,rfl,rfl,es,rfl⟩
  ·obtain ⟨i,e,h1,h2⟩:=ih (n + 1) q h;exact ⟨i + 1,by omega,h1,h2⟩
def Ag.back {H' Hm':Hp}{E:En}(h:Ag K H Hm ms vs ds as):∀ {n:Nat}{us:Ub},(∀ q∈fP ms n as,∃ es xs,E[q.1]?=some (some (.ow true,.list es))/\H' q.2=some (.lst xs)/\aG K Hm' xs es/\Hm' q.2=none)->fL ms (E.drop n)=some us->Bk K H' Hm' as us:=by
 induction h with
 | nil=>intro n us _ e;cases e;exact .nil
 | @sh ms vs ds as v d r _ ih =>
  intro n us hq e;cases hE:E.drop n with
  | nil=>rw [hE] at e;cases e
  | cons o E' =>
   rw [hE] at e;refine ih (n:=n + 1) hq ?_;rw [show E.drop (n + 1)=E' from by rw [<- List.tail_drop,hE];rfl]
   exact e
 | @mu ms vs ds as a xs es g1 g2 g3 g4 _ ih =>
  intro n us hq e;obtain ⟨es',xs',e1,e2,e3,e4⟩:=hq (n,a) RA;cases hE:E.drop n with
  | nil=>rw [hE] at e;cases e
  | cons o E' =>
   have ho:o=some (.ow true,.list es'):=by
    have:=List.getElem?_drop (xs:=E) (i:=n) (j:=0);rw [hE,Nat.add_zero] at this;have e1:E[n]?=_:=e1;rw [e1] at this;exact Option.some.inj this
   subst ho;rw [hE] at e;have e:(fL ms E').map (PyData.list es'::·)=some us:=e;cases hb:fL ms E' with
   | none=>rw [hb] at e;cases e
   | some us' =>
    rw [hb] at e;cases e;refine .cons e2 e3 e4 (ih (n:=n + 1) (fun q hq'=>hq q (RG _ hq')) ?_)
    rw [show E.drop (n + 1)=E' from by rw [<- List.tail_drop,hE];rfl]
    exact hb
def DA {n:Nat}(h:n<=σ.length):sel (List.range n) σ=σ.take n:=by
 refine Ss fun i=>?_
 unfold sel;rw [RN,List.getElem?_take]
 by_cases c:i < n
 ·rw [SV c,if_pos c];have l:i < σ.length:=by omega
  rw [RS l];show some ((σ[i]?).join)=some σ[i];rw [RS l];rfl
 ·rw [if_neg c,S4 (by rw [Rm];omega)]
  rfl
def Ag.rl (h:Ag K H Hm ms vs ds as)(s:aj Hm H) (m:Nat):Rl K ⟨H,Hm,fP ms 0 as⟩ (ini ms ds++List.replicate m none) (vs.map some++List.replicate m none) H Hm (fun i=>(gG ms as)[i]?.getD []):=by
 have hM:Gh.M ⟨H,Hm,fP ms 0 as⟩=as:=h.pins 0;have inE:∀ {i:Nat}{k:Kd}{d:PyData},(ini ms ds++List.replicate m none)[i]?=some (some (k,d))->(ini ms ds)[i]?=some (some (k,d)):=fun {i k d} e=>by
  rcases SG i (ini ms ds).length with l | l
  ·rwa [U4 l] at e
  ·rw [Ti l] at e;have:=Rt e;have:=List.eq_of_mem_replicate this;cases this
 have inV:∀ {i:Nat}{v:V},vs[i]?=some v->(vs.map some++List.replicate m none)[i]?=some (some v):=fun {i v} e=>by
  have l:=bJ e;rw [U4 (by rw [RD];exact l),RN,e]
  rfl
 exact {
  len:=by rw [RW,RW,h.Qd,RD,Sg,Sg]
  sub:=s
  slot:=fun i k d e=>by
   obtain ⟨v,h1,h2⟩:=h.slot (inE e);exact ⟨v,inV h1,h2⟩
  off:=fun i a ha=>(h.IK.1 i a ha).2.1
  bW:=fun i a ha=>by
   obtain ⟨_,_,xs,e⟩:=h.IK.1 i a ha;exact ⟨_,e,lB⟩
  aV:=fun i j a h1 h2=>h.IK.2 i j a h1 h2
  fr:=fun p o _ e=>e
  new:=fun i a ha=>.inl (by rw [hM];exact (h.IK.1 i a ha).1)
  pin:=fun q hq=>by
   obtain ⟨i,e,h1,es,h2⟩:=h.pin 0 q hq;rw [Nat.zero_add] at e;rw [e];refine ⟨inV h1,es,?_⟩;rw [U4 (bJ h2)];exact h2
  old:=fun _ _=>.inl rfl }
end
section
variable {P:Program}{w:World}{K:Frag}{mg:UE}{base:Heap}
def aT (ms:Uk)(Q:Ub->Kd->PyData->Prop)(x:XC):jt where
 nx:=fun E=>aO (fL ms E) fun us=>Q us .sh .none
 rt:=fun E k v=>aO (fL ms E) fun us=>Q us k v
 xc:=x
def bx {f:Addr}{N ps:Us}{k:Nat}{ms:Uk}{sp:aZ}{d:DS}{m:Nat}(F:uu K x qual st f fd)(S:aH N ps (ay st))(hl:ms.length=ps.length)(hm:N.length<=ps.length + m)
  (hb:∀ (cdv:Value)(A:Around)(outer:List Env)(s:Shared)(H:Hp)(Ex:XK),eT k (A.deeper (PyProof.Rows.envOfC qual (ay st) s.heap.objs.size f cdv))->SS (gW (fY P w) P w K mg base N qual (ay st) f cdv A outer s H Ex) Ex (iN st) d)
  (hd:∀ (ds:Ub)(Q:Ub->Kd->PyData->Prop)(x:XC),sp ds Q x->d (aT ms Q x) (ini ms ds++List.replicate m none)):gO P w K mg base (fY P w) (k + 1) f fd ps (cy mg K ms sp):=by
 refine F.Q8 S (fun vs H Q E h=>?_) (fun cdv A outer s H vs Q E hr h=>?_)
 ·obtain ⟨ds,as,Hm,P',x,_,ag,_⟩:=h;rw [ag.zD,hl]
 ·obtain ⟨ds,as,Hm,P',xc,sm,ag,hsp,ret,exn⟩:=h;refine ⟨_,jC,?_⟩;have R:=ag.rl sm m;have hpre:N.length >= vs.length:=by
   rw [ag.zD,hl];have:=congrArg List.length S.pre;rw [Sj] at this;omega
  have hsel:L2.start N vs=sel (List.range N.length) (vs.map some++List.replicate m none):=by
   have hv:vs.length=ps.length:=by rw [ag.zD,hl]
   rw [DA (by rw [RW,RD,Sg];omega)]
   unfold L2.start;rw [List.take_append,RD,UD (by rw [RD];exact hpre),List.take_replicate]
   congr 2;omega
  rw [hsel];have hM:Gh.M ⟨H,Hm,fP ms 0 as⟩=as:=ag.pins 0;have fin:∀ {E':En}{k:Kd}{v:PyData}{u:V}{σ':St}{H' Hm':Hp}{F':Nat->Uh}{fp:Uh},(aO (fL ms E') fun us=>P' us k v)->Rl K ⟨H,Hm,fP ms 0 as⟩ E' σ' H' Hm' F'->Tm K ⟨H,Hm,fP ms 0 as⟩ F' H' Hm' k u v fp->Q u H':=by
   intro E' k v u σ' H' Hm' F' fp p R' T;rw [<- bS] at p;obtain ⟨us,hus,p⟩:=p;refine ret us k v u H' Hm' fp p (fun a o e=>?_) R'.sub (fun p o hp e=>R'.fr p o (by rw [hM];exact hp) e) (fun a _ ha=>R'.old a ha) ?_ T.own fun a ha=>⟨T.new a ha,T.off a ha⟩
   ·have:H a≠none:=fun z=>by rw [sm _ _ e] at z;cases z
    rcases R'.old a this with e' | ⟨e',_⟩
    ·exact e'.trans e
    ·have e':Hm a=none:=e';rw [e] at e';cases e'
   ·refine ag.back (E:=E') (n:=0) (fun q hq=>?_) (by rw [List.drop_zero];exact hus)
    obtain ⟨h1,es,h2⟩:=R'.pin q hq;obtain ⟨v',h3,h4⟩:=R'.slot _ _ _ h2;have hF:=R'.B7 hq;rw [h1] at h3;cases h3;rw [hF] at h4;cases h4 with
    | ow e1 e2=>exact ⟨es,_,h2,e1,e2,R'.off q.1 q.2 (by rw [hF];exact RA)⟩
  refine hb cdv A outer s H E hr ⟨H,Hm,fP ms 0 as⟩ (aT ms P' xc) _ _ H Hm _ _ (fun c d' C a H' hC hx fr ha hn=>exn c d' C a H' hC hx (fun p o hp ho=>fr p o (by rw [hM];exact hp) ho) ha hn) R (hd ds P' xc hsp) (fun E' σ' H' Hm' F' p R' _=>?_) (fun E' k v u σ' H' Hm' F' fp p R' T=>fin p R' T)
  exact fin (k:=.sh) (v:=.none) (u:=.bF) p R' (Tm.sh .bF)
end
end Dv
namespace L2
open PySem PySem.Spec PyProof.Rows
section
variable {prog:Program}{w:World}{A:Around}{R:Result->Shared->Prop}{it:Addr}{fp wr:Uh}{n:Nat}{P:Nat->Value->Prop}{Z:Nat->Heap->Prop}
def Ji:(toString "min"++toString ".loop":String)="min.loop":=by decide
def KO (Wk:Walks prog w A.in1 it fp wr n P Z)(bt:Nat->Nat->Bool)(cm:CmpOf prog w A.in1 .Lt P bt)(B:Addr)(nB:B∉fp)(kw:List (Str×Value)) :
  ∀ (d j:Nat)(t:Shared)(vb:Value) (c:Nat),n - (j + 1)=d->j + 1<=n->Z (j + 1) t.heap->P (argBest bt j) vb->t.heap.get? B=some { cls:=.type "list",dict:=none,data:=.seq #[vb,vb] c,slots:=#[] } ->
  (∀ v h1 tk,P (argBest bt (n - 1)) v->(∀ b o,b∉wr->b≠B->t.heap.get? b=some o->h1.get? b=some o)->R (.ok (.ret v)) { t with heap:=h1,toks:=tk }) ->
  codeAny (model prog w) A (.builtin "min.loop" ⟨[.ref it,.none,.ref B],kw⟩) R t:=by
 have nBw:B∉wr:=fun z=>nB (Wk.sub _ z)
 intro d
 induction d with
 | zero =>
  intro j t vb c ed lj zt pb eB hR;have en:j + 1=n:=by omega
  refine codeAny_builtin F.entry_min_loop (id (by
   rw [Around.under_plainId T5 _];show wpAny _ A.in1 (seqItems? (.ref B) >>= _) _ _ t;refine R8 (wpAny_seqItems eB rfl (id (show wpAny _ A.in1 (tryCatch (pyNext (.ref it)) _ >>= _) _ _ t from R8 (wpAny_tryCatch (Wk.done t _ _ (en ▸ zt) fun h1 tk k1=>?_)))))
   have eB1:=k1 B _ nBw eB;show wpAny _ A.in1 (updateSeq B (fun _=>#[]) >>= _) _ _ _
   refine R8 (id (wpAny_updateSeq eB1 rfl (R8 (wpAny_letGo (R9 ?_)))));exact hR vb _ tk (by rw [<- en];exact pb) fun b o bw bB e=>(SO _ _ (Ne.symm bB)).trans (k1 b o bw e)))
 | succ d ih =>
  intro j t vb c ed lj zt pb eB hR;have lt:j + 1 < n:=by omega
  refine codeAny_builtin F.entry_min_loop (id (by
   rw [Around.under_plainId T5 _];show wpAny _ A.in1 (seqItems? (.ref B) >>= _) _ _ t;refine R8 (wpAny_seqItems eB rfl (id (show wpAny _ A.in1 (tryCatch (pyNext (.ref it)) _ >>= _) _ _ t from R8 (wpAny_tryCatch (Wk.item (j + 1) t _ _ lt zt fun v h1 tk pv z1 k1=>?_)))))
   have eB1:=k1 B _ nBw eB;show wpAny _ A.in1 (tryCatch (holding [v,v] (richCompare .Lt v vb >>= _)) _ >>= _) _ _ _;refine R8 (wpAny_tryCatch (Sa (R8 (cm (j + 1) (argBest bt j) v vb _ _ _ pv pb (R8 (Sa (Sw (R8 (wpAny_letGo (R9 ?_))))))))));cases hb:bt (j + 1) (argBest bt j) with
   | true =>
    rw [if_pos rfl];refine R8 (id (wpAny_updateSeq eB1 rfl (R8 (wpAny_letGo ?_))));rw [Ji];refine R9 ⟨plainId_quiet T5 _,ih (j + 1) _ v _ (by omega) lt (Wk.frame _ _ _ z1 fun b bf o e=>?_) (by rw [argBest,hb,if_pos rfl];exact pv) (Sz _ eB1 rfl) fun v2 h2 tk2 pv2 k2=>?_⟩
    ·exact (SO _ _ (fun z:B=b=>nB (by rw [z];exact bf))).trans e
    ·exact hR v2 h2 tk2 pv2 fun b o bw bB e=>k2 b o bw bB ((SO _ _ (Ne.symm bB)).trans (k1 b o bw e))
   | false =>
    rw [if_neg RX];refine R8 (wpAny_letGo ?_);rw [Ji];refine R9 ⟨plainId_quiet T5 _,ih (j + 1) _ vb c (by omega) lt z1 (by rw [argBest,hb,if_neg RX];exact pb) eB1 fun v2 h2 tk2 pv2 k2=>?_⟩
    exact hR v2 h2 tk2 pv2 fun b o bw bB e=>k2 b o bw bB (k1 b o bw e)))
def Ci (Wk:Walks prog w A.in1 it fp wr n P Z)(bt:Nat->Nat->Bool)(cm:CmpOf prog w A.in1 .Lt P bt)(B:Addr)(nB:B∉fp)(kw:List (Str×Value))(pos:0 < n){c:Nat}(zt:Z 0 t.heap)
  (eB:t.heap.get? B=some { cls:=.type "list",dict:=none,data:=.seq #[] c,slots:=#[] })
  (hR:∀ v h1 tk,P (argBest bt (n - 1)) v->(∀ b o,b∉wr->b≠B->t.heap.get? b=some o->h1.get? b=some o)->R (.ok (.ret v)) { t with heap:=h1,toks:=tk }) :
  codeAny (model prog w) A (.builtin "min.loop" ⟨[.ref it,.none,.ref B],kw⟩) R t:=by
 have nBw:B∉wr:=fun z=>nB (Wk.sub _ z)
 refine codeAny_builtin F.entry_min_loop (id (by
  rw [Around.under_plainId T5 _];show wpAny _ A.in1 (seqItems? (.ref B) >>= _) _ _ t;refine R8 (wpAny_seqItems eB rfl (id (show wpAny _ A.in1 (tryCatch (pyNext (.ref it)) _ >>= _) _ _ t from R8 (wpAny_tryCatch (Wk.item 0 t _ _ pos zt fun v h1 tk pv z1 k1=>?_)))))
  have eB1:=k1 B _ nBw eB;show wpAny _ A.in1 (updateSeq B (fun _=>#[v,v]) >>= _) _ _ _
  refine R8 (id (wpAny_updateSeq eB1 rfl ?_));rw [Ji];refine R9 ⟨plainId_quiet T5 _,KO Wk bt cm B nB kw _ 0 _ v _ rfl pos (Wk.frame _ _ _ z1 fun b bf o e=>?_) pv (Sz _ eB1 rfl) fun v2 h2 tk2 pv2 k2=>?_⟩
  ·exact (SO _ _ (fun z:B=b=>nB (by rw [z];exact bf))).trans e
  ·exact hR v2 h2 tk2 pv2 fun b o bw bB e=>k2 b o bw bB ((SO _ _ (Ne.symm bB)).trans (k1 b o bw e))))
def Fp (Wk:Walks prog w A.in1 it fp wr 0 P Z)(B:Addr)(nB:B∉fp) (k0:Str)(d:Value){c:Nat}(zt:Z 0 t.heap)
  (eB:t.heap.get? B=some { cls:=.type "list",dict:=none,data:=.seq #[] c,slots:=#[] })
  (hR:∀ h1 tk,(∀ b o,b∉wr->t.heap.get? b=some o->h1.get? b=some o)->R (.ok (.ret d)) { t with heap:=h1,toks:=tk }) :
  codeAny (model prog w) A (.builtin "min.loop" ⟨[.ref it,.none,.ref B],[(k0,d)]⟩) R t:=by
 refine codeAny_builtin F.entry_min_loop (id (by
  rw [Around.under_plainId T5 _];show wpAny _ A.in1 (seqItems? (.ref B) >>= _) _ _ t;refine R8 (wpAny_seqItems eB rfl (id (show wpAny _ A.in1 (tryCatch (pyNext (.ref it)) _ >>= _) _ _ t from R8 (wpAny_tryCatch (Wk.done t _ _ zt fun h1 tk k1=>?_)))))
  show wpAny _ A.in1 (rule _ >>= _) _ _ _;exact R8 (SY (R9 (hR h1 tk k1)))))
end
section
variable {prog:Program}{w:World}{A:Around}{E:Tn}{s:Shared}{l:Addr}{xs:Array (Int×Tok)}
def FA (a d:Value):argsOk "min" ⟨[a],[("default",d)]⟩:=by unfold argsOk;kernel_rfl
def EV (hh:A.handled=none)(hl:s.heap.IsList l (intItems xs))
  (h0:xs.size=0->∀ h' tk,(∀ b o,s.heap.get? b=some o->h'.get? b=some o)->Q d { s with heap:=h',toks:=tk })
  (h:0 < xs.size->∀ v h' tk,(intItems xs)[argBest (fun i j=>decide (numAt xs i < numAt xs j)) (xs.size - 1)]?=some v->(∀ b o,s.heap.get? b=some o->h'.get? b=some o)->Q v { s with heap:=h',toks:=tk }) :
  wpAny (model prog w) A (call (.builtin "min") [.ref l] [("default",d)]) Q E s:=by
 refine wpAny_call (codeAny_call_builtin F.plain_min F.entry_min ?_);have go:wpAny (model prog w) A.in1 (Builtin.«min» ⟨[.ref l],[("default",d)]⟩) (fun fin t=>match fin with
   | .done f=>(match (Except.ok f:Result) with | .ok (.ret v)=>Q v t | .ok _=>False | .error e=>E e t)
   | .again c=>c.quiet=true/\codeAny (model prog w) A c (fun r t=>match r with | .ok (.ret v)=>Q v t | .ok _=>False | .error e=>E e t) t) E s:=by
  show wpAny _ A.in1 (Builtin.Builtins.bindParams "min" ["key","default"] 0 ⟨[],[("default",d)]⟩ >>= _) _ _ s;refine R8 (wpAny_of_eq (show Builtin.Builtins.bindParams "min" ["key","default"] 0 ⟨[],[("default",d)]⟩=pure [none,some d] from rfl) (R8 (R9 (id (R8 (iter_intList hl fun t e st hfp hlI=>R8 (SX ?_)))))))
  subst e;have nS:(s.heap.push { cls:=.type "list_iterator",data:=.fields #[.ref l,.int 0 0] }).objs.size∉[s.heap.objs.size,l]:=fun hm=>SA _ (hfp _ hm)
  have Wk:=Walks.list (prog:=prog) (w:=w) (A:=A.in1) hh s.heap.objs.size l hlI (intItems xs);rw [Ji]
  by_cases c:xs.size=0
  ·have e0:(intItems xs).size=0:=by simpa [intItems] using c
   rw [e0] at Wk;refine R9 ⟨plainId_quiet T5 _,Fp Wk _ nS _ d (Wk.frame _ _ _ st fun b _ o e=>RO _ e) (Rx _ rfl) fun h1 tk k1=>?_⟩
   exact h0 c h1 tk fun b o e=>k1 b o (fun hm=>absurd (RH.mp hm ▸ RL e) (SA _)) (RO _ (RO _ e))
  ·have pos:0 < (intItems xs).size:=by
    have:(intItems xs).size=xs.size:=by simp [intItems]
    omega
   refine R9 ⟨plainId_quiet T5 _,Ci Wk _ (CmpOf.ints_lt (numAt xs) (fun _ _=>intItems_at)) _ nS _ pos (Wk.frame _ _ _ st fun b _ o e=>RO _ e) (Rx _ rfl) fun v h1 tk pv k1=>?_⟩
   refine h (by omega) v h1 tk (by simpa [intItems] using pv) fun b o e=>?_
   have l1:=RL e;refine k1 b o (fun hm=>absurd (RH.mp hm ▸ l1) (SA _)) (fun z=>?_) (RO _ (RO _ e))
   rw [z] at l1;rw [Heap.size_push] at l1;exact SA _ (Nat.lt_of_succ_lt l1)
 simp only [checkBuiltinCall,F.kind_min];cases hsig:Manifest.signature? "min" with
 | none=>exact R9 go
 | some sig =>
  have ha:=FA (.ref l) d;have ha':Bind.checkArgs "min" sig ⟨[.ref l],[("default",d)]⟩=pure ():=by simpa only [argsOk,hsig] using ha
  simp only [ha'];exact R9 go
end
section
variable {X:Cx}
def OY (K:UU)(ta td:TE):TE:=fun σ H Q=>rB ta uX σ H fun vs H1=>rB td uX σ H1 fun zs H2=>∃ (a:Addr)(ns:Ur) (d:V),vs=[.ref a]/\zs=[d]/\bT K H2 a (ns.map V.int)/\(ns=[]->Q d H2)/\(∀ M,M∈ns->(∀ n∈ns,M<=n)->Q (.int M) H2)
def Ku (hc:X.calm=true)(hg:Gl X "min")(hm:X.mg "min"=none)(ha:PE X e ta)(hd:PE X d td)
  (hs:starEach [e] X.env=[(false,eval e X.env)]:=by rfl):PE X (.Call (.Name "min" p) [e] [⟨some "default",d,kp⟩] pos) (OY X.K ta td):=by
 intro pins s σ H Q I h;refine wpAny_Call_Name_kw (j7 I hg hm PyProof.Rows.boot_min ?_ (by decide) (by decide))
 refine PyProof.Rows.callWith_kw (e:=e) (rest:=[]) (kws:=[⟨some "default",d,kp⟩]) ?_ (by rw [hs];rfl) (by rw [hs];rfl) rfl rfl
 have one:PA X [e] (rB ta uX):=fS ha iZ hs;have two:PK X [⟨some "default",d,kp⟩] (rB td uX):=KP hd MB;refine aN (one pos pins s σ H _ I h) fun us s1 ⟨vs,H1,I1,r1,q1⟩=>?_
 refine aN (two pos pins s1 σ H1 _ I1 q1) fun ws s2 ⟨zs,H2,I2,r2,a,ns,dv,e1,e2,hq,q0,q⟩=>?_
 subst e1 e2;obtain ⟨u,rfl,ru⟩:=vals1 r1;obtain ⟨u2,rfl,ru2⟩:=vals1 r2;cases ru;obtain ⟨its,rv,pl,_⟩:=I2.list hq;obtain ⟨ps,rfl,rfl⟩:=vC rv;have hl:s2.heap.IsList a (intItems ps.toArray):=by
  have:=pl.isList
  simpa [intItems] using this
 refine EV (I2.ok.hd hc) hl (fun e0 h' tk k=>⟨dv,H2,I2.kept (t':=tk) k,ru2,q0 ?_⟩) fun pos v h' tk hv k=>?_
 ·have:ps=[]:=List.eq_nil_of_length_eq_zero (by simpa using e0)
  rw [this];rfl
 ·obtain ⟨t,rfl⟩:=intItems_at hv;obtain ⟨g1,g2⟩:=argBest_lt (numAt ps.toArray) (ps.toArray.size - 1);have pos':0 < ps.length:=by simpa using pos
  refine ⟨.int _,H2,I2.kept (t':=tk) k,⟨_,rfl⟩,q _ ?_ fun n hn=>?_⟩
  ·rw [numAt_eq];exact getD_mem (by simp at g1 ⊢;omega)
  ·obtain ⟨j,hj,rfl⟩:=mem_getD hn;rw [RD] at hj;rw [show (ps.map (·.1)).getD j 0=numAt ps.toArray j by rw [numAt_eq]]
   exact g2 j (by simp;omega)
end
end L2
namespace Dv
open PySem L2 PySem.W
section
variable {X:Cx}{Ex:XK}{π:Uq}
def xI {i:Int} {j}:SE X Ex π (.Constant (.int i) j pos) (dC (.int i)):=Cj NV fun _=>.int i
def xS {j}:SE X Ex π (.Constant (.str x) j pos) (dC (.str x)):=Cj Fx fun _=>.str x
def xB {b:Bool} {j}:SE X Ex π (.Constant (.bool b) j pos) (dC (.bool b)):=Cj OL fun _=>.bl b
def xN {j}:SE X Ex π (.Constant .none j pos) (dC .none):=Cj L8 fun _=>.bF
def xV (j:Nat){i:Nat}(hN:X.N[j]?=some x:=by rfl)(hv:ko X.env.scope x:=by first | exact Or.inl rfl | exact Or.inr (Or.inl rfl) | exact Or.inr (Or.inr rfl))(hj:π[j]?=some i:=by rfl)(hd:(x == ("__debug__":Str))=false:=by decide)
  (hcd:(x == ("__classdict__":Str))=false:=by decide):SE X Ex π (.Name x pos) (aX i):=N6 (fQ hN hv hd hcd) hj
def a0:aY X Ex π [] []:=.nil
def aP (j:Nat){i:Nat}(S:aY X Ex π es as)(hN:X.N[j]?=some x:=by rfl)(hv:ko X.env.scope x:=by first | exact Or.inl rfl | exact Or.inr (Or.inl rfl) | exact Or.inr (Or.inr rfl))(hj:π[j]?=some i:=by rfl)(hd:(x == ("__debug__":Str))=false:=by decide)
  (hcd:(x == ("__classdict__":Str))=false:=by decide):aY X Ex π (.Name x pos::es) (.pk i::as):=.pk (fQ hN hv hd hcd) hj S
def aE (h:SE X Ex π e d)(S:aY X Ex π es as):aY X Ex π (e::es) (.ev d::as):=.ev h S
def nJ:DR:=oM fun i j=>.int (i - j)
def i8:DR:=xj (fun _ j=>0 < j) fun i j=>.int (i % j)
def x6:DR:=xj BJ fun i j=>.int (i / j)
def HV:DR:=xj Hg fun i j=>.int (i ^ j.toNat)
def yJ:DR:=oM fun i j=>.bool (decide (i < j))
def Ax:DR:=oM fun i j=>.bool (decide (i<=j))
def nK:DR:=oM fun i j=>.bool (decide (j < i))
def FO:DR:=oM fun i j=>.bool (decide (j<=i))
def yV:DR:=fun ds P=>match ds with
 | [.int a]=>P .sh (.int (-a))
 | _=>False
def KY:cY K yV (r1 (rU fun i=>.int (-i))):=by
 intro H Hm vs ds P Q s r h q;unfold yV at h;split at h
 ·obtain ⟨x,rfl,h1⟩:=d7 r;cases h1;exact ⟨_,rfl,bY.sc q s h (.int _)⟩
 ·exact h.elim
variable {a b:Expr}{pos:Pos}{as:List Arg}
def gu (S:aY X Ex π [a,b] as):SE X Ex π (.BinOp a .Add b pos) (ah dH as):=nO KN Ka S
def zK (S:aY X Ex π [a,b] as):SE X Ex π (.BinOp a .Sub b pos) (ah nJ as):=nO Nr (gf fun _ _ _=>.int _) S
def oR (S:aY X Ex π [a,b] as):SE X Ex π (.BinOp a .Mult b pos) (ah jg as):=nO Ks Kl S
def l7 (S:aY X Ex π [a,b] as):SE X Ex π (.BinOp a .Mod b pos) (ah i8 as):=nO N1 (vg fun _ _ _=>.int _) S
def Ho (S:aY X Ex π [a,b] as):SE X Ex π (.BinOp a .FloorDiv b pos) (ah x6 as):=nO Gy (vg fun _ _ _=>.int _) S
def Qn (S:aY X Ex π [a,b] as):SE X Ex π (.BinOp a .Pow b pos) (ah HV as):=nO MI (vg fun _ _ _=>.int _) S
def Qw (S:aY X Ex π [a] as):SE X Ex π (.UnaryOp .USub a pos) (ah yV as):=OD Mb KY S
def QH (S:aY X Ex π [a,b] as):SE X Ex π (.Compare a [.LtE] [b] pos) (ah Ax as):=om xo (fh _) (gf fun _ _ _=>.bl _) S
def Pk (S:aY X Ex π [a,b] as):SE X Ex π (.Compare a [.Gt] [b] pos) (ah nK as):=om Ir (fh _) (gf fun _ _ _=>.bl _) S
def Q5 (S:aY X Ex π [a,b] as):SE X Ex π (.Compare a [.GtE] [b] pos) (ah FO as):=om IQ (fh _) (gf fun _ _ _=>.bl _) S
def Pg (hu:X.A.units + 64 < cLine)(S:aY X Ex π [a,b] as):SE X Ex π (.Compare a [.Eq] [b] pos) (ah jv as):=om (FW hu) (fh _) Ew S
def Px (S:aY X Ex π [a,b] as):SE X Ex π (.Compare a [.Is] [b] pos) (ah (cZ false) as):=om Dy (fh _) Bw S
def Py (hu:X.A.units + 64 < cLine)(S:aY X Ex π [a,b] as)(hm:behindInMarks .In b=false:=by rfl):SE X Ex π (.Compare a [.In] [b] pos) (ah (iC false) as):=om (Eh hu) hm (Av false) S
def FT (S:aY X Ex π [a,b] as):bE X Ex π (.Compare a [.Lt] [b] pos) (ah yJ as):=gE uT (fh _) (gf fun _ _ _=>.bl _) S
def QK (S:aY X Ex π [a,b] as):bE X Ex π (.Compare a [.LtE] [b] pos) (ah Ax as):=gE xo (fh _) (gf fun _ _ _=>.bl _) S
def wo (S:aY X Ex π [a,b] as):bE X Ex π (.Compare a [.Gt] [b] pos) (ah nK as):=gE Ir (fh _) (gf fun _ _ _=>.bl _) S
def Q0 (S:aY X Ex π [a,b] as):bE X Ex π (.Compare a [.GtE] [b] pos) (ah FO as):=gE IQ (fh _) (gf fun _ _ _=>.bl _) S
def uS (hu:X.A.units + 64 < cLine)(S:aY X Ex π [a,b] as):bE X Ex π (.Compare a [.Eq] [b] pos) (ah jv as):=gE (FW hu) (fh _) Ew S
def rN (hu:X.A.units + 64 < cLine)(S:aY X Ex π [a,b] as):bE X Ex π (.Compare a [.NotEq] [b] pos) (ah iY as):=gE (L7 hu) (fh _) MP S
def LX (S:aY X Ex π [a,b] as):bE X Ex π (.Compare a [.Is] [b] pos) (ah (cZ false) as):=gE Dy (fh _) Bw S
def P4 (S:aY X Ex π [a,b] as):bE X Ex π (.Compare a [.IsNot] [b] pos) (ah (cZ true) as):=gE JH (fh _) Hy S
def NI (hu:X.A.units + 64 < cLine)(S:aY X Ex π [a,b] as)(hm:behindInMarks .In b=false:=by rfl):bE X Ex π (.Compare a [.In] [b] pos) (ah (iC false) as):=gE (Eh hu) hm (Av false) S
def uI (h:SE X Ex π e d)(he:∀ whole,isTrue e X.env whole=(do let v <- whole;standAt e.pos;holding [v] (truthy v)):=by intro _;rfl):bE X Ex π e d:=h.pY he
def tV (j:Nat){i:Nat}(hN:X.N[j]?=some x:=by rfl)(hv:ko X.env.scope x:=by first | exact Or.inl rfl | exact Or.inr (Or.inl rfl) | exact Or.inr (Or.inr rfl))(hj:π[j]?=some i:=by rfl)(hd:(x == ("__debug__":Str))=false:=by decide)
  (hcd:(x == ("__classdict__":Str))=false:=by decide):ST X Ex π (.Name x pos) (Gf i):=PV (fQ hN hv hd hcd) hj fun _=>rfl
def dB (hu:X.A.units + 64 < cLine)(S:aY X Ex π [a,b] as)(hs:nN b:=by intro _ _;rfl):SE X Ex π (.Subscript a b pos) (ah bN as):=Oi (Qa hu) hs KL S
variable {p:Pos}
def fX (hm:X.mg "len"=none)(S:aY X Ex π [a] as)(hg:Gl X "len":=by rfl)(ns:noStar a=true:=by rfl):SE X Ex π (.Call (.Name "len" p) [a] [] pos) (ah cU as):=gp (zT.or Fz) Gj hg hm PySem.boot_len (by decide) (by decide) (by rw [RU,ns];rfl) S
def i6 (hm:X.mg "list"=none)(S:aY X Ex π [a] as)(hg:Gl X "list":=by rfl)(ns:noStar a=true:=by rfl):SE X Ex π (.Call (.Name "list" p) [a] [] pos) (ah eX as):=mT zq Hs hg hm PyProof.Rows.boot_list (by decide) (by decide) (by rw [RU,ns];rfl) S
def LK (hm:X.mg "tuple"=none)(S:aY X Ex π [a] as)(hg:Gl X "tuple":=by rfl)(ns:noStar a=true:=by rfl):SE X Ex π (.Call (.Name "tuple" p) [a] [] pos) (ah nP as):=mT qc Eo hg hm PyProof.Rows.boot_tuple (by decide) (by decide) (by rw [RU,ns];rfl) S
def zE (hm:X.mg "min"=none)(S:aY X Ex π [a,b] as)(hc:X.calm=true:=by rfl)(hg:Gl X "min":=by rfl)(ns:noStar a=true:=by rfl)(ns2:noStar b=true:=by rfl):SE X Ex π (.Call (.Name "min" p) [a,b] [] pos) (ah mH as):=gp (Fv hc) Ii hg hm PyProof.Rows.boot_min (by decide) (by decide) (by rw [RU,RU,ns,ns2];rfl) S
def Cu (hm:X.mg "max"=none)(S:aY X Ex π [a,b] as)(hc:X.calm=true:=by rfl)(hg:Gl X "max":=by rfl)(ns:noStar a=true:=by rfl)(ns2:noStar b=true:=by rfl):SE X Ex π (.Call (.Name "max" p) [a,b] [] pos) (ah oY as):=gp (El hc) Ii hg hm PyProof.Rows.boot_max (by decide) (by decide) (by rw [RU,RU,ns,ns2];rfl) S
def Jo (hm:X.mg "min"=none)(S:aY X Ex π [a] as)(hc:X.calm=true:=by rfl)(hg:Gl X "min":=by rfl)(ns:noStar a=true:=by rfl):SE X Ex π (.Call (.Name "min" p) [a] [] pos) (ah ug as):=gp (DU hc) HL hg hm PyProof.Rows.boot_min (by decide) (by decide) (by rw [RU,ns];rfl) S
def Qs (hm:X.mg "abs"=none)(S:aY X Ex π [a] as)(hg:Gl X "abs":=by rfl)(ns:noStar a=true:=by rfl):SE X Ex π (.Call (.Name "abs" p) [a] [] pos) (ah yC as):=gp GH J5 hg hm PyProof.Rows.boot_abs (by decide) (by decide) (by rw [RU,ns];rfl) S
def QC (hm:X.mg "int"=none)(S:aY X Ex π [a] as)(hg:Gl X "int":=by rfl)(ns:noStar a=true:=by rfl):SE X Ex π (.Call (.Name "int" p) [a] [] pos) (ah oG as):=mT Et DN hg hm PyProof.Rows.boot_int (by decide) (by decide) (by rw [RU,ns];rfl) S
def HR (hm:X.mg "all"=none)(S:aY X Ex π [a] as)(hc:X.calm=true:=by rfl)(hg:Gl X "all":=by rfl)(ns:noStar a=true:=by rfl):SE X Ex π (.Call (.Name "all" p) [a] [] pos) (ah vh as):=gp (ET hc) JO hg hm PyProof.Rows.boot_all (by decide) (by decide) (by rw [RU,ns];rfl) S
def EM (hm:X.mg "sorted"=none)(S:aY X Ex π [a] as)(hg:Gl X "sorted":=by rfl)(ns:noStar a=true:=by rfl):SE X Ex π (.Call (.Name "sorted" p) [a] [] pos) (ah qu as):=gp xU DB hg hm PyProof.Rows.boot_sorted (by decide) (by decide) (by rw [RU,ns];rfl) S
def EU (h1:X.mg "list"=none)(h2:X.mg "range"=none)(S:aY X Ex π [a] as)(hc:X.calm=true:=by rfl)(g1:Gl X "list":=by rfl)(g2:Gl X "range":=by rfl)(ns:noStar a=true:=by rfl):SE X Ex π (.Call (.Name "list" p) [.Call (.Name "range" p2) [a] [] pos2] [] pos) (ah lA as):=Gv hc g1 h1 g2 h2 ns S
def jR (S:aY X Ex π es as)(ns:es.all noStar=true:=by rfl):SE X Ex π (.List es pos) (ah f6 as):=Lk ns S
def m8 {k:Nat}(S:aY X Ex π es as)(ns:es.all noStar=true:=by rfl):SE X Ex π (.Tuple es k pos) (ah gz as):=N4 ns S
def P9:SE X Ex π (.Dict [] [] pos) GF:=Lh HP zd
variable {tg:Expr}
def pX (hm:X.mg "range"=none)(S:aY X Ex π [a] as)(hg:Gl X "range":=by rfl)(ns:noStar a=true:=by rfl):SI X Ex π tg (.Call (.Name "range" p) [a] [] pos) (jy kQ as):=Oe hg hm ns S
def QO (hm:X.mg "range"=none)(S:aY X Ex π [a,b] as)(hg:Gl X "range":=by rfl)(ns:noStar a=true:=by rfl)(ns2:noStar b=true:=by rfl):SI X Ex π tg (.Call (.Name "range" p) [a,b] [] pos) (jy DX as):=Pa hg hm ns ns2 S
def G9 {x1:Nat}(hm:X.mg "enumerate"=none)(h:SE X Ex π a d)(hg:Gl X "enumerate":=by rfl)(ns:noStar a=true:=by rfl):SI X Ex π (.Tuple elts x1 tp) (.Call (.Name "enumerate" p) [a] [] pos) (wk d):=OW hg hm ns h
def vp {x1:Nat}(hm:X.mg "zip"=none)(h:SE X Ex π a d)(h2:SE X Ex π b d2)(hg:Gl X "zip":=by rfl)(ns:noStar a=true:=by rfl)(ns2:noStar b=true:=by rfl):SI X Ex π (.Tuple elts x1 tp) (.Call (.Name "zip" p) [a,b] [] pos) (xT d d2):=Pe hg hm ns ns2 h h2
def gN (j:Nat){i:Nat}(hN:X.N[j]?=some x:=by rfl)(hj:π[j]?=some i:=by rfl)(hl:Loc X.env.scope x:=by first | exact Or.inl rfl | exact Or.inr rfl)(hf:X.fn x=true\/X.env.scope.names.lookup x=some .local:=by first | exact Or.inl rfl | exact Or.inr rfl):eo X π (.Name x p) (.nm i):=.nm hN hj hl hf
def g0:k9 X π [] []:=.nil
def gC (j:Nat){i:Nat}(t:k9 X π ts is)(hN:X.N[j]?=some x:=by rfl)(hj:π[j]?=some i:=by rfl)(hl:Loc X.env.scope x:=by first | exact Or.inl rfl | exact Or.inr rfl)(hf:X.fn x=true\/X.env.scope.names.lookup x=some .local:=by first | exact Or.inl rfl | exact Or.inr rfl):k9 X π (.Name x p::ts) (i::is):=.cons hN hj hl hf t
def gT {k:Nat}(t:k9 X π ts is):eo X π (.Tuple ts k p) (.tp is):=.tp t
def gD:Passes (fY X.prog X.w) X E0:=by
 rintro pins σ H s e s' I ⟨_,_,_,_,_,_,_,_,_,_,_,_,_,_,z⟩;exact z.elim
def aF {k k':Nat}(F:bU X.prog X.w X.K X.mg X.base k x ps (cy X.mg X.K ms sp))(hp:Passes (fY X.prog X.w) X Ex)(hr:eT k' X.A)(S:aY X Ex π (e::es) as)(hk:k<=k':=by decide)(hg:Gl X x:=by rfl)(hd:(x == ("__debug__":Str))=false:=by decide)
  (ns:(e::es).all noStar=true:=by rfl):SE X Ex π (.Call (.Name x p) (e::es) [] pos) (aA sp ms as):=JU F hp (hr.mono hk) hg hd ns S
def bQ (h:SE X Ex (aQ X) a d):S1 X Ex (.Return (some a) pos) (bH d):=OO h
def uN (i:Nat)(hN:X.N[i]?=some x:=by rfl)(hv:ko X.env.scope x:=by first | exact Or.inl rfl | exact Or.inr (Or.inl rfl) | exact Or.inr (Or.inr rfl))(hd:(x == ("__debug__":Str))=false:=by decide)
  (hcd:(x == ("__classdict__":Str))=false:=by decide):S1 X Ex (.Return (some (.Name x p)) pos) (mX i):=ME (fQ hN hv hd hcd) (bJ hN)
def eY (h:SE X Ex (aQ X) a d)(hs:swapsWith a none pos.line X.env=pure false:=by rfl):S1 X Ex (.Expr a pos) (dM d):=NJ h hs
def bI (i:Nat)(hN:X.N.Nodup)(h:SE X Ex (aQ X) a d)(hi:X.N[i]?=some x:=by rfl)(hl:Loc X.env.scope x:=by first | exact Or.inl rfl | exact Or.inr rfl)(hs:swapsWith a (some (.Name x p)) pos.line X.env=pure false:=by rfl)(hf:X.fn x=true\/X.env.scope.names.lookup x=some .local:=by first | exact Or.inl rfl | exact Or.inr rfl) :
  S1 X Ex (.Assign [.Name x p] a pos) (aS i d):=ON hN hi hl hs hf h
def CV {k:Nat}(hN:X.N.Nodup)(ht:k9 X (aQ X) ts is)(h:SE X Ex (aQ X) a d)(hc:X.calm=true:=by rfl)(hs:swapsWithSole [.Tuple ts k p] a pos.line X.env=pure false:=by rfl)(hw:swappedStores [.Tuple ts k p] a X.env=pure none:=by rfl):S1 X Ex (.Assign [.Tuple ts k p] a pos) (tD is d):=Oo hc hN ht hs hw h
def nh (i:Nat)(hu:X.A.units + 64 < cLine)(hd:SE X Ex (aQ X) a de)(hd2:SE X Ex (aQ X) b dj)(hN:X.N[i]?=some x:=by rfl)(hv:ko X.env.scope x:=by first | exact Or.inl rfl | exact Or.inr (Or.inl rfl) | exact Or.inr (Or.inr rfl))(hs:swapsWithSole [.Subscript (.Name x p) b pos'] a pos.line X.env=pure false:=by rfl)
  (ha:∀ v,assign (.Subscript (.Name x p) b pos') X.env v=(do
   let ov <- holding [v] (eval (.Name x p) X.env)
   let iv <- holding [v,ov] (eval b X.env)
   standAt pos'
   holding [v,ov,iv] (setItem ov iv v)
   release [v,ov,iv] []):=by intro _;rfl)(hb:(x == ("__debug__":Str))=false:=by decide)(hcd:(x == ("__classdict__":Str))=false:=by decide):S1 X Ex (.Assign [.Subscript (.Name x p) b pos'] a pos) (fH i dj de):=O9 hu (fQ hN hv hb hcd) (iT (bJ hN)) hs ha hd hd2
def fB (hc:ST X Ex (aQ X) a t)(ha:SS X Ex u d)(hb:SS X Ex v e):S1 X Ex (.If a u v pos) (cE t d e):=Qp hc ha hb
def Dj (hp:PassesOwn (model X.prog X.w) X.A X.env X.xe)(hc:ST X Ex (aQ X) a t)(hb:SS X Ex u d):S1 X Ex (.While a u [] pos) (uQ t d):=JI hp hc hb
def iL (hp:PassesOwn (model X.prog X.w) X.A X.env X.xe)(hN:X.N.Nodup)(hi:SI X Ex (aQ X) tg a di)(ht:eo X (aQ X) tg t)(hb:SS X Ex u d)(hc:X.calm=true:=by rfl)(hs:∀ x,foldedSetIterable a X.env x=pure x:=by intro _;rfl):S1 X Ex (.For tg a u [] pos) (fM di t d):=OJ hp hc hN hi ht hb hs
end
section
variable {X:Cx}{Ex:XK}{π:Uq}
def e0:rX X Ex π [] []:=.nil
def eC (h:SE X Ex π e d)(t:rX X Ex π es ds):rX X Ex π (e::es) (d::ds):=.cons h t
def xM (j:Nat){i:Nat}{x name:Str}{id:String}{p apos cpos:Pos}{es:Ul}{ds:List DE}{f:DM}{r:V->List V->Hp->VK->Prop}(hm:wg X id r)(D:Bv X.K f r)(slot:Slot "list" name id)(hty:typeOf (.builtin id)=pure (.type "method_descriptor"))(S:rX X Ex π es ds)
  (hN:X.N[j]?=some x:=by rfl)(hv:ko X.env.scope x:=by first | exact Or.inl rfl | exact Or.inr (Or.inl rfl) | exact Or.inr (Or.inr rfl))(hj:π[j]?=some i:=by rfl)(ns:es.all noStar=true:=by rfl)(l30:decide (es.length < 30)=true:=by rfl)(hline:(apos.endLine == cpos.line)=true:=by rfl)(hd:(x == ("__debug__":Str))=false:=by decide)
  (hcd:(x == ("__classdict__":Str))=false:=by decide):SE X Ex π (.Call (.Attribute (.Name x p) name apos) es [] cpos) (uU f i ds):=O7 hm D slot hty (fQ hN hv hd hcd) hj ns (Rn l30) hline S
def kC:Uq->Bool
 | []=>true
 | a::r=>!r.contains a && kC r
theorem gF:∀ {l:Uq},kC l=true->l.Nodup
 | [],_=>Sq
 | a::r,h=>by
  rw [kC,RK,Bool.not_eq_true',Td,decide_eq_false_iff_not] at h;exact S7.mpr ⟨h.1,gF h.2⟩
def sI (π cs ix:Uq)(vs:Us)(sl:Uq):Bool:=(cs.length == vs.length) && ix.all (fun i=>Nat.blt i π.length) && cs.all (fun c=>!π.contains c) && kC (bA π cs ix) && sl.all (fun i=>cs.contains i)
def qQ (h:sI π cs ix vs sl=true):cs.length=vs.length/\(∀ i∈ix,i < π.length)/\(∀ c∈cs,c∉π)/\(bA π cs ix).Nodup/\∀ i∈sl,i∈cs:=by
 unfold sI at h;rw [RK,RK,RK,RK,RP,RP,RP,beq_iff_eq] at h;obtain ⟨⟨⟨⟨h1,h2⟩,h3⟩,h4⟩,h5⟩:=h;refine ⟨h1,fun i hi=>by simpa using h2 i hi,fun c hc z=>?_,gF h4,fun i hi=>?_⟩
 ·have:=h3 c hc;rw [Bool.not_eq_true',Td,decide_eq_false_iff_not] at this;exact this z
 ·have:=h5 i hi;rw [Td,SJ] at this;exact this
def Bg (r:Tp):Bool:=r.all fun g=>g.is_async == 0
def qm (h:Bg r=true):∀ g∈r,g.is_async=0:=fun g hg=>by
 have:=RP.mp h g hg
 simpa using this
variable {cs:Uq}{elt tg iter:Expr}{ifs:Ul}{scope:Scope}{pos:Pos}
def eZ {rest:Tp}{vs NB:Us}{ix:Uq}{di:DI}{t:Tg}{c:DT}{r:DC}(B:nL X.N X.env.scope scope vs NB ix=true)(hi:SI X Ex π tg iter di)(ht:∀ (C:Addr)(s:Shared)(H:Hp)(fp:Uh),eo (X.block scope C NB s H fp) (bA π cs ix) tg t)
  (hif:∀ (C:Addr)(s:Shared)(H:Hp)(fp:Uh),fV (X.block scope C NB s H fp) E0 (bA π cs ix) ifs c)(hr:∀ (C:Addr)(s:Shared)(H:Hp)(fp:Uh)(D:Addr),SL (X.block scope C NB s H fp) (bA π cs ix) cs D elt (⟨tg,iter,ifs,0⟩:: rest) scope pos 1 r)
  (hc:X.calm=true:=by rfl)(ck:sI π cs ix vs t.slots=true:=by rfl)(ha:Bg rest=true:=by rfl)(hs:∀ v,foldedSetIterable iter X.env v=pure v:=by intro _;rfl):SE X Ex π (.ListComp elt (⟨tg,iter,ifs,0⟩:: rest) scope pos) (br cs di t c r) :=
 let ⟨h1,h2,h3,h4,h5⟩:=qQ ck
 Ni (cT.of B) hc h1 h2 h3 h4 hi ht h5 hif hr (qm ha) hs
def Gs {j:Nat}{y:Str}{py spos:Pos}{rest:Tp}{vs NB:Us}{ix:Uq}{di:DI}{t:Tg}{c:DT}{r:DC}(hN:X.N.Nodup)(B:nL X.N X.env.scope scope vs NB ix=true)(hi:SI X Ex (aQ X) tg iter di)(ht:∀ (C:Addr)(s:Shared)(H:Hp)(fp:Uh),eo (X.block scope C NB s H fp) (bA (aQ X) cs ix) tg t)
  (hif:∀ (C:Addr)(s:Shared)(H:Hp)(fp:Uh),fV (X.block scope C NB s H fp) E0 (bA (aQ X) cs ix) ifs c)(hr:∀ (C:Addr)(s:Shared)(H:Hp)(fp:Uh)(D:Addr),SL (X.block scope C NB s H fp) (bA (aQ X) cs ix) cs D elt (⟨tg,iter,ifs,0⟩:: rest) scope pos 1 r)
  (hj:X.N[j]?=some y:=by rfl)(hy:X.env.scope.names.lookup y=some .local:=by rfl)(hsw:swapsWith (.ListComp elt (⟨tg,iter,ifs,0⟩:: rest) scope pos) (some (.Name y py)) spos.line X.env=pure true:=by rfl)
  (hc:X.calm=true:=by rfl)(ck:sI (aQ X) cs ix vs t.slots=true:=by rfl)(ha:Bg rest=true:=by rfl)(hs:∀ v,foldedSetIterable iter X.env v=pure v:=by intro _;rfl):S1 X Ex (.Assign [.Name y py] (.ListComp elt (⟨tg,iter,ifs,0⟩:: rest) scope pos) spos) (aS j (br cs di t c r)) :=
 let ⟨h1,h2,h3,h4,h5⟩:=qQ ck
 O3 hN hj hy (cT.of B) hc h1 h2 h3 h4 hi ht h5 hif hr (qm ha) hs hsw
def q9 (N:Us)(fs scope:Scope) (x:Str)(vs NB:Us)(ix:Uq):Bool :=
 decide (scope.kind=.function) && scope.names.all (fun y=>decide (y.2≠.cell) || decide (y.1=x)) && scope.names.all (fun y=>decide (y.2≠.local) || decide (scope.names.lookup y.1=some .local)) &&
 scope.names.all (fun y=>decide (y.2≠.free) || (decide (y.1≠x) && (decide (fs.names.lookup y.1=some .cell) || decide (fs.names.lookup y.1=some .free)))) && decide (scope.names.lookup x=some .cell) &&
 decide (NB=vs++ix.map fun i=>N.getD i "") && decide NB.Nodup && ix.all fun i=>match N[i]? with | some y=>decide (scope.names.lookup y=some .free) | none=>false
def cS.of (h:q9 X.N X.env.scope scope x vs NB ix=true)(cf:∀ (n:Nat)(acc:List (Str×Addr)),cellsFrom n scope.names acc=(x,n)::acc)(pc:∀ h:Heap,pushCells h scope.names=h.push oK):cS X scope x vs NB ix:=by
 unfold q9 at h;simp only [RK] at h;obtain ⟨⟨⟨⟨⟨⟨⟨h1,h2⟩,h3⟩,h4⟩,h5⟩,h6⟩,h7⟩,h8⟩:=h;refine ⟨Rn h1,fun y hy e=>?_,fun y hy e=>?_,fun y hy=>?_,fun hy=>?_,Rn h5,Rn h6,Rn h7,fun i hi=>?_,cf,pc⟩
 ·have z:=RP.mp h2 y hy;rw [TR] at z;exact z.elim (fun z=>absurd e (Rn z)) fun z=>Rn z
 ·have z:=RP.mp h3 y hy;rw [TR] at z;exact z.elim (fun z=>absurd e (Rn z)) fun z=>Rn z
 ·have z:=RP.mp h4 _ hy;rw [TR,RK,TR] at z;exact z.elim (fun z=>absurd rfl (Rn z)) fun z=>z.2.imp Rn Rn
 ·have z:=RP.mp h4 _ hy;rw [TR,RK] at z;exact z.elim (fun z=>absurd rfl (Rn z)) fun z=>absurd rfl (Rn z.1)
 ·have z:=RP.mp h8 i hi;split at z
  ·rename_i y e;exact ⟨y,e,Rn z⟩
  ·cases z
def GA {cx:Str}{rest:Tp}{vs NB:Us}{ix:Uq}{di:DI}{t:Tg}{c:DT}{r:DC}(B:q9 X.N X.env.scope scope cx vs NB ix=true)(hi:SI X Ex π tg iter di)(ht:∀ (C c':Addr)(s:Shared)(H:Hp)(fp:Uh),eo (X.aR scope cx C c' NB s H fp) (bA π cs ix) tg t)
  (hif:∀ (C c':Addr)(s:Shared)(H:Hp)(fp:Uh),fV (X.aR scope cx C c' NB s H fp) E0 (bA π cs ix) ifs c)(hr:∀ (C c':Addr)(s:Shared)(H:Hp)(fp:Uh)(D:Addr),SL (X.aR scope cx C c' NB s H fp) (bA π cs ix) cs D elt (⟨tg,iter,ifs,0⟩:: rest) scope pos 1 r)
  (cf:∀ (n:Nat)(acc:List (Str×Addr)),cellsFrom n scope.names acc=(cx,n)::acc:=by intro _ _;rfl)(pc:∀ h:Heap,pushCells h scope.names=h.push oK:=by intro _;rfl)
  (hc:X.calm=true:=by rfl)(ck:sI π cs ix vs t.slots=true:=by rfl)(ha:Bg rest=true:=by rfl)(hs:∀ v,foldedSetIterable iter X.env v=pure v:=by intro _;rfl):SE X Ex π (.ListComp elt (⟨tg,iter,ifs,0⟩:: rest) scope pos) (br cs di t c r) :=
 let ⟨h1,h2,h3,h4,h5⟩:=qQ ck
 NG (cS.of B cf pc) hc h1 h2 h3 h4 hi ht h5 hif hr (qm ha) hs
def Qi {j:Nat}{cx y:Str}{py spos:Pos}{rest:Tp}{vs NB:Us}{ix:Uq}{di:DI}{t:Tg}{c:DT}{r:DC}(hN:X.N.Nodup)(B:q9 X.N X.env.scope scope cx vs NB ix=true)(hi:SI X Ex (aQ X) tg iter di)(ht:∀ (C c':Addr)(s:Shared)(H:Hp)(fp:Uh),eo (X.aR scope cx C c' NB s H fp) (bA (aQ X) cs ix) tg t)
  (hif:∀ (C c':Addr)(s:Shared)(H:Hp)(fp:Uh),fV (X.aR scope cx C c' NB s H fp) E0 (bA (aQ X) cs ix) ifs c)(hr:∀ (C c':Addr)(s:Shared)(H:Hp)(fp:Uh)(D:Addr),SL (X.aR scope cx C c' NB s H fp) (bA (aQ X) cs ix) cs D elt (⟨tg,iter,ifs,0⟩:: rest) scope pos 1 r)
  (cf:∀ (n:Nat)(acc:List (Str×Addr)),cellsFrom n scope.names acc=(cx,n)::acc:=by intro _ _;rfl)(pc:∀ h:Heap,pushCells h scope.names=h.push oK:=by intro _;rfl)
  (hj:X.N[j]?=some y:=by rfl)(hy:X.env.scope.names.lookup y=some .local:=by rfl)(hsw:swapsWith (.ListComp elt (⟨tg,iter,ifs,0⟩:: rest) scope pos) (some (.Name y py)) spos.line X.env=pure true:=by rfl)
  (hc:X.calm=true:=by rfl)(ck:sI (aQ X) cs ix vs t.slots=true:=by rfl)(ha:Bg rest=true:=by rfl)(hs:∀ v,foldedSetIterable iter X.env v=pure v:=by intro _;rfl):S1 X Ex (.Assign [.Name y py] (.ListComp elt (⟨tg,iter,ifs,0⟩:: rest) scope pos) spos) (aS j (br cs di t c r)) :=
 let ⟨h1,h2,h3,h4,h5⟩:=qQ ck
 OI hN hj hy (cS.of B cf pc) hc h1 h2 h3 h4 hi ht h5 hif hr (qm ha) hs hsw
def cA {D:Addr}{k:Nat}(h:SE X E0 π elt d)(hk:gens[k]?=none:=by rfl):SL X π cs D elt gens scope pos k (bL sizeLine d):=JA h hk
def BU:Us->Bool
 | []=>true
 | a::r=>!r.contains a && BU r
theorem Bb:∀ {l:Us},BU l=true->l.Nodup
 | [],_=>Sq
 | a::r,h=>by
  rw [BU,RK,Bool.not_eq_true',Td,decide_eq_false_iff_not] at h;exact S7.mpr ⟨h.1,Bb h.2⟩
def Qv {D:Addr}{k:Nat}(hi:SI X E0 π tg iter di)(ht:eo X π tg t)(hif:fV X E0 π ifs c)(hr:SL X π cs D elt gens scope pos (k + 1) r)(hc:X.calm=true:=by rfl)(hN:BU X.N=true:=by rfl)(nd:kC π=true:=by rfl)(hts:(t.slots.all fun i=>cs.contains i)=true:=by rfl)
  (hk:gens[k]?=some ⟨tg,iter,ifs,0⟩:=by rfl)(ha:Bg gens=true:=by rfl)(hs:∀ v,foldedSetIterable iter X.env v=pure v:=by intro _;rfl):SL X π cs D elt gens scope pos k (FL di t c r) :=
 NR hc (Bb hN) (gF nd) hi ht (fun i hi=>by
  have:=RP.mp hts i hi;rw [Td,SJ] at this;exact this) hif hr hk (qm ha) hs
def wK:PyData->Option String
 | .none=>some "NoneType"
 | .bool _=>some "bool"
 | .int _=>some "int"
 | .str _=>some "str"
 | .list _=>some "list"
 | .tuple _=>some "tuple"
 | .dict _=>none
def jT (c t:String):Bool:=t == c || (c == "int" && t == "bool")
def AB (c:String):DR:=fun ds P=>match ds with
 | [d]=>aO (wK d) fun t=>P .sh (.bool (jT c t))
 | _=>False
def tys:List String:=["NoneType","bool","int","str","list","tuple"]
def zg (K:Frag)(cs:List String):Bool:=cs.all fun c=>tys.all fun t=>kitOne K (.type t) (.type c) == some (jT c t)
def N3 {K:Frag}{cs:List String}(h:zg K cs=true){c t:String}(hc:c∈cs)(ht:t∈tys):kitOne K (.type t) (.type c)=some (jT c t):=by
 have:=RP.mp (RP.mp h c hc) t ht
 simpa using this
def Oq (s:aj Hm H)(r:Rp K Hm v d)(h:wK d=some t):gU K H v (.type t)/\t∈tys:=by
 cases r with
 | bF=>cases h;exact ⟨.bF,by decide⟩
 | bl b=>cases h;exact ⟨.bl b,by decide⟩
 | int i=>cases h;exact ⟨.int i,by decide⟩
 | str x=>cases h;exact ⟨.str x,by decide⟩
 | lst a _ =>
  cases h;refine ⟨?_,by decide⟩
  rcases a with (a | ⟨o,a⟩) | ⟨its,n,a,_⟩
  ·exact .lst (s _ _ a)
  ·exact .cJ (s _ _ a)
  ·exact .kl a
 | tup a _=>cases h;exact ⟨.tup (s _ _ a),by decide⟩
 | dk _ _=>cases h
 | dt _ _=>cases h
def Ng {css:List String}(kf:zg X.K css=true)(hc:css.contains c=true)(hm:X.mg "isinstance"=none)(hm2:X.mg x=none)(hv:bootBuiltins x=some (.type c))(hg:Gl X "isinstance")(hg2:Gl X x)(hn:x≠"__name__")(hd:(x == ("__debug__":Str))=false)(ns:noStar a=true)(S:aY X Ex π [a] as) :
  SE X Ex π (.Call (.Name "isinstance" p) [a,.Name x p2] [] pos) (ah (AB c) as):=by
 refine fZ (r:=fun vs H Q=>∃ v t,vs=[v]/\gU X.K H v (.type t)/\t∈tys/\Q (.bl (jT c t)) H) S (fun σ H Q h=>WE.of (yg Ht hg hm PyProof.Rows.boot_isinstance (fS bg (fS (Kg (v:=.ty c) hg2 hm2 hv rfl hn hd) iZ) (bR ns)) (by decide) (by decide) (bR ns) (by rfl)) ?_) ?_
 ·refine fun pins s I=>aN (h pins s I) fun v s1 ⟨y,H1,I1,r1,w,t,e,ty,ht,q⟩=>⟨y,H1,I1,r1,?_⟩
  cases e;refine ⟨_,_,_,_,rfl,ty,fun u hu=>?_,q⟩
  cases hu;exact N3 kf (by simpa using hc) ht
 ·intro H Hm vs ds P Q s r h q;unfold AB at h;split at h
  ·obtain ⟨v,rfl,h1⟩:=d7 r;rw [<- bS] at h;obtain ⟨t,e,h⟩:=h;obtain ⟨ty,ht⟩:=Oq s h1 e;exact ⟨v,t,rfl,ty,ht,bY.sc q s h (.bl _)⟩
  ·exact h.elim
def Ms (kf:zg X.K css=true)(hm:X.mg "isinstance"=none)(hm2:X.mg x=none)(hv:bootBuiltins x=some (.type c))(S:aY X Ex π [a] as)(hc:css.contains c=true:=by decide)(hg:Gl X "isinstance":=by rfl)(hg2:Gl X x:=by rfl)(hn:x≠"__name__":=by decide)(hd:(x == ("__debug__":Str))=false:=by decide)(ns:noStar a=true:=by rfl) :
  SE X Ex π (.Call (.Name "isinstance" p) [a,.Name x p2] [] pos) (ah (AB c) as):=Ng kf hc hm hm2 hv hg hg2 hn hd ns S
def ud:DR:=fun ds P=>∃ (ns:Ur)(d:PyData),ds=[.list (ns.map .int),d]/\(ns=[]->P .sh d)/\∀ M,M∈ns->(∀ n∈ns,M<=n)->P .sh (.int M)
def JE (hc:X.calm=true)(hg:Gl X "min")(hm:X.mg "min"=none)(ns:noStar a=true)(S:aY X Ex π [a,b] as):SE X Ex π (.Call (.Name "min" p) [a] [⟨some "default",b,kp⟩] pos) (ah ud as):=by
 refine fZ (r:=fun vs H Q=>∃ (l:Addr)(ns:Ur) (d:V),vs=[.ref l,d]/\bT X.K H l (ns.map V.int)/\(ns=[]->Q d H)/\(∀ M,M∈ns->(∀ n∈ns,M<=n)->Q (.int M) H)) S (fun σ H Q h=>WE.of (Ku hc hg hm bg bg (bR ns)) ?_) ?_
 ·refine fun pins s I=>aN (h pins s I) fun v s1 ⟨y,H1,I1,r1,q1⟩=>⟨y,H1,I1,r1,fun pins2 s2 I2=>aN (q1 pins2 s2 I2) fun v2 s3 ⟨y2,H2,I3,r2,l,ns,d,e,q⟩=>⟨y2,H2,I3,r2,?_⟩⟩
  cases e;exact ⟨l,ns,y2,rfl,rfl,q⟩
 ·rintro H Hm vs ds P Q s r ⟨ns,d,rfl,h1,h2⟩ q;obtain ⟨x,y,rfl,r1,r2⟩:=cW r;obtain ⟨a,xs,rfl,ha,r1⟩:=gH r1;cases pP r1;exact ⟨a,ns,y,rfl,(cG.mono s ha).sq,fun e=>bY.sc q s (h1 e) r2,fun M m1 m2=>bY.sc q s (h2 M m1 m2) (.int _)⟩
def Iv (hm:X.mg "min"=none)(S:aY X Ex π [a,b] as)(hc:X.calm=true:=by rfl)(hg:Gl X "min":=by rfl)(ns:noStar a=true:=by rfl):SE X Ex π (.Call (.Name "min" p) [a] [⟨some "default",b,kp⟩] pos) (ah ud as):=JE hc hg hm ns S
end
end Dv
namespace Dv
open PySem L2 PySem.W
open Classical in
def Gh.iz (g:Gh)(H:Hp)(fp:Uh):Gh:=⟨fun a=>if a∈fp then H a else g.H0 a,fun a=>if a∈fp then none else g.fF a,g.pins⟩
section
variable {K:Frag}{g:Gh}{E:En}{σ:St}{H H' Hm Hm':Hp}{F:Nat->Uh}{fp:Uh}
def oA {a:Addr}(h:a∈fp):(g.iz H fp).H0 a=H a:=by unfold Gh.iz;exact if_pos h
def iI {a:Addr}(h:a∉fp):(g.iz H fp).H0 a=g.H0 a:=by unfold Gh.iz;exact if_neg h
def Ec {a:Addr}(h:a∈fp):(g.iz H fp).fF a=none:=by unfold Gh.iz;exact if_pos h
def AF {a:Addr}(h:a∉fp):(g.iz H fp).fF a=g.fF a:=by unfold Gh.iz;exact if_neg h
structure lP (g:Gh)(F:Nat->Uh)(H Hm:Hp)(fp:Uh):Prop where
 Bm:∀ a∈fp,∃ u,H a=some u/\rK u
 off:∀ a∈fp,Hm a=none
 aV:∀ a∈fp,∀ i,a∉F i
 new:∀ a∈fp,g.H0 a=none
def lP.bW (A:lP g F H Hm fp):∀ a∈fp,H a≠none:=fun a ha z=>by
 obtain ⟨u,hu,_⟩:=A.Bm a ha;rw [z] at hu;cases hu
def lP.notM (A:lP g F H Hm fp)(R:Rl K g E σ H Hm F):∀ a∈fp,a∉g.M:=fun a ha m=>by
 obtain ⟨q,hq,rfl⟩:=RI.mp m;exact A.aV _ ha q.1 (by rw [R.B7 hq];exact RA)
theorem Rl.iz (R:Rl K g E σ H Hm F)(A:lP g F H Hm fp):Rl K (g.iz H fp) E σ H Hm F where
 len:=R.len
 sub:=R.sub
 slot:=R.slot
 off:=R.off
 bW:=R.bW
 aV:=R.aV
 fr:=fun p o hp ho=>by
  by_cases c:p∈fp
  ·rw [oA c] at ho;exact ho
  ·rw [iI c] at ho;exact R.fr p o hp ho
 new:=fun i a ha=>by
  have c:a∉fp:=fun z=>A.aV a z i ha
  rw [iI c];exact R.new i a ha
 pin:=R.pin
 old:=fun a ha=>by
  by_cases c:a∈fp
  ·rw [Ec c];exact .inl (A.off a c)
  ·rw [iI c] at ha;rw [AF c];exact R.old a ha
def Rl.zF {F':Nat->Uh}(A:lP g F H Hm fp)(nM:∀ a∈fp,a∉g.M)(R:Rl K (g.iz H fp) E' σ' H' Hm' F'):Rl K g E' σ' H' Hm' F'/\lP g F' H' Hm' fp/\∀ a∈fp,H' a=H a:=by
 have keep:∀ a∈fp,H' a=H a:=fun a ha=>by
  cases e:H a with
  | none=>exact absurd e (A.bW a ha)
  | some o=>exact R.fr a o (nM a ha) (by rw [oA ha];exact e)
 refine ⟨?_,⟨fun a ha=>by rw [keep a ha];exact A.Bm a ha,fun a ha=>?_,fun a ha i z=>?_,A.new⟩,keep⟩
 ·exact {
   len:=R.len
   sub:=R.sub
   slot:=R.slot
   off:=R.off
   bW:=R.bW
   aV:=R.aV
   fr:=fun p o hp ho=>by
    have c:p∉fp:=fun z=>by rw [A.new p z] at ho;cases ho
    exact R.fr p o hp (by rw [iI c];exact ho)
   new:=fun i a ha=>by
    rcases R.new i a ha with m | m
    ·exact .inl m
    ·by_cases c:a∈fp
     ·exact .inr (A.new a c)
     ·rw [iI c] at m;exact .inr m
   pin:=R.pin
   old:=fun a ha=>by
    have c:a∉fp:=fun z=>ha (A.new a z)
    have h':=R.old a (by rw [iI c];exact ha)
    rw [AF c] at h';exact h' }
 ·have h':=R.old a (by rw [oA ha];exact A.bW a ha)
  obtain ⟨u,hu,nt⟩:=A.Bm a ha;exact h'.off (Ec ha) R.sub (by rw [keep a ha];exact hu) nt
 ·rcases R.new i a z with m | m
  ·exact nM a ha m
  ·rw [oA ha] at m;exact A.bW a ha m
theorem eW.snoc {xs:List V}{ds:Ub}{b:Addr}{ys:List V}{es:Ub}(e:H b=some (.lst ys))(r:aG K Hm ys es):∀ {xs:List V}{ds:Ub}{fp:Uh},eW K H Hm xs ds fp->b∉fp->eW K H Hm (xs++[.ref b]) (ds++[.list es]) (fp++[b])
 | _,_,_,.nil,n=>.own e r n .nil
 | _,_,_,.lY h1 h2 t,n=>.lY h1 h2 (t.snoc (xs:=xs) (ds:=ds) e r n)
 | _,_,_,.own h1 h2 h3 t,n=>.own h1 h2 (fun z=>by
   rcases RM.mp z with z | z
   ·exact h3 z
   ·exact n (RH.mp z ▸ RA)) (t.snoc (xs:=xs) (ds:=ds) e r fun z=>n (RG _ z))
theorem eW.get:∀ {xs:List V}{ds:Ub}{fp:Uh}{m:Nat},eW K H Hm xs ds fp->ds[m]?=some (.list es)->∃ b ys,xs[m]?=some (.ref b)/\H b=some (.lst ys)/\aG K Hm ys es/\b∈fp
 | _,_,_,_,.nil,h=>by simp at h
 | _,_,_,0,.lY e _ _,h=>by
  simp at h;rw [h] at e;cases e
 | _,_,_,m + 1,.lY _ _ t,h=>t.get (m:=m) (by simpa using h)
 | _,_,_,0,.own e r _ _,h=>by
  simp at h;subst h;exact ⟨_,_,rfl,e,r,RA⟩
 | _,_,_,m + 1,.own _ _ _ t,h=>by
  obtain ⟨b,ys,h1,h2,h3,h4⟩:=t.get (m:=m) (by simpa using h)
  exact ⟨b,ys,h1,h2,h3,RG _ h4⟩
theorem eW.put {b:Addr}(r:aG K Hm ys new):∀ {xs:List V}{ds:Ub}{fp:Uh}{m:Nat},eW K H Hm xs ds fp->xs[m]?=some (.ref b)->(∃ es,ds[m]?=some (.list es))->eW K (upd H b (.lst ys)) Hm xs (ds.set m (.list new)) fp
 | _,_,_,_,.nil,h,_=>by simp at h
 | _,_,_,0,.lY e _ _,_,⟨es,h⟩=>by
  simp at h;rw [h] at e;cases e
 | _,_,_,m + 1,.lY e h2 t,h,⟨es,h'⟩=>.lY e h2 (t.put (m:=m) r (by simpa using h) ⟨es,by simpa using h'⟩)
 | _,_,_,0,.own (b:=b') e r' n t,h,_=>by
  simp at h;subst h;exact .own aL r n (t.step (aj.refl _) fun a ha=>ao fun z=>n (z ▸ ha))
 | _,_,_,m + 1,.own (b:=b') (fp:=fp) e r' n t,h,⟨es,h'⟩=>by
  have h:_:=h;obtain ⟨b2,ys2,g1,g2,g3,g4⟩:=t.get (m:=m) (es:=es) (by simpa using h')
  simp at h;rw [h] at g1;cases g1;refine .own (by rw [ao (show b'≠b from fun z=>n (by rw [z];exact g4))];exact e) r' n (t.put (m:=m) r h ⟨es,by simpa using h'⟩)
def Rl.QE (R:Rl K g E σ H Hm F){i:Nat}{b:Addr}(e:E[i]?=some (some (k,d)))(hv:σ[i]?=some (some v))(hb:b∈F i)(new:Own K (upd H b o) Hm k v d' (F i))(nt:rK o)(hp:k=.ow true->∃ ds,d'=.list ds) :
  Rl K g (E.set i (some (k,d'))) σ (upd H b o) Hm F:=by
 have na:=R.off i b hb;have up:∀ c,c≠b->upd H b o c=H c:=fun c hc=>ao hc
 have li:=bJ e;exact {
  len:=by rw [SH];exact R.len
  sub:=fun c u hc=>by
   have:c≠b:=fun z=>by rw [z,na] at hc;cases hc
   rw [up c this];exact R.sub c u hc
  slot:=fun j k' d'' e'=>by
   by_cases c:j=i
   ·subst c;rw [aM li] at e';cases e';exact ⟨_,hv,new⟩
   ·rw [au (Ne.symm c)] at e';obtain ⟨u,g1,g2⟩:=R.slot j k' d'' e';refine ⟨u,g1,g2.step (aj.refl _) fun a ha=>up a fun z=>c (R.aV j i b (z ▸ ha) hb)⟩
  off:=R.off
  bW:=fun j a ha=>by
   by_cases c:a=b
   ·rw [c];exact ⟨_,aL,nt⟩
   ·rw [up a c];exact R.bW j a ha
  aV:=R.aV
  fr:=fun q u hq ho=>by
   have:q≠b:=fun z=>by
    rcases R.new i b hb with y | y
    ·exact hq (z ▸ y)
    ·rw [z,y] at ho;cases ho
   rw [up q this];exact R.fr q u hq ho
  new:=R.new
  pin:=fun q hq=>by
   obtain ⟨g1,ds',g2⟩:=R.pin q hq
   by_cases c:i=q.1
   ·rw [<- c] at g1 g2 ⊢;rw [e] at g2;cases g2;obtain ⟨ds,rfl⟩:=hp rfl;exact ⟨g1,ds,aM li⟩
   ·exact ⟨g1,ds',by rw [au c];exact g2⟩
  old:=R.old }
def J3 (h:cM t d E=some E'):E'.length=E.length:=by
 have go:∀ {is:Uq}{ds:Ub}{E E':En},b7 is ds E=some E'->E'.length=E.length:=by
  intro is
  induction is with
  | nil=>intro ds E E' h;cases ds with | nil=>cases h;rfl | cons _ _=>cases h
  | cons j is ih =>
   intro ds E E' h;cases ds with
   | nil=>cases h
   | cons d ds =>
    rw [b7] at h
    by_cases o:b9 E j=true
    ·rw [if_pos o] at h;rw [ih h,SH]
    ·rw [if_neg o] at h;cases h
 cases t with
 | nm j=>exact go (is:=[j]) h
 | tp js =>
  cases d with
  | tuple ds=>exact go (is:=js) h
  | _=>cases h
end
section
variable {X:Cx}{Ex:XK}{π cs:Uq}{elt tg iter:Expr}{ifs:Ul}{scope:Scope}{pos:Pos}
def Gx {vs:Us}{t:Tg}(B:cT X scope vs NB ix)(hc:X.calm=true)(hcs:cs.length=vs.length)(hix:∀ i∈ix,i < π.length)(aV:∀ c∈cs,c∉π)(nd:(bA π cs ix).Nodup)
  (hi:SI X Ex π tg iter di)(ht:∀ (C:Addr)(s:Shared)(H:Hp)(fp:Uh),eo (X.block scope C NB s H fp) (bA π cs ix) tg t)(hts:∀ i∈t.slots,i∈cs)(hif:∀ (C:Addr)(s:Shared)(H:Hp)(fp:Uh),fV (X.block scope C NB s H fp) E0 (bA π cs ix) ifs c)
  (hr:∀ (C:Addr)(s:Shared)(H:Hp)(fp:Uh),SE (X.block scope C NB s H fp) E0 (bA π cs ix) elt e)
  (hs:∀ v,foldedSetIterable iter X.env v=pure v){w:(V->Hp->Prop)->St->Hp->Prop}
  (hw:∀ {wi:TI}{G:TG}{tt:TT}{tr:TL}{σ:St}{H:Hp}{Q:VK},PI X tg iter wi->(∀ (C:Addr)(s:Shared)(H:Hp)(fp:Uh),PG (X.block scope C NB s H fp) tg G)->(∀ (C:Addr)(s:Shared)(H:Hp)(fp:Uh),oB (X.block scope C NB s H fp) ifs tt) ->
   (∀ (C:Addr)(s:Shared)(H:Hp)(fp:Uh)(D:Addr),PL (X.block scope C NB s H fp) D elt (⟨tg,iter,ifs,0⟩:: []) scope pos 1 tr)->lH wi vs.length ix G tt tr σ H Q->w Q σ H)
  (g:Gh)(x:XC)(E:En)(σ:St)(H Hm:Hp)(F:Nat->Uh)(P:Ut)(Q:VK)(hx:XL X Ex x g)(R:Rl X.K g E σ H Hm F)(p:qT sizeLine cs di t c e x E P)
  (q:∀ E' k v u H' Hm' F' fp,P E' k v->Rl X.K g E' σ H' Hm' F'->aj Hm Hm'->Tm X.K g F' H' Hm' k u v fp->Q u H'):w Q (sel π σ) H:=by
 obtain ⟨wi,hpi,hwi⟩:=hi;refine hw (wi:=wi) (G:=fun v σ H Q=>∀ (C:Addr)(s:Shared)(H2:Hp)(fp:Uh),WG (X.block scope C NB s H2 fp) tg v σ H Q) (tt:=fun σ H Q=>∀ (C:Addr)(s:Shared)(H2:Hp)(fp:Uh),uv (X.block scope C NB s H2 fp) ifs σ H Q)
  (tr:=Iw fun σ H Q=>∀ (C:Addr)(s:Shared)(H2:Hp)(fp:Uh),WE (X.block scope C NB s H2 fp) elt σ H Q) hpi (fun C s H2 fp pins s' σ H v u Q I r h=>h C s H2 fp pins s' u I r) (fun C s H2 fp pins s' σ H Q I h=>h C s H2 fp pins s' I)
  (fun C s H2 fp D=>Ay (fun pins s' σ H Q I h=>h C s H2 fp pins s' I)) ?_
 refine hwi g x E σ H Hm F _ _ hx R p fun E1 xs J H1 Hm1 F1 p1 R1 s1 it1=>?_
 obtain ⟨E0',I,hcl,i0,step,fin⟩:=p1;obtain ⟨σ0,F0,R0,a0,n0⟩:=R1.bD hcl;rw [<- hcs,vO hix aV a0 fun c hc=>(n0 c hc).1]
 refine ⟨fun i m ys τ H'=>m=xs.length - i/\i<=xs.length/\∃ E' dys' σ' Hm' F' fp,I i dys' E'/\Rl X.K g E' σ' H' Hm' F'/\aj Hm1 Hm'/\eW X.K H' Hm' ys dys' fp/\lP g F' H' Hm' fp/\Agree cs σ0 σ'/\τ=sel (bA π cs ix) σ',
  ⟨xs.length,by simp,S8 _,E0',[],σ0,Hm1,F0,[],i0,R0,aj.refl _,.nil,⟨(fun _ z=>by cases z),(fun _ z=>by cases z),(fun _ z=>by cases z),fun _ z=>by cases z⟩,Agree.refl _ _,rfl⟩,?_⟩
 rintro i m ys τ H2 ⟨rfl,hi,E2,dys2,σ2,Hm2,F2,fp,i2,R2,s2,r2,A2,a2,rfl⟩;obtain ⟨go,stop⟩:=it1 i H2 Hm2 s2 R2.sub
 by_cases c':i < xs.length
 ·obtain ⟨go,su⟩:=go xs[i] (RS c');refine .inr ⟨go,fun ys τ H'=>i + 1<=xs.length/\∃ E' dys' σ' Hm' F' fp,I (i + 1) dys' E'/\Rl X.K g E' σ' H' Hm' F'/\aj Hm1 Hm'/\eW X.K H' Hm' ys dys' fp/\lP g F' H' Hm' fp/\Agree cs σ0 σ'/\τ=sel (bA π cs ix) σ',fun ys τ H' z=>⟨xs.length - (i + 1),by omega,rfl,z⟩,fun x H3 y C s H9 fp9=>?_⟩
  obtain ⟨Hm3,t1,t2,t3,old,rx⟩:=su x H3 y;have R3:=R2.turn t1 t2 t3 old;have k3:∀ a∈fp,H3 a=H2 a:=fun a ha=>by
   cases e:H2 a with
   | none=>exact absurd e (A2.bW a ha)
   | some o=>exact t3 _ _ e
  have A3:lP g F2 H3 Hm3 fp:=⟨fun a ha=>by rw [k3 a ha];exact A2.Bm a ha,fun a ha=>by
   obtain ⟨u,hu,nt⟩:=A2.Bm a ha;exact (old a (A2.bW a ha)).off (A2.off a ha) t2 (t3 _ _ hu) nt,A2.aV,A2.new⟩
  have r3:=r2.step (H':=H3) t1 k3;have nM:=A3.notM R3;obtain ⟨E4,e4,p4⟩:=step i xs[i] dys2 E2 (RS c') i2;obtain ⟨G,g1,g2⟩:=rj (X:=X.block scope C NB s H9 fp9) hc B.nd nd (ht C s H9 fp9);refine WG.of g1 (g2 (g:=g.iz H3 fp) e4 rx (R3.iz A3) fun σ4 F4 R4 ag=>?_)
  have a4:Agree cs σ0 σ4:=a2.trans ⟨by rw [<- R3.len,<- R4.len,J3 e4],fun j hj=>ag j fun z=>hj (hts j z)⟩
  intro C2 s2' H92 fp92;refine (hif C2 s2' H92 fp92).ok XL.no R4 p4 fun E5 b H5 Hm5 F5 p5 R5 s5=>?_
  cases b with
  | true =>
   refine pI fun C3 s3' H93 fp93=>?_
   refine hr C3 s3' H93 fp93 (g.iz H3 fp) xF E5 σ4 H5 Hm5 F5 _ _ XL.no R5 (by rw [if_pos rfl] at p5;exact p5) fun E6 k6 v6 u6 H6 Hm6 F6 fp6 p6 R6 s6 T6=>?_
   obtain ⟨⟨pb,rfl⟩,hl,p6⟩:=p6;obtain ⟨R6',A6,k6⟩:=Rl.zF A3 nM R6;have T1:=T6.own;have hlen:ys.length=dys2.length:=by
    have:∀ {xs:List V}{ds:Ub}{fp:Uh}{H Hm:Hp},eW X.K H Hm xs ds fp->xs.length=ds.length:=by
     intro xs ds fp H Hm h
     induction h with
     | nil=>rfl
     | lY _ _ _ ih=>rw [Ru,Ru,ih]
     | own _ _ _ _ ih=>rw [Ru,Ru,ih]
    exact this r2
   cases T1 with
   | @ow _ b zs es hb rz =>
    have nb:b∉fp:=fun z=>by
     have:=T6.new b RA;rw [oA z] at this;exact A3.bW b z this
    have r6:=(r3.step (H':=H6) (s5.trans s6) k6).snoc (xs:=[]) (ds:=[]) hb rz nb;refine ⟨by rw [hlen];exact hl,c',E6,_,σ4,Hm6,F6,fp++[b],p6,R6',s2.trans (t1.trans (s5.trans s6)),r6,⟨fun a ha=>?_,fun a ha=>?_,fun a ha=>?_,fun a ha=>?_⟩,a4,rfl⟩
    ·rcases RM.mp ha with ha | ha
     ·exact A6.Bm a ha
     ·rw [RH.mp ha];exact ⟨_,hb,lB⟩
    ·rcases RM.mp ha with ha | ha
     ·exact A6.off a ha
     ·rw [RH.mp ha];exact T6.off b RA
    ·rcases RM.mp ha with ha | ha
     ·exact A6.aV a ha
     ·rw [RH.mp ha];exact T6.aV b RA
    ·rcases RM.mp ha with ha | ha
     ·exact A6.new a ha
     ·rw [RH.mp ha];have:=T6.new b RA;rw [iI nb] at this;exact this
  | false =>
   obtain ⟨R5',A5,k5⟩:=Rl.zF A3 nM R5;exact oO ⟨c',E5,dys2,σ4,Hm5,F5,fp,by simpa using p5,R5',s2.trans (t1.trans s5),r3.step (H':=H5) s5 k5,A5,a4,rfl⟩
 ·have e:i=xs.length:=by omega
  subst e;refine .inl ⟨stop (RE _),fun p hp=>?_⟩
  obtain ⟨E3,hcl2,p2⟩:=fin _ _ i2;obtain ⟨σ3,F3,R3p,a3,n3⟩:=(R2.iz A2).bD hcl2;obtain ⟨R3,A3,_⟩:=Rl.zF A2 (A2.notM R2) R3p;have R3':=R3.agree (cs:=cs) ((a0.trans a2).trans a3).symm fun c hc=>(n3 c hc).2
  have s3:=bZ (o:=.lst ys) hp;have R4:=R3'.grow (H':=upd H2 p (.lst ys)) s3 (aj.refl _) (R3'.sub.trans s3) (fun i a ha=>R3'.off i a ha) fun _ _=>.inl rfl
  have np:p∉fp:=fun z=>A2.bW p z hp
  refine q _ _ _ _ _ Hm2 F3 (p::fp) p2 R4 (s1.trans s2) ⟨.dp aL np (r2.step (H':=upd H2 p (.lst ys)) (aj.refl _) fun a ha=>ao fun z=>np (z ▸ ha)),fun a ha=>?_,fun a ha i=>?_,fun a ha=>?_⟩
  ·rcases RJ.mp ha with rfl | ha
   ·exact R3'.lG hp
   ·exact A2.off a ha
  ·rcases RJ.mp ha with rfl | ha
   ·exact R3'.fresh hp
   ·exact A3.aV a ha i
  ·rcases RJ.mp ha with rfl | ha
   ·exact R3'.fj hp
   ·exact A2.new a ha
end
section
variable {X:Cx}{Ex:XK}{π cs:Uq}{elt tg iter:Expr}{ifs:Ul}{scope:Scope}{pos:Pos}
def Qz {j:Nat}(hN:X.N.Nodup)(B:nL X.N X.env.scope scope vs NB ix=true)(hi:SI X Ex (aQ X) tg iter di)(ht:∀ (C:Addr)(s:Shared)(H:Hp)(fp:Uh),eo (X.block scope C NB s H fp) (bA (aQ X) cs ix) tg t)
  (hif:∀ (C:Addr)(s:Shared)(H:Hp)(fp:Uh),fV (X.block scope C NB s H fp) E0 (bA (aQ X) cs ix) ifs c)(hr:∀ (C:Addr)(s:Shared)(H:Hp)(fp:Uh),SE (X.block scope C NB s H fp) E0 (bA (aQ X) cs ix) elt e)
  (hj:X.N[j]?=some y:=by rfl)(hy:X.env.scope.names.lookup y=some .local:=by rfl)(hsw:swapsWith (.ListComp elt [⟨tg,iter,ifs,0⟩] scope pos) (some (.Name y py)) spos.line X.env=pure true:=by rfl)
  (hc:X.calm=true:=by rfl)(ck:sI (aQ X) cs ix vs t.slots=true:=by rfl)(hs:∀ v,foldedSetIterable iter X.env v=pure v:=by intro _;rfl):S1 X Ex (.Assign [.Name y py] (.ListComp elt [⟨tg,iter,ifs,0⟩] scope pos) spos) (aS j (qT sizeLine cs di t c e)):=by
 obtain ⟨h1,h2,h3,h4,h5⟩:=qQ ck;have B':cT X scope vs NB ix:=cT.of B;have ha:∀ g∈([]:Tp),g.is_async=0:=fun _ z=>by cases z
 rw [qY];intro g D' E σ H Hm F D hx R p nx rt;refine Gx B' hc h1 h2 h3 h4 hi ht h5 hif hr hs (w:=fun Q τ H=>(Q=fun u H1=>D.nx (τ.set j (some u)) H1)->WS X (.Assign [.Name y py] (.ListComp elt [⟨tg,iter,ifs,0⟩] scope pos) spos) D τ H)
  (fun g1 g2 g3 g4 g5 e=>by
   subst e;exact WS.of (yO hN hj hy B' hc g1 g2 g3 g4 hsw ha hs) g5) g D'.xc E σ H Hm F _ _ hx R p (fun E' k v u H' Hm' F' fp p' R' s' T=>?_) rfl
 rw [kY Sl (iT (bJ hj)) (R'.len ▸ iS p'.1)];exact nx _ _ _ _ _ p'.2 (R'.put T p'.1) s'
def xQ {i n:Nat}(h:dD E n=some E')(ne:i≠n):E'[i]?=E[i]?:=by
 unfold dD at h;split at h
 ·split at h
  ·cases h;exact au (Ne.symm ne)
  ·cases h
 ·cases h
def MR {x y name:Str}{id:String}{p yp sp apos cpos:Pos}{jx:Expr}{f:DM}{r:V->List V->Hp->VK->Prop}{dj:DE}{i j n jn:Nat}(hm:wg X id r)(D:Bv X.K f r)(slot:Slot "list" name id)(hty:typeOf (.builtin id)=pure (.type "method_descriptor"))
  (hv:PE X (.Name x p) (jL j))(hj:π[j]?=some i)(hy:PE X (.Name y yp) (jL jn))(hjn:π[jn]?=some n)(hs:nN jx)(hd:SE X Ex π jx dj)(hline:(apos.endLine == cpos.line)=true) :
  SE X Ex π (.Call (.Attribute (.Subscript (.Name x p) jx sp) name apos) [.Name y yp] [] cpos) (yG f i dj n):=by
 intro g xc E σ H Hm F P Q hx R h q;obtain ⟨hh,h⟩:=h;obtain ⟨o,ho⟩:=mC R hh;refine WE.of (xw PySem.F.plainAttrs_list slot hty hm (bg (e:=.Subscript (.Name x p) jx sp)) (ff (es:=[.Name y yp]) rfl) rfl (EX rfl (show 1 < 30 by decide)) hline rfl rfl) ?_
 refine WE.of (Jh DJ hv bg hs) ⟨o,dm hj ho,?_⟩;refine hd g xc E σ H Hm F _ _ hx R h fun E1 k1 w u1 H1 Hm1 F1 fp1 p1 R1 s1 T1=>?_
 obtain ⟨a,pp,ds,m,es,k,d,E2,rfl,e1,hix,hes,en,ne,hf,p1⟩:=p1;cases T1.own.int;obtain ⟨v',h1,h2⟩:=R1.slot i _ _ e1;rw [ho] at h1;cases h1;obtain ⟨vn,Hm2,F2,hvn,s2,R2,rn⟩:=R1.dD en hf;have e2:E2[i]?=some (some (.dp pp,.list ds)):=(xQ hf ne).trans e1;obtain ⟨v2,h3,h4⟩:=R2.slot i _ _ e2;rw [ho] at h3;cases h3;generalize hfi:F2 i=fi at h4;cases h4 with
 | @dp _ a0 xs _ fq ha0 n0 it0 =>
  obtain ⟨b,ys,hxm,hb,ry,mb⟩:=it0.get hes;have hlen:xs.length=ds.length:=by
   have:∀ {xs:List V}{ds:Ub}{fp:Uh}{H Hm:Hp},eW X.K H Hm xs ds fp->xs.length=ds.length:=by
    intro xs ds fp H Hm h
    induction h with
    | nil=>rfl
    | lY _ _ _ ih=>rw [Ru,Ru,ih]
    | own _ _ _ _ ih=>rw [Ru,Ru,ih]
   exact this it0
  refine .inl ⟨_,xs,a,.ref b,rfl,rfl,bT.of ha0,?_,.inl ⟨rfl,_,bT.of hb⟩,?_⟩
  ·show (p7 xs.length a).bind (fun j=>xs[j]?)=some (.ref b)
   rw [hlen,show p7 ds.length a=some m from hix]
   exact hxm
  ·refine WE.of hy ⟨vn,dm hjn hvn,?_⟩;show r (.ref b) [vn] H1 Q;have mbF:b∈F2 i:=by rw [hfi];exact RG _ mb
   refine D H1 Hm2 b ys es [vn] [d] _ Q hb (R2.off i b mbF) R2.sub ry (.cons rn .nil) p1 fun ys' new u v p2 ry' ru=>?_
   have nab:a0≠b:=fun z=>n0 (z ▸ mb)
   have R3:=R2.QE (o:=.lst ys') (d':=.list (ds.set m (.list new))) e2 ho mbF (by
    rw [hfi];exact .dp (by rw [ao nab];exact ha0) n0 (it0.put ry' hxm ⟨es,hes⟩)) lB fun z=>by cases z
   exact q _ _ _ _ _ _ _ [] p2 R3 (s1.trans s2) (Tm.sh ru)
def Po (j jn:Nat){i n:Nat}{x y name:Str}{id:String}{p yp sp apos cpos:Pos}{jx:Expr}{f:DM}{r:V->List V->Hp->VK->Prop}{dj:DE}(hm:wg X id r)(D:Bv X.K f r)(slot:Slot "list" name id)(hty:typeOf (.builtin id)=pure (.type "method_descriptor"))(hd:SE X Ex π jx dj)
  (hN:X.N[j]?=some x:=by rfl)(hv:ko X.env.scope x:=by first | exact Or.inl rfl | exact Or.inr (Or.inl rfl) | exact Or.inr (Or.inr rfl))(hj:π[j]?=some i:=by rfl)(hNn:X.N[jn]?=some y:=by rfl)(hvn:ko X.env.scope y:=by first | exact Or.inl rfl | exact Or.inr (Or.inl rfl) | exact Or.inr (Or.inr rfl))(hjn:π[jn]?=some n:=by rfl)(hs:nN jx:=by intro _ _;rfl)(hline:(apos.endLine == cpos.line)=true:=by rfl)
  (hb:(x == ("__debug__":Str))=false:=by decide)(hcd:(x == ("__classdict__":Str))=false:=by decide)(hbn:(y == ("__debug__":Str))=false:=by decide)(hcn:(y == ("__classdict__":Str))=false:=by decide) :
  SE X Ex π (.Call (.Attribute (.Subscript (.Name x p) jx sp) name apos) [.Name y yp] [] cpos) (yG f i dj n):=MR hm D slot hty (fQ hN hv hb hcd) hj (fQ hNn hvn hbn hcn) hjn hs hd hline
end
section
variable {P:Program}{w:World}{K:Frag}{mg:UE}{base:Heap}{N:Us}{qual:Str}{scope:Scope}{f:Addr}{cd:Value}{A:Around}{outer:List Env}{s0:Shared}{H0:Hp}{Ex:XK}
def oj {j}(h:∃ C,mg x=some (.ref C)/\f7 K C uh "ValueError.__new__" none=true)(hg:Gl (gW (fY P w) P w K mg base N qual scope f cd A outer s0 H0 Ex) x:=by rfl)(hdb:(x == ("__debug__":Str))=false:=by decide) :
  S1 (gW (fY P w) P w K mg base N qual scope f cd A outer s0 H0 Ex) Ex (.Raise (some (.Call (.Name x np) [.Constant (.str y) j p] [] cpos)) none pos) (lq x):=by
 obtain ⟨C,h⟩:=h;intro g D' E σ H Hm F D hx R hp nx rt;refine WS.of (GR h.2 hg h.1 (fS Fx iZ) hdb) ⟨by show 1<=sizeLine;decide,fun a ha=>?_⟩
 exact hx x .none C a _ h.1 hp (fun p o hp ho=>bZ ha _ _ (R.fr p o hp ho)) aL (R.fj ha)
end
end Dv
namespace Dv
open PySem L2
def Ih (most:Nat)(E:En) (i:Nat)(v:PyData)(Q:Uz):Prop:=match E[i]?,v with
 | some (some (.ow p,.list ds)),.list es=>ds.length + es.length<=most/\Q (E.set i (some (.ow p,.list (ds++es))))
 | _,_=>False
universe u
def aI {a b:Prop}(x:a)(y:b):a/\b:=⟨x,y⟩
theorem rr0:dC v x E Q=Q E .sh v:=rfl
theorem rr1:aX i x (o::E) Q=EN (o::E) i Q:=rfl
theorem rr2:ah r as x (o::E) Q=kP as x (o::E) fun E1 os=>zc r as E1 os Q:=rfl
theorem rr3:aA sp ms as x (o::E) Q=kP as x (o::E) fun E1 os=>DY sp ms as x E1 os Q:=rfl
theorem rr4:bG d x (o::E) Q=d x (o::E) fun E' _ v=>ux v (Q E'):=rfl
theorem rr5:Gf i x (o::E) Q=EE (o::E) i Q:=rfl
theorem rr6:yu t x (o::E) Q=t x (o::E) fun E' b=>Q E' (!b):=rfl
theorem rr7:kE a b x (o::E) Q=a x (o::E) fun E1 _ v=>Bq v fun c=>dX c (b x E1 Q) (Q E1 .sh (.bool false)):=rfl
theorem rr8:p8 a b x (o::E) Q=a x (o::E) fun E1 _ v=>Bq v fun c=>dX c (Q E1 .sh (.bool true)) (b x E1 Q):=rfl
theorem rr9:pe a x (o::E) Q=a x (o::E) fun E1 _ v=>ux v fun c=>Q E1 .sh (.bool !c):=rfl
theorem rr10:kg f f' a b c x (o::E) Q=a x (o::E) fun E1 _ u=>rP u fun i=>b x E1 fun E2 _ v=>rP v fun j=>dX (f i j) (c x E2 fun E3 _ w=>rP w fun k=>Q E3 .sh (.bool (f' j k))) (Q E2 .sh (.bool false)):=rfl
theorem rr11:AI c a b x (o::E) Q=c x (o::E) fun E1 t=>dX t (a x E1 Q) (b x E1 Q):=rfl
theorem rr12:cR D E=D.nx E:=rfl
theorem rr13:aC a b D (o::E)=a { D with nx:=b D } (o::E):=rfl
theorem rr14:cE c a b D (o::E)=c D.xc (o::E) fun E1 t=>dX t (a D E1) (b D E1):=rfl
theorem rr15:aS i e D (o::E)=e D.xc (o::E) fun E' k v=>bK (tP E' i) (D.nx (E'.set i (some (k,v)))):=rfl
theorem rr16:tD is e D (o::E)=e D.xc (o::E) fun E' k v=>bK k.fz (IX is v E' D.nx):=rfl
theorem rr17:bH e D (o::E)=e D.xc (o::E) D.rt:=rfl
theorem rr18:mX i D (o::E)=Df (o::E) i D.rt:=rfl
theorem rr19:uU f i es x (o::E) Q=bK (jJ (o::E) i) (kP (es.map .ev) x (o::E) fun E1 os=>FE f i (es.map .ev) E1 os Q):=rfl
theorem rr20:fH i j e D (o::E)=e D.xc (o::E) fun E1 k v=>bK k.fz (bK (here E1 i) (j D.xc E1 fun E2 k2 w=>bK k2.fz (fH.setI E2 i w v D.nx))):=rfl
theorem rr21:QD f i e D (o::E)=bK (here (o::E) i) (e D.xc (o::E) fun E1 _ v=>Nn f E1 i v D.nx):=rfl
theorem rr22:lq c D E=D.xc c .none:=rfl
theorem rr23:dM e D (o::E)=e D.xc (o::E) fun E' _ _=>D.nx E':=rfl
theorem rr24:dR x E Q=Q E true:=rfl
theorem rr25:iE e x (o::E) Q=e x (o::E) fun E' k v=>bK k.fz (Ij v fun xs=>Q E' xs):=rfl
theorem rr26:jy g as x (o::E) Q=kP as x (o::E) fun E1 os=>aO (dN as E1 os) fun ds=>aO (g ds) fun xs=>Q E1 xs:=rfl
theorem rr27:wk e x (o::E) Q=e x (o::E) fun E' k v=>bK k.fz (wU v fun ds=>Q E' (j4 ds)):=rfl
theorem rr28:xT a b x (o::E) Q=a x (o::E) fun E1 k v=>bK k.fz (b x E1 fun E2 k2 v2=>bK k2.fz (wU v fun ds=>wU v2 fun es=>Q E2 ((ds.zip es).map fun p=>.tuple [p.1,p.2]))):=rfl
theorem rr29:bL most e x ys (o::E) Q=e x (o::E) fun E1 k v=>k.fz=true/\ys.length < most/\Q (ys++[v]) E1:=rfl
theorem rr30:kP [] x E Q=Q E []:=rfl
theorem rr31:kP (.pk i::r) x (o::E) Q=bK (here (o::E) i) (kP r x (o::E) fun E' os=>Q E' (none::os)):=rfl
theorem rr32:kP (.ev d::r) x (o::E) Q=d x (o::E) fun E1 k v=>bK k.fz (kP r x E1 fun E' os=>Q E' (some v::os)):=rfl
theorem rr33:dN [] E []=some []:=rfl
theorem rr34:∀ {i:Nat}{r:List Arg}{o:Uv}{E:En}{os:Uu},dN (.pk i::r) (o::E) (none::os)=match (o::E)[i]? with
  | some (some (k,d))=>dX k.rd ((dN r (o::E) os).map (d::·)) none
  | _=>none:=rfl
theorem rr35:∀ {d:DE}{v:PyData}{r:List Arg}{E:En}{os:Uu},dN (.ev d::r) E (some v::os)=(dN r E os).map (v::·):=rfl
theorem rr36:aO (some a) Q=Q a:=rfl
theorem rr37:aO none Q=False:=rfl
theorem rr38:here (o::E) i=match (o::E)[i]? with
  | some (some _)=>true
  | _=>false:=rfl
theorem rr39:bM (some (k,d))=!k.pin:=rfl
theorem rr40:bM none=true:=rfl
theorem rr41:jJ (o::E) i=match (o::E)[i]? with
  | some (some (.ow _,.list _))=>true
  | _=>false:=rfl
theorem rr42:kM (o::E) i=match (o::E)[i]? with
  | some (some (.sh,_))=>true
  | _=>false:=rfl
theorem rr43:sY (o::E) i=match (o::E)[i]? with
  | some (some (k,d))=>dX k.fz (some ((o::E).set i (some (.sh,d)))) none
  | _=>none:=rfl
theorem rr44:jX [] E=some E:=rfl
theorem rr45:jX (i::r) E=(sY E i).bind (jX r):=rfl
theorem rr46:EN (o::E) i Q=match (o::E)[i]? with
  | some (some (_,d))=>aO (sY (o::E) i) fun E'=>Q E' .sh d
  | _=>False:=rfl
theorem rr47:Df (o::E) i Q=match (o::E)[i]? with
  | some (some (k,d))=>bK (!k.pin) (Q ((o::E).set i none) k d)
  | _=>False:=rfl
theorem rr48:EE (o::E) i Q=match (o::E)[i]? with
  | some (some (k,d))=>bK k.rd (ux d (Q (o::E)))
  | _=>False:=rfl
theorem rr49:∀ {r:DR}{as:List Arg}{o:Uv}{E:En}{os:Uu}{Q:Ut},zc r as (o::E) os Q=aO (dN as (o::E) os) fun ds=>r ds fun k v=>aO (sE as (o::E) k v) fun E2=>Q E2 k v:=rfl
theorem rr50:∀ {sp:aZ}{ms:Uk}{as:List Arg}{x:XC}{o:Uv}{E:En}{os:Uu}{Q:Ut},DY sp ms as x (o::E) os Q=aO (dN as (o::E) os) fun ds=>bK (t9 ms as (o::E)) (sp ds (fun us k v=>Dc ms as (o::E) us k v Q) x):=rfl
theorem rr51:∀ {f:DM}{i:Nat}{as:List Arg}{o:Uv}{E:En}{os:Uu}{Q:Ut},FE f i as (o::E) os Q=aO (dN as (o::E) os) fun args=>match (o::E)[i]? with
  | some (some (.ow p,.list ds))=>f ds args fun new v=>Q ((o::E).set i (some (.ow p,.list new))) .sh v
  | _=>False:=rfl
theorem rr52:Nn f (o::E) i v Q=match (o::E)[i]? with
  | some (some (_,.int a))=>rP v fun b=>Q ((o::E).set i (some (.sh,.int (f a b))))
  | _=>False:=rfl
theorem rr53:ux (.bool b) Q=Q b:=rfl
theorem rr54:Bq (.bool b) Q=Q b:=rfl
theorem rr55:rP (.int i) Q=Q i:=rfl
theorem rr56:ux (.list ds) Q=Q (!ds.isEmpty):=rfl
theorem rr57:Ij (.list ds) Q=Q ds:=rfl
theorem rr58:Ij (.tuple ds) Q=Q ds:=rfl
theorem rr59:wU (.list ds) Q=Q ds:=rfl
theorem rr60:sE as (o::E) k v=dX ((iQ as).all (kM (o::E)) || flat k v) (some (o::E)) (jX (iQ as) (o::E)):=rfl
theorem rr61:iQ []=[]:=rfl
theorem rr62:iQ (.pk i::r)=i::iQ r:=rfl
theorem rr63:iQ (.ev d::r)=iQ r:=rfl
theorem rr64:Kd.fz .sh=true:=rfl
theorem rr65:Kd.fz (.ow false)=true:=rfl
theorem rr66:Kd.fz (.dp false)=true:=rfl
theorem rr67:Kd.fz (.dk false)=true:=rfl
theorem rr68:Kd.fz (.dt false)=true:=rfl
theorem rr69:Kd.rd .sh=true:=rfl
theorem rr70:Kd.rd (.ow p)=true:=rfl
theorem rr71:Kd.rd (.dp p)=true:=rfl
theorem rr72:Kd.rd (.dk p)=true:=rfl
theorem rr73:Kd.rd (.dt p)=true:=rfl
theorem rr74:Kd.pin .sh=false:=rfl
theorem rr75:Kd.pin (.ow p)=p:=rfl
theorem rr76:Kd.pin (.dp p)=p:=rfl
theorem rr77:Kd.pin (.dk p)=p:=rfl
theorem rr78:Kd.pin (.dt p)=p:=rfl
theorem rr79:flat .sh v=lf v:=rfl
theorem rr80:lf (.int i)=true:=rfl
theorem rr81:lf (.bool b)=true:=rfl
theorem rr82:lf (.str s)=true:=rfl
theorem rr83:lf .none=true:=rfl
theorem rr84:(aT ms Q x).xc=x:=rfl
theorem rr85:(aT ms Q x).nx (o::E)=aO (fL ms (o::E)) fun us=>Q us .sh .none:=rfl
theorem rr86:(aT ms Q x).rt (o::E) k v=aO (fL ms (o::E)) fun us=>Q us k v:=rfl
theorem rr87:fL [] E=some []:=rfl
theorem rr88:fL (true::ms) (some (.ow true,.list es)::E)=(fL ms E).map (.list es::·):=rfl
theorem rr89:fL (false::ms) (o::E)=fL ms E:=rfl
theorem rr90:ini (true::ms) (d::ds)=some (.ow true,d)::ini ms ds:=rfl
theorem rr91:ini (false::ms) (d::ds)=some (.sh,d)::ini ms ds:=rfl
theorem rr92:ini [] []=[]:=rfl
theorem rr93:List.replicate (n + 1) (none:Uv)=none::List.replicate n none:=rfl
theorem rr94:List.replicate 0 (none:Uv)=[]:=rfl
theorem rr95:∀ {α β:Type}{f:α->β}{a:α},(some a).map f=some (f a):=rfl
theorem rr96:∀ {α β:Type}{f:α->Option β}{a:α},(some a).bind f=f a:=rfl
theorem rr97:∀ {α:Type}{p:α->Bool},[].all p=true:=rfl
theorem rr98:∀ {α:Type}{p:α->Bool}{a:α}{l:List α},(a::l).all p=(p a && l.all p):=rfl
theorem rr99:(true && b)=b:=rfl
theorem rr100:(false && b)=false:=rfl
theorem rr101:(true || b)=true:=rfl
theorem rr102:(false || b)=b:=rfl
theorem rr103:((!true)=false):=rfl
theorem rr104:((!false)=true):=rfl
theorem rr105:∀ {α:Type}{l:List α},([]:List α)++l=l:=rfl
theorem rr106:∀ {α:Type}{a:α}{l m:List α},(a::l)++m=a::(l++m):=rfl
theorem rr107:tP (o::E) i=match (o::E)[i]? with
  | some o=>bM o
  | none=>false:=rfl
theorem rr108:bK true P=P:=rfl
theorem rr109:bK false P=False:=rfl
theorem rr110:∀ {α:Sort u}{a b:α},dX true a b=a:=rfl
theorem rr111:∀ {α:Sort u}{a b:α},dX false a b=b:=rfl
theorem rr112:IX is (.tuple ds) E Q=aO (stK is ds E) Q:=rfl
theorem rr113:stK [] [] E=some E:=rfl
theorem rr114:stK (i::is) (d::ds) (o::E)=dX (tP (o::E) i) (stK is ds ((o::E).set i (some (.sh,d)))) none:=rfl
theorem rr115:ni i []=false:=rfl
theorem rr116:ni i (j::l)=(i == j || ni i l):=rfl
theorem rr117:qN [] ks E=true:=rfl
theorem rr118:qN (i::r) ks E=((!ni i ks && !ni i r && jJ E i) && qN r ks E):=rfl
theorem rr119:∀ {α:Type}{o:α}{E:List α},(o::E)[0]?=some o:=rfl
theorem rr120:∀ {α:Type}{o:α}{E:List α}{n:Nat},(o::E)[n + 1]?=E[n]?:=rfl
theorem rr121:∀ {α:Type}{o a:α}{E:List α},(o::E).set 0 a=a::E:=rfl
theorem rr122:∀ {α:Type}{o a:α}{E:List α}{n:Nat},(o::E).set (n + 1) a=o::E.set n a:=rfl
def dv:=aI @rr0 <| aI @rr1 <| aI @rr2 <| aI @rr3 <| aI @rr4 <| aI @rr5 <| aI @rr6 <| aI @rr7 <| aI @rr8 <| aI @rr9 <| aI @rr10 <| aI @rr11 <| aI @rr12 <| aI @rr13 <| aI @rr14 <| aI @rr15 <| aI @rr16 <| aI @rr17 <| aI @rr18 <| aI @rr19 <| aI @rr20 <| aI @rr21 <| aI @rr22 <| aI @rr23 <| aI @rr24 <| aI @rr25 <| aI @rr26 <| aI @rr27 <| aI @rr28 <| aI @rr29 <| aI @rr30 <| aI @rr31 <| aI @rr32 <| aI @rr33 <| aI @rr34 <| aI @rr35 <| aI @rr36 <| aI @rr37 <| aI @rr38 <| aI @rr39 <| aI @rr40 <| aI @rr41 <| aI @rr42 <| aI @rr43 <| aI @rr44 <| aI @rr45 <| aI @rr46 <| aI @rr47 <| aI @rr48 <| aI @rr49 <| aI @rr50 <| aI @rr51 <| aI @rr52 <| aI @rr53 <| aI @rr54 <| aI @rr55 <| aI @rr56 <| aI @rr57 <| aI @rr58 <| aI @rr59 <| aI @rr60 <| aI @rr61 <| aI @rr62 <| aI @rr63 <| aI @rr64 <| aI @rr65 <| aI @rr66 <| aI @rr67 <| aI @rr68 <| aI @rr69 <| aI @rr70 <| aI @rr71 <| aI @rr72 <| aI @rr73 <| aI @rr74 <| aI @rr75 <| aI @rr76 <| aI @rr77 <| aI @rr78 <| aI @rr79 <| aI @rr80 <| aI @rr81 <| aI @rr82 <| aI @rr83 <| aI @rr84 <| aI @rr85 <| aI @rr86 <| aI @rr87 <| aI @rr88 <| aI @rr89 <| aI @rr90 <| aI @rr91 <| aI @rr92 <| aI @rr93 <| aI @rr94 <| aI @rr95 <| aI @rr96 <| aI @rr97 <| aI @rr98 <| aI @rr99 <| aI @rr100 <| aI @rr101 <| aI @rr102 <| aI @rr103 <| aI @rr104 <| aI @rr105 <| aI @rr106 <| aI @rr107 <| aI @rr108 <| aI @rr109 <| aI @rr112 <| aI @rr113 <| aI @rr114 <| aI @rr115 <| aI @rr116 <| aI @rr117 <| aI @rr118 <| aI @rr119 <| aI @rr120 <| aI @rr121 <| @rr122
def dw :
 (∀ {o:Uv}{E:En}{i:Nat},b9 (o::E) i=match (o::E)[i]? with
  | some o=>bM o
  | none=>false) /\
 (∀ {P:Prop},(True/\P)=P) /\
 (∀ {P:Prop},(P/\True)=P) /\
 (∀ {α:Type}{a:α},(a=a)=True) /\
 (∀ {b:Bool},(b || true)=true) /\
 (∀ {α:Type}{a b:α},(if True then a else b)=a) /\
 (∀ {α:Type}{a b:α},(if False then a else b)=b) /\
 (∀ {p:Prop} [Decidable p],(decide p=true)=p) /\
 ((true=false)=False) /\
 ((false=true)=False) /\
 (∀ {b:Bool},((!b)=true)=(b=false)) /\
 (∀ {p:Prop} [Decidable p],(decide p=false)=¬ p) /\
 (type_of% @eE) /\
 (∀ {α:Type}{p:Prop} [Decidable p]{a b:α},dX (decide p) a b=if p then a else b) /\
 (∀ {p:Prop} [Decidable p]{a b:Prop},dX (decide p) a b=if p then a else b) /\
 (∀ {b:Bool}{p q:Prop},dX b p q=if b=true then p else q) /\
 (∀ {α:Type}{b:Bool}{p q:α},dX b p q=if b=true then p else q) :=
 ⟨(by intro o E i;unfold b9 bM;generalize (o::E)[i]?=z;rcases z with _ | _ | ⟨k,d⟩ <;> rfl),(by intros;simp),(by intros;simp),(by intros;simp),(by intros;simp),(by intros;simp),(by intros;simp),(by intros;simp),(by intros;simp),(by intros;simp),(by intros;simp),(by intros;simp),@eE,(by intros;rw [cB];simp only [SJ]),(by intros;rw [cB];simp only [SJ]),(by intros;exact cB),(by intros;exact cB)⟩
def QN {x:PyData}{l:Ub}:fc (x::l) 0=some x:=by
 unfold fc p7;simp
def QM {x y:PyData}{l:Ub}:fc (x::y::l) 1=some y:=by
 unfold fc p7;simp;rw [if_pos (by omega)]
 rfl
def QT {n:Nat}:lU (n + 1) 0=some 0:=by
 unfold lU;simp
def Pz {n:Nat}:lU (n + 2) 1=some 1:=by
 unfold lU;simp;omega
theorem rr123:dH [.int a,.int b] P=P .sh (.int (a + b)):=rfl
theorem rr124:dH [.list a,.list b] P=(a.length + b.length<=sizeLine/\P (.ow false) (.list (a++b))):=rfl
theorem rr125:dH [.tuple a,.tuple b] P=((a≠[]/\a.length + b.length<=sizeLine)/\P .sh (.tuple (a++b))):=rfl
theorem rr126:nJ [.int a,.int b] P=P .sh (.int (a - b)):=rfl
theorem rr127:jg [.int a,.int b] P=(kB a b/\P .sh (.int (a * b))):=rfl
theorem rr128:jg [.list a,.int k] P=((-(2 ^ 63)<=k/\k < 2 ^ 63/\a.length * k.toNat<=sizeLine)/\P (.ow false) (.list (List.replicate k.toNat a).flatten)):=rfl
theorem rr129:i8 [.int a,.int b] P=(0 < b/\P .sh (.int (a % b))):=rfl
theorem rr130:x6 [.int a,.int b] P=(BJ a b/\P .sh (.int (a / b))):=rfl
theorem rr131:HV [.int a,.int b] P=(Hg a b/\P .sh (.int (a ^ b.toNat))):=rfl
theorem rr132:yJ [.int a,.int b] P=P .sh (.bool (decide (a < b))):=rfl
theorem rr133:Ax [.int a,.int b] P=P .sh (.bool (decide (a<=b))):=rfl
theorem rr134:nK [.int a,.int b] P=P .sh (.bool (decide (b < a))):=rfl
theorem rr135:FO [.int a,.int b] P=P .sh (.bool (decide (b<=a))):=rfl
theorem rr136:yV [.int a] P=P .sh (.int (-a)):=rfl
theorem rr137:jv [.int a,.int b] P=P .sh (.bool (decide (a=b))):=rfl
theorem rr138:jv [.str a,.str b] P=P .sh (.bool (decide (a=b))):=rfl
theorem rr139:iY [.int a,.int b] P=P .sh (.bool !(decide (a=b))):=rfl
theorem rr140:iY [.str a,.str b] P=P .sh (.bool !(decide (a=b))):=rfl
theorem rr141:jv [.list a,.list b] P=((dl 8 (.list a)=true/\dl 8 (.list b)=true)/\P .sh (.bool (decide (PyData.list a=.list b)))):=rfl
theorem rr142:iY [.list a,.list b] P=((dl 8 (.list a)=true/\dl 8 (.list b)=true)/\P .sh (.bool !(decide (PyData.list a=.list b)))):=rfl
theorem rr143:bN [.list xs,.int i] P=aO (atK xs i) (P .sh):=rfl
theorem rr144:bN [.tuple xs,.int i] P=aO (atK xs i) (P .sh):=rfl
theorem rr145:cU [.list xs] P=P .sh (.int xs.length):=rfl
theorem rr146:cU [.tuple xs] P=P .sh (.int xs.length):=rfl
theorem rr147:eX [.list xs] P=P (.ow false) (.list xs):=rfl
theorem rr148:eX [.tuple xs] P=P (.ow false) (.list xs):=rfl
theorem rr149:nP [.list xs] P=P .sh (.tuple xs):=rfl
theorem rr150:nP [.tuple xs] P=P .sh (.tuple xs):=rfl
theorem rr151:mH [.int a,.int b] P=P .sh (.int (if b < a then b else a)):=rfl
theorem rr152:oY [.int a,.int b] P=P .sh (.int (if b > a then b else a)):=rfl
theorem rr153:yC [.int a] P=P .sh (.int (if a < 0 then -a else a)):=rfl
theorem rr154:oG [.int a] P=P .sh (.int a):=rfl
theorem rr155:oG [.bool b] P=P .sh (.int (if b=true then 1 else 0)):=rfl
theorem rr156:lA [.int j] P=((0<=j/\j<=1000)/\P (.ow false) (.list (kR 0 j.toNat))):=rfl
theorem rr157:f6 ds P=(ds.length<=sizeLine/\P (.ow false) (.list ds)):=rfl
theorem rr158:gz ds P=(ds.length<=sizeLine/\P .sh (.tuple ds)):=rfl
theorem rr159:lT false false [.list xs] P=P (.ow false) (.list (cutD xs none none)):=rfl
theorem rr160:lT true false [.list xs,.int a] P=P (.ow false) (.list (cutD xs (some a) none)):=rfl
theorem rr161:lT false true [.list xs,.int b] P=P (.ow false) (.list (cutD xs none (some b))):=rfl
theorem rr162:lT true true [.list xs,.int a,.int b] P=P (.ow false) (.list (cutD xs (some a) (some b))):=rfl
theorem rr163:lT false true [.tuple xs,.int b] P=P .sh (.tuple (cutD xs none (some b))):=rfl
theorem rr164:kQ [.int j]=@ite _ (-(2 ^ 62)<=j/\j < 2 ^ 62) (Classical.propDecidable _) (some (kR 0 j.toNat)) none:=rfl
theorem rr165:DX [.int i,.int j]=@ite _ (-(2 ^ 62)<=i/\i < 2 ^ 62/\-(2 ^ 62)<=j/\j < 2 ^ 62) (Classical.propDecidable _) (some (kR i (j - i).toNat)) none:=rfl
theorem rr166:AB c [d] P=aO (wK d) fun t=>P .sh (.bool (jT c t)):=rfl
theorem rr167:wK (.int i)=some "int":=rfl
theorem rr168:wK (.tuple i)=some "tuple":=rfl
theorem rr169:wK (.list i)=some "list":=rfl
theorem rr170:wK (.bool b)=some "bool":=rfl
theorem rr171:wK .none=some "NoneType":=rfl
theorem rr172:jT "int" "int"=true:=rfl
theorem rr173:jT "int" "tuple"=false:=rfl
theorem rr174:jT "tuple" "int"=false:=rfl
theorem rr175:jT "tuple" "tuple"=true:=rfl
theorem rr176:jT "bool" "int"=false:=rfl
theorem rr177:jT "list" "list"=true:=rfl
theorem rr178:jT "int" "NoneType"=false:=rfl
theorem rr179:jT "tuple" "NoneType"=false:=rfl
theorem rr180:fT ds [d] P=(ds.length < sizeLine/\P (ds++[d]) .none):=rfl
theorem rr181:JX ds [.list es] P=(ds.length + es.length<=sizeLine/\P (ds++es) .none):=rfl
theorem rr182:vo ds [] P=∃ d,ds[ds.length - 1]?=some d/\P ds.dropLast d:=rfl
theorem rr183:vo ds [.int i] P=((-(2 ^ 63)<=i/\i < 2 ^ 63)/\∃ n d,seqIndex? i ds.length=some n/\ds[n]?=some d/\P (ds.eraseIdx n) d):=rfl
theorem rr184:cM (.nm i) d E=b7 [i] [d] E:=rfl
theorem rr185:cM (.tp is) (.tuple ds) E=b7 is ds E:=rfl
theorem rr186:b7 [] [] E=some E:=rfl
theorem rr187:bD [] E=some E:=rfl
theorem rr188:fH.setI (o::E) i w v Q=match (o::E)[i]?,w with
  | some (some (.ow p,.list ds)),.int a=>aO (zR ds.length a) fun n=>Q ((o::E).set i (some (.ow p,.list (ds.set n v))))
  | some (some (.dk p,.dict kvs)),w=>(mQ w=true/\kvs.length < 16777216)/\Q ((o::E).set i (some (.dk p,.dict (putD kvs w v))))
  | some (some (.dt p,.dict (_::kvs))),.tuple ks=>(ks.all mQ=true/\kvs.length < 16777216)/\Q ((o::E).set i (some (.dt p,.dict ((.none,.none)::putD kvs (.tuple ks) v))))
  | _,_=>False:=rfl
theorem rr189:Dc ms as (o::E) us k v Q=aO (kL ms as us (o::E)) fun E2=>aO (uo ms as us E2 k v) fun E3=>Q E3 k v:=rfl
theorem rr190:kL [] [] [] E=some E:=rfl
theorem rr191:kL (false::ms) (a::r) us E=kL ms r us E:=rfl
theorem rr192:kL (true::ms) (.pk i::r) (u::us) (o::E)=match (o::E)[i]? with
  | some (some (.ow p,.list _))=>dX (Bt u) (kL ms r us ((o::E).set i (some (.ow p,u)))) none
  | _=>none:=rfl
theorem rr193:Bt (.list l)=true:=rfl
theorem rr194:uo ms as us (o::E) k v=dX ((kept ms as).all (kM (o::E)) || (flat k v && us.all (flat (.ow false)))) (some (o::E)) (jX (kept ms as) (o::E)):=rfl
theorem rr195:kept [] []=[]:=rfl
theorem rr196:kept (false::ms) (.pk i::r)=i::kept ms r:=rfl
theorem rr197:kept (false::ms) (.ev d::r)=kept ms r:=rfl
theorem rr198:kept (true::ms) (a::r)=kept ms r:=rfl
theorem rr199:t9 ms as (o::E)=(shape ms as && qN (lent ms as) (kept ms as) (o::E)):=rfl
theorem rr200:lent [] []=[]:=rfl
theorem rr201:lent (true::ms) (.pk i::r)=i::lent ms r:=rfl
theorem rr202:lent (false::ms) (a::r)=lent ms r:=rfl
theorem rr203:shape [] []=true:=rfl
theorem rr204:shape (true::ms) (.pk i::r)=shape ms r:=rfl
theorem rr205:shape (false::ms) (a::r)=shape ms r:=rfl
theorem rr206:∀ {α:Type},([]:List α).length=0:=rfl
theorem rr207:∀ {α:Type}{a:α}{l:List α},(a::l).length=l.length + 1:=rfl
theorem rr208:sizeLine=16777216:=rfl
theorem rr209:∀ {f:DE->Arg},List.map f []=[]:=rfl
theorem rr210:∀ {f:DE->Arg}{a:DE}{l:List DE},List.map f (a::l)=f a::List.map f l:=rfl
theorem rr211:atK (x::l) 0=some x:=rfl
theorem rr212:atK (x::y::l) 1=some y:=rfl
theorem rr213:zR (n + 1) 0=some 0:=rfl
theorem rr214:zR (n + 2) 1=some 1:=rfl
theorem rr215:zR (n + 1 + 1) 1=some 1:=rfl
def QW:(∀ {x:PyData}{l:Ub},fc (x::l) 0=some x)/\(∀ {x y:PyData}{l:Ub},fc (x::y::l) 1=some y)/\(∀ {n:Nat},lU (n + 1) 0=some 0)/\(∀ {n:Nat},lU (n + 2) 1=some 1)/\(∀ {n:Nat},lU (n + 1 + 1) 1=some 1)/\(∀ {P:Ux},cZ false [.none,.none] P=P .sh (.bool true))/\(∀ {P:Ux},cZ true [.none,.none] P=P .sh (.bool false))/\(∀ {i:Int}{P:Ux},cZ false [.int i,.none] P=P .sh (.bool false))/\(∀ {i:Int}{P:Ux},cZ true [.int i,.none] P=P .sh (.bool true))/\(∀ {i:Ub}{P:Ux},cZ false [.tuple i,.none] P=P .sh (.bool false))/\(∀ {i:Ub}{P:Ux},cZ true [.tuple i,.none] P=P .sh (.bool true))/\(∀ {d:PyData}{xs:Ub}{P:Ux},iC false [d,.list xs] P=((xs.all (dl 8)=true/\dl 8 d=true)/\P .sh (.bool (decide (d∈xs)))))/\(∀ {d:PyData}{xs:Ub}{P:Ux},iC true [d,.list xs] P=((xs.all (dl 8)=true/\dl 8 d=true)/\P .sh (.bool !(decide (d∈xs)))))/\(∀ {d:PyData}{xs:Ub}{P:Ux},iC false [d,.tuple xs] P=((xs.all (dl 8)=true/\dl 8 d=true)/\P .sh (.bool (decide (d∈xs)))))/\(∀ {d:PyData}{xs:Ub}{P:Ux},iC true [d,.tuple xs] P=((xs.all (dl 8)=true/\dl 8 d=true)/\P .sh (.bool !(decide (d∈xs)))))/\(∀ {i:Nat}{is:Uq}{d:PyData}{ds:Ub}{o:Uv}{E:En},b7 (i::is) (d::ds) (o::E)=if b9 (o::E) i then b7 is ds ((o::E).set i (some (.sh,d))) else none)/\(∀ {i:Nat}{r:Uq}{o:Uv}{E:En},bD (i::r) (o::E)=if b9 (o::E) i then bD r ((o::E).set i none) else none)/\(∀ {i:Nat},List.contains [] i=false)/\(∀ {i j:Nat}{l:Uq},List.contains (j::l) i=(i == j || List.contains l i))/\(∀ {α:Type},(([]:List α).Nodup)=True)/\(∀ {i:Nat},([i]:Uq).Nodup=True)/\type_of% @uB/\type_of% @xJ :=
 ⟨QN,QM,QT,Pz,Pz,(by simp [cZ]),(by simp [cZ]),(by simp [cZ]),(by simp [cZ]),(by simp [cZ]),(by simp [cZ]),(by intro d xs P;cases d <;> rfl),(by intro d xs P;cases d <;> rfl),(by intro d xs P;cases d <;> rfl),(by intro d xs P;cases d <;> rfl),rfl,rfl,(by intros;simp),(by intros;rw [List.contains_cons]),(by intros;simp),(by intros;simp),@uB,@xJ⟩
def dx:=aI @rr123 <| aI @rr124 <| aI @rr125 <| aI @rr126 <| aI @rr127 <| aI @rr128 <| aI @rr129 <| aI @rr130 <| aI @rr131 <| aI @rr132 <| aI @rr133 <| aI @rr134 <| aI @rr135 <| aI @rr136 <| aI @rr137 <| aI @rr138 <| aI @rr139 <| aI @rr140 <| aI @rr141 <| aI @rr142 <| aI @rr143 <| aI @rr144 <| aI @rr145 <| aI @rr146 <| aI @rr147 <| aI @rr148 <| aI @rr149 <| aI @rr150 <| aI @rr151 <| aI @rr152 <| aI @rr153 <| aI @rr154 <| aI @rr155 <| aI @rr156 <| aI @rr157 <| aI @rr158 <| aI @rr159 <| aI @rr160 <| aI @rr161 <| aI @rr162 <| aI @rr163 <| aI @rr164 <| aI @rr165 <| aI @rr166 <| aI @rr167 <| aI @rr168 <| aI @rr169 <| aI @rr170 <| aI @rr171 <| aI @rr172 <| aI @rr173 <| aI @rr174 <| aI @rr175 <| aI @rr176 <| aI @rr177 <| aI @rr178 <| aI @rr179 <| aI @rr180 <| aI @rr181 <| aI @rr182 <| aI @rr183 <| aI @rr184 <| aI @rr185 <| aI @rr186 <| aI @rr187 <| aI @rr188 <| aI @rr189 <| aI @rr190 <| aI @rr191 <| aI @rr192 <| aI @rr193 <| aI @rr194 <| aI @rr195 <| aI @rr196 <| aI @rr197 <| aI @rr198 <| aI @rr199 <| aI @rr200 <| aI @rr201 <| aI @rr202 <| aI @rr203 <| aI @rr204 <| aI @rr205 <| aI @rr206 <| aI @rr207 <| aI @rr208 <| aI @rr209 <| aI @rr210 <| aI @rr211 <| aI @rr212 <| aI @rr213 <| aI @rr214 <| aI @rr215 <| @QW
end Dv
namespace DL
open PySem PySem.W PyProof.Rows
def jZ (h:Heap)(d:Addr)(es:UL) (ep:Nat):Prop:=∃ o,h.get? d=some o/\o.ExactDict/\o.data=.dict es ep
def mG (h:Heap)(it d:Addr) (i n ep:Nat):Prop:=∃ o,h.get? it=some o/\o.cls=.type "dict_keyiterator"/\o.data=.fields #[.ref d,.int i 0,.int n 0,.int ep 0]
def mG.ty {s:Shared}{it d:Addr}{i n ep:Nat}(x:mG s.heap it d i n ep):s.TypeIs (.ref it) "dict_keyiterator":=by
 obtain ⟨o,h1,h2,_⟩:=x;exact ⟨o,h1,h2⟩
def jZ.ty {s:Shared}{d:Addr}{ep:Nat}(x:jZ s.heap d es ep):s.TypeIs (.ref d) "dict":=by
 obtain ⟨o,h1,h2,_⟩:=x;exact ⟨o,h1,h2.1⟩
section
variable {prog:Program}{w:World}{A:Around}{E:Tn}{s:Shared}{d it:Addr}{es:UL}{ep:Nat}
def FQ {Q:Tn}(no:(d == sysModules)=false)(D:jZ s.heap d es ep)(q:Q (.ref s.heap.objs.size) { s with heap:=s.heap.push { cls:=.type "dict_keyiterator",data:=.fields #[.ref d,.int 0 0,.int es.size 0,.int ep 0] } }) :
  wpAny (model prog w) A (pyIter (.ref d)) Q E s:=by
 obtain ⟨o,ho,ex,hd⟩:=id D;refine wpAny_pyIter_slot D.ty F.slot_dict_iter (Sh F.slot_dict_iter D.ty F.entry_dict_iter (?_:_) (F.args_dict_iter_1 _))
 unfold Builtin.«dict.__iter__»;refine R8 (?_:_)
 unfold Builtin.Dict.dictSlotNone;refine R8 (wpAny_notOrdered_dict D.ty (?_:_))
 refine id (?_:wpAny _ _ (pure (Value.ref d)) _ _ s);refine R9 (?_:_)
 refine id (?_:wpAny _ _ (Builtin.Dict.showsAll d >>= _) _ _ s);unfold Builtin.Dict.showsAll;rw [if_neg (show ¬ ((d == sysModules)=true) by rw [no];exact RX)]
 refine R8 (R9 (?_:_))
 refine R8 (Tw ho hd (?_:_))
 refine R8 (wpAny_dictEpoch ho hd (?_:_))
 refine R8 (SX (R9 ⟨_,rfl,"dict_keyiterator",_,⟨_,Rx _ rfl,rfl⟩,VL.lookup,(?_:_)⟩))
 simpa [rawInt] using q
def ED {i n:Nat}{Q:Tn}(hit:mG s.heap it d i n ep)(q:Q (.ref it) s):wpAny (model prog w) A (pyIter (.ref it)) Q E s:=by
 refine wpAny_pyIter_slot hit.ty F.slot_dict_keyiterator_iter (Sh F.slot_dict_keyiterator_iter hit.ty F.entry_dict_keyiterator_iter (?_:_) (F.args_dict_keyiterator_iter_1 _))
 refine id (?_:wpAny _ _ (ret (.ref it)) _ _ s);exact R9 ⟨_,rfl,"dict_keyiterator",_,hit.ty,VL.lookup,q⟩
def Hq {i:Nat}{Q:UZ->Shared->Prop}(hit:mG s.heap it d i es.size ep)(D:jZ s.heap d es ep)(lt:i < es.size)
  (q:∀ h',mG h' it d (i + 1) es.size ep->Heap.SameBut it s.heap h'->Q (some es[i].key) { s with heap:=h' }):wpAny (model prog w) A (pyNext (.ref it)) Q E s:=by
 obtain ⟨o,ho,hc,hd⟩:=id hit;obtain ⟨od,hod,ex,hdd⟩:=id D;unfold pyNext;refine R8 (wpAny_attempt (U5 (name:=Str.ofString "__next__") hit.ty VL
  (Sh VL hit.ty F.entry_dict_keyiterator_next (?_:_) (F.args_dict_keyiterator_next_1 _))))
 refine R8 (R9 (?_:_))
 refine R8 (?_:_)
 refine R8 (?_:_)
 first
  | refine R8 (VM hit.ty (R9 (?_:_)))
  | refine R8 (wpAny_typeNameOf_keyiter hit.ty (R9 (?_:_)))
 refine R8 (wpAny_fieldsOf ho hd (?_:_))
 have own:Builtin.Dict_items.ownsTuple "dict_keyiterator"=false:=by decide
 simp only [own,Tr,SW];refine id (?_:wpAny _ _ (if (Value.ref d == Value.none)=true then _ else _) _ _ s)
 rw [if_neg (by exact RX)]
 refine R8 (R9 (?_:_))
 refine R8 (Tw hod hdd (?_:_))
 rw [if_neg (show ¬ _ by simp)]
 refine R8 (R9 (?_:_))
 refine R8 (wpAny_dictEpoch hod hdd (?_:_))
 rw [if_neg (show ¬ _ by simp)]
 refine R9 (?_:_)
 simp only [show ¬ ((i:Int) < 0) from by omega,SW,Tj,UW lt]
 refine R8 (?_:_)
 first
  | refine R8 (VM hit.ty (R9 (?_:_)))
  | refine R8 (wpAny_typeNameOf_keyiter hit.ty (R9 (?_:_)))
 refine R8 (wpAny_isOneOf_keyiter hit.ty (?_:_))
 refine id (?_:wpAny _ _ (setField (.ref it) 1 (rawInt ((i:Int) + 1)) >>= _) _ _ s);refine R8 (Tq ho hd (by simp) (?_:_))
 have hit2:mG (s.heap.update it (Obj.mapFields (·.setIfInBounds 1 (rawInt ((i:Int) + 1))))) it d (i + 1) es.size ep :=
  ⟨_,Sz _ ho (Obj.isFreed_of_fields (UC hd _)),(Obj.cls_mapFields ..).trans hc,by
   rw [UC hd];simp [rawInt]⟩
 refine R8 (Sa (?_:_))
 refine R8 (wpAny_isOneOf_keyiter (s:={ s with heap:=s.heap.update it (Obj.mapFields (·.setIfInBounds 1 (rawInt ((i:Int) + 1)))) }) hit2.ty (?_:_))
 refine id (?_:wpAny _ _ (pure es[i].key) _ _ _);exact R9 (R9 ⟨_,rfl,R9 (q _ hit2 (Tz ..))⟩)
def EB {i:Nat}{Q:UZ->Shared->Prop}(hh:A.handled=none)(hit:mG s.heap it d i es.size ep)(D:jZ s.heap d es ep)(ge:es.size<=i)
  (q:∀ h',Heap.ExtBut it s.heap h'->Q none { s with heap:=h' }):wpAny (model prog w) A (pyNext (.ref it)) Q E s:=by
 obtain ⟨o,ho,hc,hd⟩:=id hit;obtain ⟨od,hod,ex,hdd⟩:=id D;unfold pyNext;refine R8 (wpAny_attempt (U5 (name:=Str.ofString "__next__") hit.ty VL
  (Sh VL hit.ty F.entry_dict_keyiterator_next (?_:_) (F.args_dict_keyiterator_next_1 _))))
 refine R8 (R9 (?_:_))
 refine R8 (?_:_)
 refine R8 (?_:_)
 first
  | refine R8 (VM hit.ty (R9 (?_:_)))
  | refine R8 (wpAny_typeNameOf_keyiter hit.ty (R9 (?_:_)))
 refine R8 (wpAny_fieldsOf ho hd (?_:_))
 have own:Builtin.Dict_items.ownsTuple "dict_keyiterator"=false:=by decide
 simp only [own,Tr,SW];refine id (?_:wpAny _ _ (if (Value.ref d == Value.none)=true then _ else _) _ _ s)
 rw [if_neg (by exact RX)]
 refine R8 (R9 (?_:_))
 refine R8 (Tw hod hdd (?_:_))
 rw [if_neg (show ¬ _ by simp)]
 refine R8 (R9 (?_:_))
 refine R8 (wpAny_dictEpoch hod hdd (?_:_))
 rw [if_neg (show ¬ _ by simp)]
 refine R9 (?_:_)
 simp only [show ¬ ((i:Int) < 0) from by omega,SW,Tj,Array.getElem?_eq_none ge]
 refine R8 (?_:_)
 first
  | refine R8 (VM hit.ty (R9 (?_:_)))
  | refine R8 (wpAny_typeNameOf_keyiter hit.ty (R9 (?_:_)))
 refine id (?_:wpAny _ _ (setField (.ref it) 0 .none >>= _) _ _ s);refine R8 (Tq ho hd (by simp) (?_:_))
 refine R8 (m:=newExc (.type "StopIteration") []) (?_:_)
 simp only [newExc,newTuple];refine R8 (SX (?_:_) (by size_fits))
 refine R8 (m:=firstArgMember _ _) (wpAny_of_eq (a:=Value.none) (by
  first
  | rfl
  | (simp only [firstArgMember];rfl)) (?_:_))
 refine SX (?_:_) (by size_fits)
 simp only [raiseNew];refine R8 (wpAny_handled (?_:_))
 rw [show A.in1.handled=none from hh]
 refine R8 (R9 (wpAny_throw (?_:_)))
 refine R8 (wpAny_isInstance (T:="StopIteration") (b:=true) ⟨_,Rx _ rfl,rfl⟩ isSubtype_stop (?_:_))
 exact R9 (q _ (((Tz ..).extBut.push _).push _))
def jZ.at (D:jZ h d es ep)(k:∀ o,h.get? d=some o->h'.get? d=some o):jZ h' d es ep:=by
 obtain ⟨o,ho,r⟩:=D;exact ⟨o,k o ho,r⟩
def Ga (hh:A.handled=none)(I d:Addr)(ne:d≠I)(es:UL) (ep:Nat) :
  Walks prog w A I [I,d] [I] es.size (fun i v=>∃ e,es[i]?=some e/\v=e.key) (fun i h=>mG h I d i es.size ep/\jZ h d es ep) where
 sub:=fun b hb=>by
  simp at hb;simp [hb]
 frame:=fun i h h' st hk=>by
  obtain ⟨⟨o,ho,r⟩,D⟩:=st;exact ⟨⟨o,hk I (by simp) o ho,r⟩,D.at fun o e=>hk d (by simp) o e⟩
 item:=fun i s Q E hi st hQ=>by
  refine Hq st.1 st.2 hi fun h' hit' sb=>?_
  exact hQ _ h' s.toks ⟨_,UW hi,rfl⟩ ⟨hit',st.2.at fun o e=>by rw [sb.2 d ne];exact e⟩ fun b o hb e=>by rw [sb.2 b (fun z=>hb (by simp [z]))];exact e
 done:=fun s Q E st hQ=>EB hh st.1 st.2 (RE _) fun h' eb=>hQ h' s.toks fun b o hb e=>eb b o (fun z=>hb (by simp [z])) e
 self:=fun i s Q E st hQ=>ED st.1 hQ
def HF (no:(d == sysModules)=false):KdlSrc prog w "dict" d d es.size (fun i v=>∃ e,es[i]?=some e/\v=e.key) (fun h=>jZ h d es ep) where
 type:=fun s D=>D.ty
 there:=fun h D=>by
  obtain ⟨o,ho,_⟩:=D;exact ⟨RL ho,RL ho⟩
 keep:=fun h h' D hk=>D.at fun o e=>hk d (.inl rfl) o e
 notList:=by decide
 notTuple:=by decide
 hint:=fun A E s Q D q=>kdl_hint_dict D.ty q
 iter:=fun A s hh D=>by
  refine ⟨_,_,fun E Q q=>FQ no D q,Ga hh _ d ?_ es ep,⟨⟨_,Rx _ rfl,rfl,rfl⟩,D.at fun o e=>RO _ e⟩⟩
  obtain ⟨o,ho,_⟩:=D;exact RQ (RL ho)
end
end DL
namespace L2
open PySem PySem.Spec PyProof.Rows
def zz (H:Hp)(kvs:List (List Key×V))(bs:Uh):Prop:=bs.length=kvs.length/\∀ (i:Nat)(b:Addr)(p:List Key×V),bs[i]?=some b->kvs[i]?=some p->H b=some (.tup (p.1.map kV))
section
variable {X:Cx}
def Co (hc:X.calm=true):cQ X (.type "list") (fun xs H Q=>∃ (a:Addr)(kvs:List (List Key×V)),xs=[.ref a]/\H a=some (.dT kvs)/\∀ (bs:Uh)(l:Addr),zz H kvs bs->H l=none->Q (.ref l) (upd H l (.lst (bs.map V.ref)))):=by
 intro pins s σ H xs us Q I r h;obtain ⟨a,kvs,rfl,ha,q⟩:=h;obtain ⟨u,rfl,ru⟩:=vals1 r;cases ru;obtain ⟨z,no,ks,pr,o,es,ep,ho,ex,hd,hes,nd⟩:=(show bO X.prog X.w H s.heap a (.dT kvs) from I.hok a _ ha)
 have kl:ks.length=kvs.length:=pr.length.symm;have el:es.size=ks.length:=by
  rw [<- Sx,hes,RD]
 have pk:∀ (i:Nat)(p:List Key×V)(k:List Key×Addr×Value),kvs[i]?=some p->ks[i]?=some k->H k.2.1=some (.tup (p.1.map kV)):=by
  clear hes nd el kl z ha q
  induction pr with
  | nil=>exact fun i p k h=>(nomatch h)
  | cons h _ ih =>
   intro i p k h1 h2;cases i with
   | zero =>
    cases h1;cases h2;exact h.2.1
   | succ i=>exact ih i p k h1 h2
 refine PySem.W.kdl_call (DL.HF (es:=es) (ep:=ep) no) (I.ok.hd hc) ⟨o,ho,ex,hd⟩ (by omega) fun h' tk acc c kp hS its=>?_
 obtain ⟨z1,z2⟩:=its;have ea:acc.toList=(ks.map fun k=>k.2.1).map Value.ref:=by
  refine Ss fun j=>?_
  rw [RT,RN,So];cases e:acc[j]? with
  | none =>
   have:=Array.getElem?_eq_none_iff.mp e;rw [S4 (by omega)]
   rfl
  | some v =>
   obtain ⟨en,e1,e2⟩:=z2 j v e;rw [<- So,hes,RN] at e1;cases e3:ks[j]? with
   | none =>
    rw [e3] at e1;cases e1
   | some k =>
    rw [e3] at e1;cases e1;rw [e2];rfl
 have rv:∀ l:Uh,Vals (l.map V.ref) (l.map Value.ref):=fun l=>by
  induction l with
  | nil=>exact .nil
  | cons b r ih=>exact .cons rfl ih
 refine ⟨.ref s.heap.objs.size,_,I.laid (t':=tk) kp (RE _) (o:=.lst ((ks.map fun k=>k.2.1).map V.ref)) ⟨by rw [RD,RD];omega,acc.toList,c,by rw [ea];exact rv _,by simpa using hS⟩,rfl,q _ _ ⟨by rw [RD];exact kl,fun i b p h1 h2=>?_⟩ (I.hok.fresh (RE _))⟩
 rw [RN] at h1;cases e3:ks[i]? with
 | none =>
  rw [e3] at h1;cases h1
 | some k =>
  rw [e3] at h1;cases h1;exact pk i p k h2 e3
end
end L2
namespace Dv
open PySem L2 PySem.W
def Pd:∀ k:Key,Rp K H (kV k) (bq k)
 | .inl i=>.int i
 | .inr x=>.str x
theorem Gb:∀ k:List Key,aG K H (k.map kV) (k.map bq)
 | []=>.nil
 | k::ks=>.cons (Pd k) (Gb ks)
def FJ (s:aj Hm H):aj Hm (lend Hm H bs):=fun b o e=>by
 by_cases h:b∈bs
 ·rw [dh h];exact s _ _ e
 ·rw [cj h];exact e
def n6:DR:=fun ds P=>match ds with
 | [.dict ((.none,.none)::kvs)]=>P (.ow false) (.list (kvs.map (·.1)))
 | _=>False
theorem y9:∀ {es:List (List Key×V)}{kvs:TH}{bs:Uh},fm K Hm es kvs->zz H es bs->(∀ b∈bs,Hm' b=H b)->aG K Hm' (bs.map V.ref) (kvs.map (·.1))
 | [],[],bs,.nil,ka,_=>by
  have:bs=[]:=List.eq_nil_of_length_eq_zero ka.1;subst this;exact .nil
 | (k,v)::es,_::kvs,[],.cons _ _,ka,_=>by cases ka.1
 | (k,v)::es,_::kvs,b::bs,.cons r t,ka,h=>by
  refine .cons (.tup (xs:=k.map kV) ?_ (Gb k)) (y9 t ⟨by have:=ka.1;simp at this;exact this,fun i b' p h1 h2=>ka.2 (i + 1) b' p (by simpa using h1) (by simpa using h2)⟩ fun b' hb=>h b' (RG _ hb))
  rw [h b RA];exact ka.2 0 b (k,v) rfl rfl
def EF:cY K n6 fun xs H Q=>∃ (a:Addr)(kvs:List (List Key×V)),xs=[.ref a]/\H a=some (.dT kvs)/\∀ (bs:Uh)(l:Addr),zz H kvs bs->H l=none->Q (.ref l) (upd H l (.lst (bs.map V.ref))):=by
 intro H Hm vs ds P Q s r h q;unfold n6 at h;split at h
 ·rename_i kvs;obtain ⟨x,rfl,h1⟩:=d7 r;obtain ⟨a,es,rfl,ha,tv⟩:=xW h1;refine ⟨a,es,rfl,s _ _ ha,fun bs l ka hl=>?_⟩
  have hb:∀ b∈bs,∃ xs,H b=some (.tup xs):=fun b hb=>by
   obtain ⟨i,hi⟩:=Si.mp hb;have hi':i < es.length:=by
    rw [<- ka.1];rcases SG i bs.length with z | z
    ·exact z
    ·rw [S4 z] at hi;cases hi
   exact ⟨_,ka.2 i b _ hi (RS hi')⟩
  have s2:aj (lend Hm H bs) H:=iJ s;refine q _ _ _ _ (lend Hm H bs) [l] h (bZ hl) (FJ s) (s2.trans (bZ hl)) (fun a _=>?_) (.ow aL (y9 tv ka fun b hb=>dh hb)) fun a ha=>?_
  ·by_cases c:a∈bs
   ·rw [dh c];obtain ⟨xs,e⟩:=hb a c;cases e2:Hm a with
    | none=>exact .inr ⟨rfl,xs,e⟩
    | some o=>exact .inl (s _ _ e2)
   ·rw [cj c];exact .inl rfl
  ·rw [RH.mp ha];refine ⟨hl,?_⟩;rw [cj fun z=>by obtain ⟨xs,e⟩:=hb l z;rw [hl] at e;cases e]
   exact ic s hl
 ·exact h.elim
section
variable {X:Cx}{Ex:XK}{π:Uq}{a:Expr}{p pos:Pos}{as:List Arg}
def Mw (hm:X.mg "list"=none)(S:aY X Ex π [a] as)(hc:X.calm=true:=by rfl)(hg:Gl X "list":=by rfl)(ns:noStar a=true:=by rfl):SE X Ex π (.Call (.Name "list" p) [a] [] pos) (ah n6 as):=mT (Co hc) EF hg hm PyProof.Rows.boot_list (by decide) (by decide) (by rw [RU,ns];rfl) S
end
end Dv
namespace L2
open PySem PySem.Spec PyProof.Rows
def DO {K:UU}{mb:UE}{CX:mU}{k:Nat}{fa a:Addr}{sp:Sp}{s₁:Shared}{vs:Ug}{ns:Ur}
  (KX:K.In s₁.heap)(hns:s₁.heap.Ns mainGlobals mg)(hb:s₁.heap.Ns builtinsNs mb)(hbb:∀ x:Str,x≠"__name__"->mb x=bootBuiltins x)(hlim:s₁.heap.NoLimit)(hg:s₁.gens=#[])
  (ha:s₁.heap.get? a=some { cls:=.type "list",data:=.seq vs.toArray })(hi:IntsAre vs ns)(hl:ns.length<=sizeLine)(hr:eT k callerA)
  (F:∀ base:Heap,K.In base->base.Ns mainGlobals mg->gO P w K mg base CX k fa fd [x] sp)(hbind:∀ (s:Shared)(u:Value),BindsTo s fd ⟨[u],[]⟩ [(x,u)])
  (hsp:∀ H:Hp,GI H->Dv.cG K H a (ns.map V.int)->sp [.ref a] H (fun v _=>v=.bl true) fun _ _ _=>False)
  (hCX:∀ H e s',CX [] H s₁ (fun _ _ _=>False) e s'->False) :
  codeAny (model P w) callerA (.call (.ref fa) ⟨[.ref a],[]⟩) (fun r s'=>r=.ok (.ret (.bool true))/\OldK s₁.heap s'.heap/\s'.os=s₁.os/\AllBare s'.gens) s₁:=by
 have rv:=wN hi;have zD:=hi.length
 -- from an abstract heap in which nothing but the script may be tracked
 have core:∀ H:Hp,GI H->Dv.cG K H a (ns.map V.int)->dQ P w H s₁.heap->(∀ b,H b≠none->b=a)->(H a≠none->K.lookup a=none) ->
   codeAny (model P w) callerA (.call (.ref fa) ⟨[.ref a],[]⟩) (fun r s'=>r=.ok (.ret (.bool true))/\OldK s₁.heap s'.heap/\s'.os=s₁.os/\AllBare s'.gens) s₁:=by
  intro H hO hS hok hA hK;have base_of:∀ {b:Addr}{o:Obj},s₁.heap.get? b=some o->H b=none->(pR s₁.heap H).get? b=some o:=fun e n=>HC e n
  have noA:∀ {b:Addr}{o:Obj}{es:UL}{ep:Nat},s₁.heap.get? b=some o->o.data=.dict es ep->H b=none:=fun {b o es ep} e d=>by
   cases q:H b with
   | none=>rfl
   | some u =>
    have e':b=a:=hA b (by rw [q];simp)
    subst e';rw [ha] at e;cases e;have d':Data.seq vs.toArray _=Data.dict es ep:=d;cases d'
  have nsK:∀ {b:Addr}{m:UE},s₁.heap.Ns b m->(pR s₁.heap H).Ns b m:=fun {b m} ⟨o,es,ep,e,d,r⟩=>⟨o,es,ep,base_of e (noA e d),d,r⟩
  have hKb:K.In (pR s₁.heap H):=fun b o e=>base_of (KX b o e) (by
   cases q:H b with
   | none=>rfl
   | some u =>
    have e':b=a:=hA b (by rw [q];simp)
    subst e';rw [hK (by rw [q];simp)] at e;cases e)
  have hM:Mod K mg (pR s₁.heap H):=⟨hKb,nsK hns,⟨mb,nsK hb,hbb⟩,let ⟨mc,h1,h2⟩:=hlim;⟨mc,nsK h1,h2⟩⟩
  have e0:Cw P w K mg (pR s₁.heap H) callerA [] s₁ H:=⟨rfl,hM,fun b o e=>J2 e,TM (Ej _ _),trivial,fun b hb=>absurd (show b∈([]:Uh) from hb) (by simp),hok,.of_eq hg⟩
  refine codeAny_mono ((F _ hKb (nsK hns)).run callerA [] s₁ H ⟨[.ref a],[]⟩ [.ref a] [.ref a] _ _ hr e0 (hbind s₁ (.ref a)) (.cons rfl .nil) (hsp H hO hS)) fun r s' h=>?_
  cases r with
  | error e=>exact (hCX H e s' h).elim
  | ok fl =>
   cases fl with
   | next=>exact False.elim h
   | brk=>exact False.elim h
   | cont=>exact False.elim h
   | ret u =>
    obtain ⟨v,H',os,bare,un,hok',r',q⟩:=h;have q':v=.bl true:=q;subst q';obtain rfl:u=Value.bool true:=r';refine ⟨rfl,OldK.of_keep fun b o e=>?_,os,bare⟩
    cases q:H b with
    | none=>exact un.keep b o e q (by intro z;exact absurd (show b∈([]:Uh) from z) (by simp)) (by simp)
    | some u =>
     rcases hO b with z | ⟨ob,xs,z⟩
     ·rw [q] at z;cases z
     ·have z2:=un.kG b ob _ z;obtain ⟨e1,_⟩:=hok b _ z;obtain ⟨e2,_⟩:=hok' b _ z2;rw [e] at e1;cases e1;exact e2
 cases hk:K.lookup a with
 | some o =>
  -- the script is one of the module's own objects
  have e:=KX a o hk;rw [ha] at e;cases e;refine core (fun _=>none) (fun _=>.inl rfl) (.inr ⟨vs,_,hk,by rw [zD];exact hl,rv⟩) (fun b u z=>by have z':(none:Option HO)=some u:=z;cases z') (fun b z=>absurd rfl z) fun z=>absurd rfl z
 | none =>
  refine core (fun b=>if b=a then some (.cJ { cls:=.type "list",data:=.seq vs.toArray } (.lst (ns.map V.int))) else none) (fun b=>?_) (.inl (.inr ⟨{ cls:=.type "list",data:=.seq vs.toArray },if_pos rfl⟩)) (fun b u z=>?_) (fun b z=>?_) fun _=>hk
  ·by_cases hb:b=a
   ·exact .inr ⟨_,_,if_pos hb⟩
   ·exact .inl (if_neg hb)
  ·by_cases hb:b=a
   ·have z':=(if_pos hb).symm.trans z;cases z';subst hb;exact ⟨ha,by rw [RD];exact hl,vs,_,rv,ha⟩
   ·have z':=(if_neg hb).symm.trans z;cases z'
  ·by_cases hb:b=a
   ·exact hb
   ·exact absurd (if_neg hb) z
def NW {l:PySem.W.OpenLaw}{n k:Nat}{YP:World->Heap->Prop}{d:DefRec}{K:Params->UU}{CX:World->mU}{sp:World->Sp}
  (hn:l.most=some n)(hn2:n<=sizeLine)(hdf:d.params.defaults=[])(hr:eT k callerA)
  (hY:∀ (w:World)(h:Heap),YP w h->(K w.params).In h)
  (F:∀ (w:World)(mg:UE)(fa:Addr)(h:Heap),(K w.params).In h->h.Ns mainGlobals mg->mg d.name=some (.ref fa) ->
   ∃ fd:FuncData,(∀ (s:Shared)(u:Value),BindsTo s fd ⟨[u],[]⟩ [(x,u)]) /\
    ∀ base:Heap,(K w.params).In base->base.Ns mainGlobals mg->gO l.prog w (K w.params) mg base (CX w) k fa fd [x] (sp w))
  (hsp:∀ (w:World)(H:Hp)(a:Addr)(ns:Ur),ns.length<=n->GI H->Dv.cG (K w.params) H a (ns.map V.int)->sp w [.ref a] H (fun v _=>v=.bl true) fun _ _ _=>False)
  (hCX:∀ (w:World)(H:Hp)(s:Shared)(e:Value)(s':Shared),CX w [] H s (fun _ _ _=>False) e s'->False) :
  PySem.W.WalkO q loose XP YP l.row.toRowW d [] (fun f vs=>PySem.call f vs):=by
 refine PJ.Ah hn hdf fun w s₀ s₁ mg mb fa o pm cd doc a vs ns G Y ho hd hcd hmg hobj hints hlen hg=>?_
 have KX:=hY w _ Y;obtain ⟨fd,hb,hF⟩:=F w mg fa _ KX G.T.g hmg;exact DO KX G.T.g G.T.b G.T.builtins G.T.nolimit hg hobj hints (Rz hlen hn2) hr hF hb (fun H hO hS=>hsp w H a ns hlen hO hS) fun H e s'=>hCX w H s₁ e s'
end L2
namespace Dv
open PySem L2 PySem.W
inductive Ao (K:Frag)(vs:List V)(H:Hp)(Q:VK):Prop
 | mk:∀ (a:Addr)(ns:Ur),(vs=[.ref a])->(cG K H a (ns.map V.int))->(ns.length<=63)->(∀ H',Q (.bl true) H')->Ao K vs H Q
def Dd (K:Frag):Sp:=fun vs H Q _E3=>Ao K vs H Q
def u9:aZ:=fun ds Q x=>∃ ns:Ur,ds=[.list (ns.map .int)]/\ns.length<=63/\Q [] .sh (.bool true)
def Kz (h:Dd K vs H Q E):cy mg K [false] u9 vs H Q E:=by
 obtain ⟨a,ns,rfl,r,hl,q⟩:=h;refine ⟨[.list (ns.map .int)],[],H,fun _ _ r=>r=.bool true,xF,aj.refl _,.sh (.lst r (oZ ns)) .nil,⟨ns,rfl,hl,rfl⟩,fun us k r u H' Hm' fp e _ _ _ _ _ o _=>?_,fun _ _ _ _ _ _ z=>z.elim⟩
 cases e;cases o with
 | sh h=>cases h;exact q H'
def Gd {l:OpenLaw}{YP:World->Heap->Prop}{d:DefRec}{K:Params->Frag}{k:Nat}(hn:l.most=some 63)(hdf:d.params.defaults=[])(hr:eT k callerA)
  (hY:∀ (w:World)(h:Heap),YP w h->(K w.params).In h)
  (F:∀ (w:World)(mg:UE)(fa:Addr)(h:Heap),(K w.params).In h->h.Ns mainGlobals mg->mg d.name=some (.ref fa) ->
   ∃ fd:FuncData,(∀ (s:Shared)(u:Value),BindsTo s fd ⟨[u],[]⟩ [("script",u)])/\∀ base:Heap,(K w.params).In base->base.Ns mainGlobals mg->gO l.prog w (K w.params) mg base (fY l.prog w) k fa fd ["script"] (cy mg (K w.params) [false] u9)) :
  WalkO q loose XP YP l.row.toRowW d [] (fun f vs=>PySem.call f vs) :=
 L2.NW (n:=63) (k:=k) (x:="script") (CX:=fun w=>fY l.prog w) (sp:=fun w=>Dd (K w.params)) hn (by decide) hdf hr hY (fun w mg fa h h1 h2 h3=>by
  obtain ⟨fd,hb,hF⟩:=F w mg fa h h1 h2 h3;exact ⟨fd,hb,fun base g1 g2=>(hF base g1 g2).imp fun vs H Q E z=>Kz z⟩) (fun _ _ a ns hl _ hS=>⟨a,ns,rfl,hS,hl,fun _=>rfl⟩) fun w H s e s' z=>by
  obtain ⟨_,_,_,_,_,_,_,_,_,_,_,_,_,_,z⟩:=z;exact z.elim
def tU:DR:=fun ds P=>∃ ps:UT,ds=[.list (ps.map pD)]/\ps.length<=1000/\∀ qs:UT,qs.Perm ps->P (.ow false) (.list (qs.map pD))
def Hu:∀ {zs ys:List V},zs.Perm ys->∀ {ps:UT},aG K H ys (ps.map pD)->∃ qs:UT,qs.Perm ps/\aG K H zs (qs.map pD):=by
 intro zs ys h
 induction h with
 | nil=>intro ps r;exact ⟨ps,.refl _,r⟩
 | cons x _ ih =>
  intro ps r;cases ps with
  | nil=>cases r
  | cons p ps =>
   cases r with
   | cons h t =>
    obtain ⟨qs,pq,r'⟩:=ih t;exact ⟨p::qs,pq.cons _,.cons h r'⟩
 | swap x y l =>
  intro ps r
  match ps,r with
  | p::p2::ps,.cons h (.cons h2 t)=>exact ⟨p2::p::ps,List.Perm.swap _ _ _,.cons h2 (.cons h t)⟩
 | trans _ _ ih1 ih2 =>
  intro ps r;obtain ⟨q1,p1,r1⟩:=ih2 r;obtain ⟨q2,p2,r2⟩:=ih1 r1;exact ⟨q2,p2.trans p1,r2⟩
def EK:cY K tU (D5 K):=by
 rintro H Hm vs ds P Q s r ⟨ps,rfl,hn,h⟩ q;obtain ⟨x,rfl,h1⟩:=d7 r;obtain ⟨a,xs,rfl,ha,r1⟩:=gH h1;have l1:xs.length=ps.length:=by rw [r1.len,RD]
 refine ⟨a,xs,rfl,(cG.mono s ha).sq,fun y hy=>?_,by rw [l1];exact hn,fun zs p pm hp=>?_⟩
 ·obtain ⟨i,hi⟩:=UA hy;obtain ⟨d,e,r'⟩:=r1.NO hi;rw [RN] at e;obtain ⟨p,_,rfl⟩:=SQ.mp e;cases r' with
  | tup b r2 =>
   obtain ⟨x,y,rfl,h2,h3⟩:=cW r2;cases h2;cases h3;exact ⟨_,_,_,rfl,cP.of (s _ _ b)⟩
 ·obtain ⟨qs,pq,r'⟩:=Hu pm r1;exact bY.nl q s (h qs pq) hp r'
section
variable {X:Cx}{Ex:XK}{π:Uq}{a:Expr}{p pos:Pos}{as:List Arg}
def MM (hm:X.mg "sorted"=none)(S:aY X Ex π [a] as)(hg:Gl X "sorted":=by rfl)(ns:noStar a=true:=by rfl):SE X Ex π (.Call (.Name "sorted" p) [a] [] pos) (ah tU as):=gp za EK hg hm PyProof.Rows.boot_sorted (by decide) (by decide) (by rw [RU,ns];rfl) S
end
end Dv
namespace Dv
open PySem L2 PySem.W PyProof.Rows
def w6 {M:Model}{A:Around}{E:Tn}{s:Shared}{a b:Value}{T id:String}{Q:Tn}(ha:s.TypeIs a T)(hb:s.TypeIs b T)(hl:typeLookup (.type T) (dunderI "add")=pure (some (.builtin id)))(hi:isSeqSlotId id=true)(hfill:fillsNumberSlot (.type T) "add"=pure false)
  (hc:wpAny M A (call (.builtin id) [a,b]) Q E s):wpAny M A (inplaceOp .Add a b) Q E s:=by
 unfold inplaceOp;refine Sa ?_;have hfi:fillsInplaceSlot (.type T) "add" (Operator.Add == .Add)=pure false:=by
  unfold fillsInplaceSlot;show (typeLookup (.type T) (dunderI "add") >>= fun fi=>pure (fi.isSome && !isSeqSlot fi))=pure false
  rw [hl];show (pure ((some (Value.builtin id)).isSome && !isSeqSlotId id):Sem Bool)=pure false;rw [hi];rfl
 have hsi:seqSlot? (.type T) (dunderI "add")=pure (some (.builtin id)):=PySem.seqSlot_of hl hi;refine R8 (wpAny_typeOf ha (R8 (wpAny_of_eq hfi ?_)));show wpAny M A (if false=true then _ else _) Q E s
 rw [if_neg RX];refine R8 (binaryOp1_none (nm:="add") ha hb hfill ?_);refine R8 (wpAny_of_eq hsi ?_);exact R8 (SY hc)
def QL (K:Frag):IW:=fun x y H Q=>∃ l b xs zs,x=.ref l/\y=.ref b/\H l=some (.lst xs)/\cG K H b zs/\xs.length + zs.length<=sizeLine/\Q (.ref l) (upd H l (.lst (xs++zs)))
section
variable {X:Cx}{Ex:XK}
def JG:PN X .Add (QL X.K):=by
 intro pins s σ H x y v u Q I rx ry h;obtain ⟨l,b,xs,zs,rfl,rfl,hH,hB,hz,q⟩:=h;cases rx;cases ry;obtain ⟨z,its,n,r,hl,e⟩:=I.C6 hH;obtain ⟨z2,its2,n2,r2,e2⟩:=hB.get I;have hl2:=r2.length;have hsz:its.toArray.size + its2.toArray.size<=sizeLine:=by rw [RV,RV];omega
 have hlong:¬ (!its.toArray.isEmpty && Builtin.List.listTooLong (its.toArray.size + its2.toArray.size))=true:=by
  rw [xO hsz,Bool.and_false];exact RX
 refine w6 (T:="list") ⟨_,e,rfl⟩ ⟨_,e2,rfl⟩ F.slot_list_iadd.lookup (by decide +kernel) noFill_list_add ?_
 refine call_meets F.slot_list_iadd ⟨_,e,rfl⟩ F.entry_list_iadd (F.args_list_iadd_2 _ _)
  (AutoSeq1.list___iadd___list_list_0 l its.toArray n b its2.toArray n2 hlong (by rw [RV];omega) (by omega)) ⟨e,e2,?_⟩
 refine ⟨.ref l,_,I.CD (its':=its++its2) hH e (by simp) (r.append r2) ?_,rfl,q⟩
 rw [RW];omega
def O5 {i:Nat}(hN:X.N.Nodup)(hi:X.N[i]?=some x)(hl:Loc X.env.scope x)(hf:X.fn x=true\/X.env.scope.names.lookup x=some .local)(h:SE X Ex (aQ X) e d):S1 X Ex (.AugAssign (.Name x pos') .Add e pos) (yt sizeLine i d):=by
 intro g D' E σ H Hm F D hx R p nx rt;obtain ⟨hh,p⟩:=p;have hh':here E i=true:=by
  unfold jJ at hh;unfold here;split at hh
  ·rename_i q;rw [q]
  ·cases hh
 obtain ⟨v0,hv0⟩:=mC R hh';refine WS.of (Nq hN hi hl bg JG hf) ⟨v0,dm (iT (bJ hi)) hv0,h g D'.xc E σ H Hm F _ _ hx R p fun E' k v u H' Hm' F' fp p' R' s' T=>?_⟩
 obtain ⟨fz,pp,ds,es,e1,rfl,hlen,p'⟩:=p';obtain ⟨Hm2,up,R2,rp⟩:=T.cJ R' fz;obtain ⟨b,zs,rfl,hb,rz⟩:=gH rp;obtain ⟨v1,h1,h2⟩:=R2.slot i _ _ e1;rw [hv0] at h1;cases h1;generalize hfi:F' i=fi at h2;cases h2 with
 | @ow _ a xs _ ha rx =>
  obtain ⟨a',xs',g1,g2,g3,g4,R3⟩:=R2.chg (es:=ds++es) e1 (rx.app rz);rw [hv0] at g1;cases g1;rw [ha] at g2;cases g2;refine ⟨a,b,xs,zs,rfl,rfl,ha,cG.mono R2.sub hb,by rw [rx.len,rz.len];exact hlen,?_⟩
  show D.nx ((sel (aQ X) σ).set i (some (.ref a))) _;have hsel:(sel (aQ X) σ).set i (some (.ref a))=sel (aQ X) σ:=by
   refine Ss fun j=>?_
   rw [U1]
   by_cases c:i=j
   ·subst c;have:=dm (iT (bJ hi)) hv0;rw [if_pos rfl,this,if_pos];rcases SG i (sel (aQ X) σ).length with z | z
    ·exact z
    ·rw [S4 z] at this;cases this
   ·rw [if_neg c]
  rw [hsel];exact nx _ _ _ _ _ p' R3 (s'.trans up)
def P1 (i:Nat)(hN:X.N.Nodup)(h:SE X Ex (aQ X) e d)(hi:X.N[i]?=some x:=by rfl)(hl:Loc X.env.scope x:=by first | exact Or.inl rfl | exact Or.inr rfl)(hf:X.fn x=true\/X.env.scope.names.lookup x=some .local:=by first | exact Or.inl rfl | exact Or.inr rfl):S1 X Ex (.AugAssign (.Name x pos') .Add e pos) (yt sizeLine i d):=O5 hN hi hl hf h
end
end Dv
namespace Dv
open PySem L2 PySem.W
section
variable {K:Frag}{g:Gh}{E:En}{σ:St}{H H' Hm Hm':Hp}{F:Nat->Uh}
def Rl.xC (R:Rl K g E σ H Hm F){p:Addr}(A:lP g F H Hm [p]):Rl K g E σ (upd H p o) Hm F where
 len:=R.len
 sub:=fun b u e=>by
  have:b≠p:=fun z=>by rw [z,A.off p RA] at e;cases e
  rw [ao this];exact R.sub _ _ e
 slot:=fun i k d e=>by
  obtain ⟨v,h1,h2⟩:=R.slot i k d e;exact ⟨v,h1,h2.step (aj.refl _) fun a ha=>ao fun z=>A.aV p RA i (z ▸ ha)⟩
 off:=R.off
 bW:=fun i a ha=>by
  obtain ⟨u,hu,n⟩:=R.bW i a ha;have ne:a≠p:=fun z=>A.aV p RA i (z ▸ ha)
  exact ⟨u,by rw [ao ne];exact hu,n⟩
 aV:=R.aV
 fr:=fun q o hq ho=>by
  have:q≠p:=fun z=>by rw [z,A.new p RA] at ho;cases ho
  rw [ao this];exact R.fr q o hq ho
 new:=R.new
 pin:=R.pin
 old:=R.old
end
section
variable {X:Cx}{Ex:XK}{π:Uq}
end
section
variable {X:Cx}{Ex:XK}{π:Uq}
end
end Dv
namespace SM
open PySem
section
variable {prog:Program}{w:World}{K:Type} [DecidableEq K]{knd:HeapKind prog w K}{A:Around}{E:Tn}{s:Shared}{d a:Addr}{k:K}{xs:List (K×Addr×Value)}
def DG (hu:knd.room A)(hkey:knd.is s.heap k a)(hm:s.heap.DictOfH knd d xs)(hsz:xs.length<=sizeLine)
  (old:∀ p,atKey xs k=some p->Q p.2 { s with toks:=s.toks + knd.draws k })
  (new:atKey xs k=none->∀ h',h'.DictOfH knd d (storedH xs k a dv)->Heap.SameBut d s.heap h'->Q dv { s with heap:=h',toks:=s.toks + knd.draws k }):wpAny (model prog w) A (dictSetDefault d (.ref a) dv) Q E s:=by
 obtain ⟨o,es,ep,ho,hc,hd,he,his,hn⟩:=hm;unfold dictSetDefault
 try with_reducible refine Sa ?_
 refine R8 (knd.pyHash hu hkey (?_:_))
 refine R8 (wpAny_dictFind_heap (s:={ s with toks:=s.toks + knd.draws k }) hu hkey ho hd he his hn (fun hno=>?_) fun j p hj=>?_)
 ·have hnot:k∉xs.map (·.1):=not_mem_keys_of_get hno;have hat:=atKey_none_of_get hno;refine R8 (SY (R8 (wpAny_updateDictKeys (hz:=by have e:=size_of_entries he;omega) (s:={ s with toks:=s.toks + knd.draws k }) ho hd (R9 (new hat _ ⟨_,_,ep + 1,Sz _ ho (Obj.isFreed_of_dict (Obj.data_mapDictKeys hd _)),hc.mapDictKeys _,Obj.data_mapDictKeys hd _,?_,?_,?_⟩ (Tz ..))))))
  ·rw [storedH_new hat];simp [he,entryOfKey]
  ·rw [storedH_new hat];intro x hx;rcases RM.mp hx with hx | hx
   ·exact knd.keeps (his x hx) ho hd (Tz ..)
   ·have e:x=(k,a,dv):=by simpa using hx
    subst e;exact knd.keeps hkey ho hd (Tz ..)
  ·rw [storedH_new hat,Rw,TU];refine ⟨hn,by simp,fun x hx y hy e=>?_⟩
   have e2:y=k:=by simpa using hy
   exact hnot (by rw [<- e2,<- e];exact hx)
 ·have hat:=atKey_of_get hn hj;refine R8 (Tw (s:={ s with toks:=s.toks + knd.draws k }) ho hd (?_:_))
  rw [entry_at he j,hj];exact R8 (SY (R9 (old p hat)))
def t7 (hu:knd.room A.in1)(hkey:knd.is s.heap k a)(hd0:(d == sysModules)=false)(hm:s.heap.DictOfH knd d xs)(hsz:xs.length<=sizeLine)
  (old:∀ p,atKey xs k=some p->Q p.2 { s with toks:=s.toks + knd.draws k })
  (new:atKey xs k=none->∀ h',h'.DictOfH knd d (storedH xs k a dv)->Heap.SameBut d s.heap h'->Q dv { s with heap:=h',toks:=s.toks + knd.draws k }):wpAny (model prog w) A (call (.builtin "dict.setdefault") [.ref d,.ref a,dv]) Q E s:=by
 refine Sh F.slot_dict_setdefault hm.typeIs F.entry_dict_setdefault (?_:_) (F.args_dict_setdefault_3 _ _ _)
 unfold Builtin.«dict.setdefault»;refine R8 (?_:_)
 unfold Builtin.Dict.keyAndDefault;refine R8 (wpAny_notOrdered_dict hm.typeIs (?_:_))
 refine id (?_:wpAny _ _ (pure (d,Value.ref a,some dv)) _ _ s);refine R9 (?_:_)
 refine id (?_:wpAny _ _ (if (d == sysModules)=true then _ else (dictSetDefault d (.ref a) dv >>= _)) _ _ s)
 rw [if_neg (by rw [hd0];exact RX)]
 exact R8 (DG hu hkey hm hsz (fun p hp=>R9 ⟨p.2,rfl,old p hp⟩) fun hn h' hm' hs'=>R9 ⟨dv,rfl,new hn h' hm' hs'⟩)
end
end SM
namespace L2
open PySem PySem.Spec PyProof.Rows
section
variable {X:Cx}
def Ou:V->List V->Hp->VK->Prop:=fun x vs H Q=>∃ (a b:Addr)(kvs:List (List Key×V))(k:List Key) (v:V),x=.ref a/\vs=[.ref b,v]/\H a=some (.dT kvs)/\H b=some (.tup (k.map kV))/\kvs.length < sizeLine /\
 match cg kvs k with
 | some u=>Q u H
 | none=>Q v (upd H a (.dT (kvs++[(k,v)])))
def KH (hu:X.A.units + 8 < cLine):NQ X "dict.setdefault" Ou:=by
 intro pins s σ H x vs v us Q I rx rv h;obtain ⟨a,b,kvs,k,y,rfl,rfl,ha,hb,hl,q⟩:=h;cases rx;obtain ⟨u1,u2,rfl,ru1,ru2⟩:=rv.two;cases ru1;obtain ⟨z,hd,xs,rel,dd⟩:=IV I.hok ha;have hz:xs.length<=sizeLine:=by rw [<- Paired.length rel];exact z
 have rv2:=rel.val k;refine SM.t7 (tupleKind_room_in1 (by omega)) (qK I.hok hb) hd dd hz (fun p hp=>?_) fun hn h' dd' hs=>?_
 ·rw [hp] at rv2;cases e:cg kvs k with
  | none=>rw [e] at rv2;exact absurd rv2.j6 (by simp)
  | some u =>
   rw [e] at rv2 q;obtain ⟨w',hw,rw'⟩:=kH.some_of (v:=u) (o:=some p.2) rv2;cases hw;exact ⟨u,H,I.tok _,rw',q⟩
 ·rw [hn] at rv2;cases e:cg kvs k with
  | some u=>rw [e] at rv2;exact absurd rv2.j6 (by simp)
  | none =>
   rw [e] at q;have ep:putK kvs k y=kvs++[(k,y)]:=by
    unfold putK;rw [if_neg];rw [tG,e];decide
   have rp:=rel.put k hb ru2;rw [ep] at rp;obtain ⟨qo,es,ep',hq,h2,h3,h4,_,h5⟩:=dd';refine ⟨y,_,uY I (ob:=.dT (kvs++[(k,y)])) (by rw [ha];exact Sn) hs ⟨qo,hq⟩ ⟨by rw [RW];exact hl,hd,_,rp.keeps fun c ys ec=>?_,qo,es,ep',hq,h2,h3,h4,h5⟩,ru2,q⟩
   rw [ao (Cb ec ha (fun z=>nomatch z))]
   exact ec
end
end L2
namespace SM
open PySem
def yX (h:Heap)(d:Addr)(es:UL) (ep:Nat):Prop:=∃ o,h.get? d=some o/\o.ExactDict/\o.data=.dict es ep
section
variable {prog:Program}{w:World}{A:Around}{E:Tn}{s:Shared}{es:UL}{ep:Nat}{v d it:Addr}{i:Nat}
def yX.ty (h:yX s.heap d es ep):s.TypeIs (.ref d) "dict":=by
 obtain ⟨o,ho,hc,_⟩:=h;exact ⟨o,ho,hc.1⟩
def KZ (hd:(d == sysModules)=false)(hm:yX s.heap d es ep)(q:Q (.ref s.heap.objs.size) { s with heap:=s.heap.push { cls:=.type "dict_values",data:=.fields #[.ref d] } }) :
  wpAny (model prog w) A (call (.builtin "dict.values") [.ref d]) Q E s:=by
 refine Sh F.slot_dict_values hm.ty F.entry_dict_values (?_:_) (F.args_dict_values_1 _)
 unfold Builtin.«dict.values»;refine R8 (?_:_)
 unfold Builtin.Dict.noArgs;refine R8 (wpAny_notOrdered_dict hm.ty (?_:_))
 refine id (?_:wpAny _ _ (pure d) _ _ s);refine R9 (?_:_)
 refine id (?_:wpAny _ _ (Builtin.Dict.showsAll d >>= _) _ _ s);unfold Builtin.Dict.showsAll;rw [if_neg (by rw [hd];exact RX)]
 refine R8 (R9 (?_:_))
 exact R8 (SX (R9 ⟨_,rfl,q⟩))
def Ds (hv:s.heap.IsValuesView v d)(hm:yX s.heap d es ep)
  (q:Q (.ref s.heap.objs.size) { s with heap:=s.heap.push { cls:=.type "dict_valueiterator",data:=.fields #[.ref d,.int 0 0,.int es.size 0,.int ep 0] } }):wpAny (model prog w) A (pyIter (.ref v)) Q E s:=by
 obtain ⟨ov,v1,v2,v3⟩:=id hv;obtain ⟨o,m1,m2,m3⟩:=id hm;refine wpAny_pyIter_slot hv.typeIs F.slot_dict_values_iter (Sh F.slot_dict_values_iter hv.typeIs F.entry_dict_values_iter (?_:_) (F.args_dict_values_iter_1 _))
 unfold Builtin.«dict_values.__iter__»;refine R8 (R9 (?_:_))
 refine R8 (?_:_)
 unfold Builtin.Dict_items.dictOf;refine R8 (wpAny_field v1 v3 (x:=.ref d) rfl (R9 (?_:_)))
 refine R8 (?_:_)
 unfold Builtin.Dict_items.newIterator;refine R8 (Tw m1 m3 (?_:_))
 refine R8 (wpAny_dictEpoch m1 m3 (?_:_))
 have own0:Builtin.Dict_items.ownsTuple "dict_valueiterator"=false:=by decide
 simp only [own0,Tr,SW];refine SX (R9 ⟨_,rfl,"dict_valueiterator",_,⟨_,Rx _ rfl,rfl⟩,VP.lookup,(?_:_)⟩)
 simpa [rawInt] using q
def GQ (ht:s.heap.IsValIter it d i es.size ep)(hm:yX s.heap d es ep)(hx:es[i]?=some e)
  (q:∀ h',h'.IsValIter it d (i + 1) es.size ep->Heap.SameBut it s.heap h'->Q (some e.val) { s with heap:=h' }):wpAny (model prog w) A (pyNext (.ref it)) Q E s:=by
 obtain ⟨o,t1,t2,t3⟩:=id ht;obtain ⟨od,m1,m2,m3⟩:=id hm;unfold pyNext;refine R8 (wpAny_attempt (U5 (name:=Str.ofString "__next__") ht.typeIs VP
  (Sh VP ht.typeIs F.entry_dict_valueiterator_next (?_:_) (F.args_dict_valueiterator_next_1 _))))
 refine R8 (R9 (?_:_))
 refine R8 (?_:_)
 refine R8 (?_:_)
 first | refine R8 (VQ ht.typeIs (R9 (?_:_))) | refine R8 (wpAny_typeNameOf_valiter ht.typeIs (R9 (?_:_)))
 refine R8 (wpAny_fieldsOf t1 t3 (?_:_))
 have own0:Builtin.Dict_items.ownsTuple "dict_valueiterator"=false:=by decide
 simp only [own0,Tr,SW];refine id (?_:wpAny _ _ (if (Value.ref d == Value.none)=true then _ else _) _ _ s)
 have nn:¬ ((Value.ref d == Value.none)=true):=fun z=>RX z
 rw [if_neg nn];refine R8 (R9 (?_:_))
 refine R8 (Tw m1 m3 (?_:_))
 rw [if_neg (by simp)]
 refine R8 (R9 (?_:_))
 refine R8 (wpAny_dictEpoch m1 m3 (?_:_))
 rw [if_neg (by simp)]
 refine R9 (?_:_)
 have lt:i < es.size:=(V2.mp hx).1;have ev:es[i]=e:=(V2.mp hx).2;simp only [show ¬ ((i:Int) < 0) from Int.not_lt.mpr (Int.natCast_nonneg i),SW,Tj,UW lt]
 refine R8 (?_:_)
 first | refine R8 (VQ ht.typeIs (R9 (?_:_))) | refine R8 (wpAny_typeNameOf_valiter ht.typeIs (R9 (?_:_)))
 refine R8 (wpAny_isOneOf_valiter ht.typeIs (?_:_))
 refine id (?_:wpAny _ _ (setField (.ref it) 1 (rawInt ((i:Int) + 1)) >>= _) _ _ s);refine R8 (Tq t1 t3 (by simp) (?_:_))
 have ht':(s.heap.update it (Obj.mapFields (·.setIfInBounds 1 (rawInt ((i:Int) + 1))))).IsValIter it d (i + 1) es.size ep :=
  ⟨_,Sz _ t1 (Obj.isFreed_of_fields (UC t3 _)),(Obj.cls_mapFields ..).trans t2,by rw [UC t3];simp [rawInt]⟩
 generalize hU:s.heap.update it (Obj.mapFields (·.setIfInBounds 1 (rawInt ((i:Int) + 1))))=U at ht' ⊢;refine R8 (Sa (?_:_))
 refine R8 (wpAny_isOneOf_valiter (s:={ s with heap:=U }) ht'.typeIs (?_:_))
 refine R8 (wpAny_isOneOf_valiter (s:={ s with heap:=U }) ht'.typeIs (?_:_))
 refine id (?_:wpAny _ _ (pure es[i].val) _ _ _);refine R9 (R9 ⟨_,rfl,R9 (?_:_)⟩)
 rw [ev];exact q U ht' (hU ▸ Tz ..)
def Ai (hh:A.handled=none)(ht:s.heap.IsValIter it d i es.size ep)(hm:yX s.heap d es ep)(hx:es.size<=i)
  (q:∀ h',Heap.ExtBut it s.heap h'->Q none { s with heap:=h' }):wpAny (model prog w) A (pyNext (.ref it)) Q E s:=by
 obtain ⟨o,t1,t2,t3⟩:=id ht;obtain ⟨od,m1,m2,m3⟩:=id hm;unfold pyNext;refine R8 (wpAny_attempt (U5 (name:=Str.ofString "__next__") ht.typeIs VP
  (Sh VP ht.typeIs F.entry_dict_valueiterator_next (?_:_) (F.args_dict_valueiterator_next_1 _))))
 refine R8 (R9 (?_:_))
 refine R8 (?_:_)
 refine R8 (?_:_)
 first | refine R8 (VQ ht.typeIs (R9 (?_:_))) | refine R8 (wpAny_typeNameOf_valiter ht.typeIs (R9 (?_:_)))
 refine R8 (wpAny_fieldsOf t1 t3 (?_:_))
 have own0:Builtin.Dict_items.ownsTuple "dict_valueiterator"=false:=by decide
 simp only [own0,Tr,SW];refine id (?_:wpAny _ _ (if (Value.ref d == Value.none)=true then _ else _) _ _ s)
 have nn:¬ ((Value.ref d == Value.none)=true):=fun z=>RX z
 rw [if_neg nn];refine R8 (R9 (?_:_))
 refine R8 (Tw m1 m3 (?_:_))
 rw [if_neg (by simp)]
 refine R8 (R9 (?_:_))
 refine R8 (wpAny_dictEpoch m1 m3 (?_:_))
 rw [if_neg (by simp)]
 refine R9 (?_:_)
 simp only [show ¬ ((i:Int) < 0) from Int.not_lt.mpr (Int.natCast_nonneg i),SW,Tj,Array.getElem?_eq_none hx]
 refine R8 (?_:_)
 first | refine R8 (VQ ht.typeIs (R9 (?_:_))) | refine R8 (wpAny_typeNameOf_valiter ht.typeIs (R9 (?_:_)))
 refine id (?_:wpAny _ _ (setField (.ref it) 0 .none >>= _) _ _ s);refine R8 (Tq t1 t3 (by simp) (?_:_))
 refine id (?_:wpAny _ _ (newExc (.type "StopIteration") [] >>= _) _ _ _);refine R8 (?_:_)
 simp only [newTuple,newExc];refine R8 (SX (?_:_) (by size_fits))
 refine R8 (m:=firstArgMember _ _) (wpAny_of_eq (a:=Value.none) (by first | rfl | (simp only [firstArgMember];rfl)) (?_:_))
 refine SX (?_:_) (by size_fits)
 simp only [raiseNew];refine R8 (wpAny_handled (?_:_))
 rw [show A.in1.handled=none from hh]
 refine R8 (R9 (wpAny_throw (?_:_)))
 refine R8 (wpAny_isInstance (T:="StopIteration") (b:=true) ⟨_,Rx _ rfl,rfl⟩ isSubtype_stop (?_:_))
 exact R9 (q _ (((Tz ..).extBut.push _).push _))
end
end SM
namespace L2
open PySem PySem.Spec PyProof.Rows
def Nd (a:Addr)(o:Obj):It :=
 ⟨fun i H=>∃ kvs x,H a=some (.cJ o (.dT kvs))/\kvs[i]?=some x,fun i H x H'=>H'=H/\∀ kvs,H a=some (.cJ o (.dT kvs))->(kvs[i]?).map (·.2)=some x,fun i H=>∃ kvs,H a=some (.cJ o (.dT kvs))/\kvs.length<=i⟩
theorem wL {α β:Type}{F:α->β->Prop}:∀ {l:List α}{m:List β},Paired F l m->∀ {i:Nat}{x:α},l[i]?=some x->∃ y,m[i]?=some y/\F x y
 | _,_,.nil,_,_,h=>nomatch h
 | _,_,.cons r _,0,_,h=>by
  cases h;exact ⟨_,rfl,r⟩
 | _,_,.cons _ t,i + 1,_,h=>wL t (i:=i) h
section
variable {X:Cx}{pins:UG}{σ:St}{H:Hp}{s:Shared}
def DK (I:Inv X pins σ H s){a:Addr}{o:Obj}{kvs:List (List Key×V)}(h:H a=some (.cJ o (.dT kvs))):∃ es ep,o.data=.dict es ep/\SM.yX s.heap a es ep/\es.size=kvs.length/\∀ (i:Nat)(x:List Key×V),kvs[i]?=some x->∃ e:DictEntry,es[i]?=some e/\RelV x.2 e.val:=by
 obtain ⟨ho,_,_,xs,rel,o2,es,ep,h1,h2,h3,h4,_⟩:=(show bO X.prog X.w H s.heap a (.cJ o (.dT kvs)) from I.hok a _ h)
 have e:o2=o:=by
  rw [ho] at h1;exact (Option.some.inj h1).symm
 subst e;refine ⟨es,ep,h3,⟨o2,ho,h2,h3⟩,?_,fun i x hx=>?_⟩
 ·have:=congrArg List.length h4;rw [Sx,RD] at this;rw [this,Paired.length rel]
 ·obtain ⟨y,hy,r⟩:=wL rel hx;have:es.toList[i]?=some (entryOfKey (tupleKind (c8 X.prog X.w)) y):=by rw [h4,RN,hy];rfl
  rw [So] at this;exact ⟨_,this,r.2.2⟩
end
def FI {P:Program}{w:World}{K:UU}{tg:Expr}(a it:Addr)(o:Obj){es:UL}{ep:Nat}(ho:o.data=.dict es ep):Turn P w K tg (Nd a o) [it] it (fun i h=>h.IsValIter it a i es.size ep) where
 mem:=by simp
 obj:=fun i h st b hb=>by
  have e:b=it:=by simpa using hb
  subst e;obtain ⟨o,e,c,d⟩:=st;exact ⟨o,e,fun v z=>by rw [d] at z;cases z⟩
 keep:=fun i h h' st k=>by
  obtain ⟨o,e,r⟩:=st;exact ⟨o,k it (by simp) o e,r⟩
 item:=by
  intro X hP hw hK hc i pins s σ H E I hf st hg;subst hP hw hK;obtain ⟨kvs,x,hq,hx⟩:=hg;obtain ⟨es2,ep2,d2,ea,sz,val⟩:=DK I hq;rw [ho] at d2;cases d2;obtain ⟨e,he,re⟩:=val i x hx;obtain ⟨f0,f1,f2,f3,f4,f5⟩:=hf it (by simp)
  refine SM.GQ st ea he fun h' st' sb=>?_
  have I1:Inv X pins σ H { s with heap:=h' }:=I.turned (t':=s.toks) (fun b o hb e=>(sb.2 b hb).trans e) f0 f1 f3 f4 f5
  obtain ⟨o,e,c,d⟩:=id st';refine ⟨_,rfl,xD (s:={ s with heap:=h' }) e c d (by decide) ⟨x.2,H,I1,re,⟨rfl,fun kvs2 h2=>?_⟩,st',fun b hb=>(hf b hb).1⟩⟩
  rw [hq] at h2;cases h2;rw [hx];rfl
 done:=by
  intro X hP hw hK hc i pins s σ H E I hf st hg;subst hP hw hK;obtain ⟨kvs,hq,hx⟩:=hg;obtain ⟨es2,ep2,d2,ea,sz,val⟩:=DK I hq;rw [ho] at d2;cases d2;obtain ⟨f0,f1,f2,f3,f4,f5⟩:=hf it (by simp)
  exact SM.Ai (I.ok.hd hc) st ea (by omega) fun h' eb=>⟨rfl,I.turned (t':=s.toks) (fun b o hb e=>eb b o hb e) f0 f1 f3 f4 f5⟩
 self:=fun _ _ _ _ _ st h=>wpAny_pyIter_valiter st h
inductive DH (R:(It->Hp->Prop)) (x:V)(H1:Hp):Prop
 | mk:∀ a kvs,(x=.ref a)->(H1 a=some (.dT kvs))->(∀ o,R (Nd a o) (upd H1 a (.cJ o (.dT kvs))))->DH R x H1
def OV (tl:TE):TI:=fun σ H R=>tl σ H fun x H1=>DH R x H1
section
variable {X:Cx}{tg:Expr}
def Kh {l:Expr}{tl:TE}{apos cpos:Pos}(hl:PE X l tl)(hbase:attributeBase l "values" X.env (eval l X.env)=eval l X.env:=by rfl)(hline:(apos.endLine == cpos.line)=true:=by rfl):PI X tg (.Call (.Attribute l "values" apos) [] [] cpos) (OV tl):=by
 intro pins s σ H R I h;refine wpAny_Call_method0_late hbase hline (aN (hl pins s σ H _ I h) fun v s1 ⟨x,H1,I1,r1,q1⟩=>?_)
 obtain ⟨a,kvs,e,ha,q⟩:=q1;subst e;cases r1;obtain ⟨z,hd,xs,rel,o,es,ep,h1,h2,h3,h4,h5⟩:=(show bO X.prog X.w H1 s1.heap a (.dT kvs) from I1.hok a _ ha)
 have If:Inv X pins σ (upd H1 a (.cJ o (.dT kvs))) s1:=by
  have:=I1.write (x:=a) (e:=a) (o:=.cJ o (.dT kvs)) (h':=s1.heap) (t':=s1.toks) (by rw [ha];trivial) (.inl rfl) (fun _ _ _ e=>e) ⟨o,h1⟩ ⟨h1,z,hd,xs,Paired.CZ rel fun p q r=>⟨r.1,by rw [ao (Cb r.2.1 ha (fun z=>nomatch z))];exact r.2.1,r.2.2⟩,o,es,ep,h1,h2,h3,h4,h5⟩
  exact this
 refine ⟨"dict","dict.values",F.plainAttrs_dict,F.slot_dict_values,F.type_dict_values,⟨o,h1,h2.1⟩,fun b e=>?_,Calls.callWith_builtin rfl (PySem.evalArgs_none (SM.KZ hd ⟨o,h1,h2,h3⟩ ?_))⟩
 ·cases e;exact ⟨o,h1,h2.2.1⟩
 have hv:(s1.heap.push { cls:=.type "dict_values",data:=.fields #[.ref a] }).IsValuesView s1.heap.objs.size a:=⟨_,Rx _ rfl,rfl,rfl⟩;have I2:Inv X pins σ (upd H1 a (.cJ o (.dT kvs))) { s1 with heap:=s1.heap.push { cls:=.type "dict_values",data:=.fields #[.ref a] } }:=If.kept (t':=s1.toks) fun b o e=>RO _ e
 refine SM.Ds (s:={ s1 with heap:=s1.heap.push { cls:=.type "dict_values",data:=.fields #[.ref a] } }) hv ⟨o,RO _ h1,h2,h3⟩ ?_
 generalize s1.heap.push { cls:=.type "dict_values",data:=.fields #[.ref a] }=hp at hv I2 ⊢;refine ⟨hp.objs.size,[hp.objs.size],_,_,_,rfl,I2.kept (t':=s1.toks) fun b o e=>RO _ e,FI a _ o h3,⟨_,Rx _ rfl,rfl,rfl⟩,fun b hb=>?_,q o⟩
 have e:b=hp.objs.size:=by simpa using hb
 subst e;exact I2.qU (RE _) (I2.hok.fresh (RE _))
end
end L2
namespace Dv
open PySem L2 PySem.W
def Cv:DE:=fun _ E Q=>Q E (.st false) (.dict [(.none,.none)])
def kJ:TH->PyData->PyData->List (PyData×PyData)
 | [],k,d=>[(k,.list [d])]
 | (k',v)::r,k,d=>if k'=k then (k',match v with | .list es=>.list (es++[d]) | v=>v)::r else (k',v)::kJ r k d
def Ls:PyData->Nat
 | .list es=>es.length
 | _=>0
def HH (i jc n:Nat):DE:=fun _ E Q=>∃ kvs kc ks k d E2,E[i]?=some (some (.st false,.dict ((.none,.none)::kvs)))/\E[jc]?=some (some (kc,.list ks))/\kc.rd=true/\ks.all mQ=true/\E[n]?=some (some (k,d))/\i≠n/\dD E n=some E2/\kvs.length < sizeLine/\(kvs.all fun kv=>decide (Ls kv.2 < sizeLine))=true/\Q (E2.set i (some (.st false,.dict ((.none,.none)::kJ kvs (.tuple ks) d)))) .sh .none
def G0 (i:Nat):DI:=fun _ E Q=>∃ kvs,E[i]?=some (some (.st false,.dict ((.none,.none)::kvs)))/\Q (E.set i none) (kvs.map (·.2))
section
variable {K:Frag}{H H' Hm Hm':Hp}
def kq.len (i:kq K H Hm xs ds fp):xs.length=ds.length:=by
 induction i with
 | nil=>rfl
 | own _ _ _ _ ih=>exact congrArg (· + 1) ih
def Eu {k k':List Key}(h:PyData.tuple (k.map bq)=.tuple (k'.map bq)):k=k':=by
 replace h:=PyData.tuple.inj h
 induction k generalizing k' with
 | nil=>cases k' with | nil=>rfl | cons _ _=>cases h
 | cons a k ih =>
  cases k' with
  | nil=>cases h
  | cons b k' =>
   rw [RZ,RZ,TX] at h;rw [ih h.2];have h1:=h.1;cases a <;> cases b <;> first | (cases h1;rfl) | cases h1
theorem kq.find (k:List Key):∀ {xs:List (List Key×V)}{ds:TH}{fp:Uh},kq K H Hm xs ds fp ->
  (cg xs k=none/\∀ (H':Hp) d e x,H' e=some (.lst [x])->Rp K Hm x d->(∀ a∈fp,H' a=H a)->e∉fp->kq K H' Hm (xs++[(k,.ref e)]) (kJ ds (.tuple (k.map bq)) d) (fp++[e])) \/
  ∃ b ys,cg xs k=some (.ref b)/\b∈fp/\H b=some (.lst ys)/\(∃ kv∈ds,ys.length=Ls kv.2)/\∀ (H':Hp) x d,Rp K Hm x d->H' b=some (.lst (ys++[x]))->(∀ a∈fp,a≠b->H' a=H a)->kq K H' Hm xs (kJ ds (.tuple (k.map bq)) d) fp
 | _,_,_,.nil=>.inl ⟨rfl,fun _ d e x he r _ n=>.own he (.cons r .nil) Rv .nil⟩
 | _,_,_,.own (k:=k') (b:=b) (ys:=ys) (es:=es) (kvs:=kvs) (ds:=ds) (fp:=fp) hb r nb t=>by
  by_cases c:k'=k
  ·subst c;refine .inr ⟨b,ys,?_,RA,hb,⟨_,RA,r.len⟩,fun H' x d rx h1 h2=>?_⟩
   ·unfold cg;rw [Uc (by simp)]
    rfl
   ·unfold kJ;rw [if_pos rfl];exact .own h1 (r.snoc rx) nb (t.step (aj.refl _) fun a ha=>h2 a (RG _ ha) fun z=>nb (z ▸ ha))
  ·have ne:PyData.tuple (k'.map bq)≠.tuple (k.map bq):=fun z=>c (Eu z)
   have ev:cg ((k',V.ref b)::kvs) k=cg kvs k:=by
    unfold cg;rw [Ud (by simpa using c)]
   rcases t.find k with ⟨e1,h⟩ | ⟨b',ys',e1,m1,e2,⟨kv,m2,e3⟩,h⟩
   ·refine .inl ⟨ev.trans e1,fun H' d e x h1 rx h2 n=>?_⟩
    unfold kJ;rw [if_neg ne];refine .own ((h2 _ RA).trans hb) r (fun z=>?_) (h H' d e x h1 rx (fun a ha=>h2 a (RG _ ha)) fun z=>n (RG _ z))
    rcases RM.mp z with z | z
    ·exact nb z
    ·exact n (RH.mp z ▸ RA)
   ·refine .inr ⟨b',ys',ev.trans e1,RG _ m1,e2,⟨kv,RG _ m2,e3⟩,fun H' x d rx h1 h2=>?_⟩
    have nbb:b≠b':=fun z=>nb (z ▸ m1)
    unfold kJ;rw [if_neg ne];exact .own ((h2 b RA nbb).trans hb) r nb (h H' x d rx h1 fun a ha hn=>h2 a (RG _ ha) hn)
def kq.vals (s:aj Hm Hm')(i:kq K H Hm xs ds fp):(∀ a∈fp,Hm' a=H a)->aG K Hm' (xs.map (·.2)) (ds.map (·.2)):=by
 induction i with
 | nil=>exact fun _=>.nil
 | own e r _ _ ih=>exact fun h=>.cons (.lst (.inl (.inl ((h _ RA).trans e))) (r.mono s)) (ih fun a ha=>h a (RG _ ha))
end
section
variable {X:Cx}{Ex:XK}{π:Uq}{pos:Pos}{tg:Expr}
def Ot:SE X Ex π (.Dict [] [] pos) Cv:=by
 intro g x E σ H Hm F P Q hx R p q;refine WE.of zd fun a ha=>?_
 have s2:=bZ (o:=.dT []) ha;have R2:=R.grow (H':=upd H a (.dT [])) s2 (aj.refl _) (R.sub.trans s2) (fun i b hb=>R.off i b hb) fun _ _=>.inl rfl
 refine q _ _ _ _ _ Hm F [a] p R2 (aj.refl _) ⟨.st aL Rv .nil,fun b hb=>?_,fun b hb i=>?_,fun b hb=>?_⟩
 ·rw [RH.mp hb];exact R.lG ha
 ·rw [RH.mp hb];exact R.fresh ha
 ·rw [RH.mp hb];exact R.fj ha
def set_same {σ:St}{i:Nat}(h:σ[i]?=some (some v)):σ.set i (some v)=σ:=by
 refine Ss fun j=>?_
 rw [U1]
 by_cases c:i=j
 ·subst c;rw [if_pos rfl,h,if_pos (bJ h)]
 ·rw [if_neg c]
def Me {ap1 cpos2 ap2 cpos3:Pos}{i j jc jj n jn:Nat}(hu:X.A.units + 64 < cLine)(hg:Gl X "tuple")(hm:X.mg "tuple"=none)(hv:PE X (.Name x p) (jL j))(hj:π[j]?=some i)(hc:PE X (.Name c cp) (jL jj))(hjc:π[jj]?=some jc)
  (hy:PE X (.Name y yp) (jL jn))(hjn:π[jn]?=some n)(l1:(ap1.endLine == cpos2.line)=true)(l2:(ap2.endLine == cpos3.line)=true) :
  SE X Ex π (.Call (.Attribute (.Call (.Attribute (.Name x p) "setdefault" ap1) [.Call (.Name "tuple" tp) [.Name c cp] [] cpos1,.List [] lp] [] cpos2) "append" ap2) [.Name y yp] [] cpos3) (HH i jc n):=by
 intro g xc E σ H Hm F P Q hx R h q;obtain ⟨kvd,kc,ks,k0,d,E2,e1,ec,hkc,hks,en,ne,hf,hl,hl2,pq⟩:=h;obtain ⟨vn,Hm2,F2,hvn,s2,R2,rn⟩:=R.dD en hf;have e2:E2[i]?=some (some (.st false,.dict ((.none,.none)::kvd))):=(xQ hf ne).trans e1;obtain ⟨v,F3,hv3,R3,T3⟩:=R2.move e2 rfl;obtain ⟨vc,hvc,oc⟩:=R.slot jc _ _ ec;have rc:Rp X.K H vc (.list ks):=oc.rp hkc R.sub fun _ _=>rfl
 obtain ⟨k,rfl⟩:=kr hks;generalize hfi:F2 i=fi at T3;obtain ⟨own,toff,tdis,tnew⟩:=T3;have li:=bJ e2;have op:b9 (E2.set i none) i=true:=by
  unfold b9;rw [aM li]
 cases own with
 | @st _ a kvs _ fp ha na tis =>
 cases rc with
 | @lst ca xs _ hca rxs =>
 have exs:=sC rxs;subst exs;refine WE.of (xw PySem.F.plainAttrs_list UH UI iO (xw PySem.F.plainAttrs_dict PySem.F.slot_dict_setdefault PySem.F.type_dict_setdefault (KH (by omega)) hv (fS (mP qc hg hm PyProof.Rows.boot_tuple (fS hc iZ)) (fS (FU iZ) iZ)) rfl rfl l1 rfl rfl) (fS hy iZ) rfl rfl l2 rfl rfl) ?_
 refine ⟨_,dm hj hv3,.inr (.inr (.inl ⟨rfl,.inr ⟨_,ha⟩⟩)),_,dm hjc hvc,ca,_,rfl,.inl ⟨hca.sq,fun tp htp=>⟨S8 _,fun e he=>?_⟩⟩⟩
 have tt:=bZ (o:=.tup (k.map kV)) htp;have te:=bZ (o:=.lst []) he;have st:=tt.trans te;have etp:upd (upd H tp (.tup (k.map kV))) e (.lst []) tp=some (.tup (k.map kV)):=te _ _ aL;have ee:upd (upd H tp (.tup (k.map kV))) e (.lst []) e=some (.lst []):=aL;have ne0:H e=none:=by
  cases z:H e with
  | none=>rfl
  | some o=>rw [tt _ _ z] at he;cases he
 generalize upd (upd H tp (.tup (k.map kV))) e (.lst [])=H2 at st etp ee;have R4:=R3.grow st (aj.refl _) (R3.sub.trans st) R3.off fun _ _=>.inl rfl
 have ha2:=st _ _ ha;have lv:∀ b∈fp,H2 b=H b:=fun b hb=>by
  obtain ⟨ys,h⟩:=tis.live b hb;rw [h];exact st _ _ h
 have tis2:=tis.step (H':=H2) (aj.refl Hm2) lv;have nae:a≠e:=fun z=>by rw [z,ne0] at ha;cases ha
 have nfe:e∉fp:=fun z=>by
  obtain ⟨ys,h⟩:=tis.live e z;rw [ne0] at h;cases h
 refine ⟨a,tp,kvs,k,.ref e,rfl,rfl,ha2,etp,by rw [tis.len];exact hl,?_⟩
 rcases tis2.find k with ⟨ev,h⟩ | ⟨b,ys,ev,mb,hb,⟨kv,mk,lk⟩,h⟩
 ·rw [ev];have ee3:upd H2 a (.dT (kvs++[(k,.ref e)])) e=some (.lst []):=by rw [ao nae.symm];exact ee
  refine ⟨.inl ⟨rfl,_,bT.of ee3⟩,_,dm hjn hvn,e,[],vn,rfl,rfl,ee3,by show 0 < sizeLine;decide,?_⟩
  have A1:lP g F3 H2 Hm2 [a]:=⟨fun b hb=>by rw [RH.mp hb];exact ⟨_,ha2,rZ⟩,fun b hb=>by rw [RH.mp hb];exact toff a RA,fun b hb i=>by rw [RH.mp hb];exact tdis a RA i,fun b hb=>by rw [RH.mp hb];exact tnew a RA⟩
  have R5:=R4.xC (o:=.dT (kvs++[(k,.ref e)])) A1;have A2:lP g F3 (upd H2 a (.dT (kvs++[(k,.ref e)]))) Hm2 [e]:=⟨fun b hb=>by rw [RH.mp hb];exact ⟨_,ee3,lB⟩,fun b hb=>by rw [RH.mp hb];exact R3.lG ne0,fun b hb i=>by rw [RH.mp hb];exact R3.fresh ne0,fun b hb=>by rw [RH.mp hb];exact R3.fj ne0⟩
  have R6:=R5.xC (o:=.lst [vn]) A2;have T6:Tm X.K g F3 (upd (upd H2 a (.dT (kvs++[(k,.ref e)]))) e (.lst [vn])) Hm2 (.st false) (.ref a) (.dict ((.none,.none)::kJ kvd (.tuple (k.map bq)) d)) (a::(fp++[e])):=by
   refine ⟨.st (by rw [ao nae,aL]) (fun z=>?_) (h _ d e vn aL rn (fun b hb=>?_) nfe),fun b hb=>?_,fun b hb i=>?_,fun b hb=>?_⟩
   ·rcases RM.mp z with z | z
    ·exact na z
    ·exact nae (RH.mp z)
   ·rw [ao (fun z:b=e=>nfe (z ▸ hb)),ao fun z:b=a=>na (z ▸ hb)]
   ·rcases RJ.mp hb with rfl | hb
    ·exact toff _ RA
    ·rcases RM.mp hb with hb | hb
     ·exact toff _ (RG _ hb)
     ·rw [RH.mp hb];exact R3.lG ne0
   ·rcases RJ.mp hb with rfl | hb
    ·exact tdis _ RA i
    ·rcases RM.mp hb with hb | hb
     ·exact tdis _ (RG _ hb) i
     ·rw [RH.mp hb];exact R3.fresh ne0
   ·rcases RJ.mp hb with rfl | hb
    ·exact tnew _ RA
    ·rcases RM.mp hb with hb | hb
     ·exact tnew _ (RG _ hb)
     ·rw [RH.mp hb];exact R3.fj ne0
  have R7:=R6.put T6 op;rw [List.set_set,set_same hv3] at R7;exact q _ _ _ _ _ _ _ [] pq R7 s2 (Tm.sh .bF)
 ·rw [ev];have ly:ys.length < sizeLine:=by
   rw [lk];exact Rn (RP.mp hl2 kv mk)
  refine ⟨.inl ⟨rfl,_,bT.of hb⟩,_,dm hjn hvn,b,ys,vn,rfl,rfl,hb,ly,?_⟩;have A1:lP g F3 H2 Hm2 [b]:=⟨fun c hc=>by rw [RH.mp hc];exact ⟨_,hb,lB⟩,fun c hc=>by rw [RH.mp hc];exact toff b (RG _ mb),fun c hc i=>by rw [RH.mp hc];exact tdis b (RG _ mb) i,fun c hc=>by rw [RH.mp hc];exact tnew b (RG _ mb)⟩
  have R6:=R4.xC (o:=.lst (ys++[vn])) A1;have T6:Tm X.K g F3 (upd H2 b (.lst (ys++[vn]))) Hm2 (.st false) (.ref a) (.dict ((.none,.none)::kJ kvd (.tuple (k.map bq)) d)) (a::fp):=
   ⟨.st (by rw [ao (fun z:a=b=>na (z ▸ mb))];exact ha2) na (h _ vn d rn aL fun c _ hc=>ao hc),toff,tdis,tnew⟩
  have R7:=R6.put T6 op;rw [List.set_set,set_same hv3] at R7;exact q _ _ _ _ _ _ _ [] pq R7 s2 (Tm.sh .bF)
def Ql (j jj jn:Nat){i jc n:Nat}(hu:X.A.units + 64 < cLine)(hm:X.mg "tuple"=none)(hg:Gl X "tuple":=by rfl)(hN:X.N[j]?=some x:=by rfl)(hv:ko X.env.scope x:=by first | exact Or.inl rfl | exact Or.inr (Or.inl rfl) | exact Or.inr (Or.inr rfl))(hj:π[j]?=some i:=by rfl)
  (hNc:X.N[jj]?=some c:=by rfl)(hvc:ko X.env.scope c:=by first | exact Or.inl rfl | exact Or.inr (Or.inl rfl) | exact Or.inr (Or.inr rfl))(hjc:π[jj]?=some jc:=by rfl)(hNn:X.N[jn]?=some y:=by rfl)(hvn:ko X.env.scope y:=by first | exact Or.inl rfl | exact Or.inr (Or.inl rfl) | exact Or.inr (Or.inr rfl))(hjn:π[jn]?=some n:=by rfl)
  (l1:(ap1.endLine == cpos2.line)=true:=by rfl)(l2:(ap2.endLine == cpos3.line)=true:=by rfl)(b1:(x == ("__debug__":Str))=false:=by decide)(b2:(x == ("__classdict__":Str))=false:=by decide)(b3:(c == ("__debug__":Str))=false:=by decide)(b4:(c == ("__classdict__":Str))=false:=by decide)(b5:(y == ("__debug__":Str))=false:=by decide)(b6:(y == ("__classdict__":Str))=false:=by decide) :
  SE X Ex π (.Call (.Attribute (.Call (.Attribute (.Name x p) "setdefault" ap1) [.Call (.Name "tuple" tp) [.Name c cp] [] cpos1,.List [] lp] [] cpos2) "append" ap2) [.Name y yp] [] cpos3) (HH i jc n):=Me hu hg hm (fQ hN hv b1 b2) hj (fQ hNc hvc b3 b4) hjc (fQ hNn hvn b5 b6) hjn l1 l2
def G8 {a:Addr}(h:fF a=some (.cJ o (.dT kvs)))(r:aG K fF (kvs.map (·.2)) ds):v8 K (Nd a o) ds fF:=by
 intro i H Hm s1 s2;have q:H a=some (.cJ o (.dT kvs)):=s2 _ _ (s1 _ _ h);have hlen:=r.len;rw [RD] at hlen;refine ⟨fun d e=>?_,fun l=>⟨kvs,q,by omega⟩⟩
 obtain ⟨v,e1,r1⟩:=r.get e;rw [RN] at e1;obtain ⟨kv,e2,rfl⟩:=SQ.mp e1;refine ⟨⟨kvs,kv,q,e2⟩,fun x H' y=>?_⟩
 obtain ⟨rfl,y⟩:=y;have:=y kvs q;rw [e2] at this;cases this;exact ⟨Hm,aj.refl _,s2,aj.refl _,fun _ _=>.inl rfl,r1.mono s1⟩
def Lq {i j:Nat}(hv:PE X (.Name x p) (jL j))(hj:π[j]?=some i)(hline:(apos.endLine == cpos.line)=true):SI X Ex π tg (.Call (.Attribute (.Name x p) "values" apos) [] [] cpos) (G0 i):=by
 refine ⟨_,Kh hv rfl hline,?_⟩;intro g xc E σ H Hm F P RR hx R h q;obtain ⟨kvd,e1,pq⟩:=h;obtain ⟨v,F3,hv3,R3,T3⟩:=R.move e1 rfl;generalize hfi:F i=fi at T3;obtain ⟨own,toff,tdis,tnew⟩:=T3;cases own with
 | @st _ a kvs _ fp ha na tis =>
 refine ⟨_,dm hj hv3,a,kvs,rfl,ha,fun o=>?_⟩
 have A1:lP g F3 H Hm [a]:=⟨fun b hb=>by rw [RH.mp hb];exact ⟨_,ha,rZ⟩,fun b hb=>by rw [RH.mp hb];exact toff a RA,fun b hb i=>by rw [RH.mp hb];exact tdis a RA i,fun b hb=>by rw [RH.mp hb];exact tnew a RA⟩
 have R5:=R3.xC (o:=.cJ o (.dT kvs)) A1;have tis2:=tis.step (H':=upd H a (.cJ o (.dT kvs))) (aj.refl Hm) fun b hb=>ao fun z=>na (z ▸ hb)
 have ha5:upd H a (.cJ o (.dT kvs)) a=some (.cJ o (.dT kvs)):=aL;generalize upd H a (.cJ o (.dT kvs))=H5 at R5 tis2 ha5 ⊢;have up:=iP (Hm:=Hm) (H:=H5) toff;have R6:=R5.more up (iJ R5.sub) (fun j b hb=>by rw [cj fun z=>tdis b z j hb];exact R5.off j b hb) fun b hb=>.inl (cj fun z=>hb (tnew b z))
 exact q _ _ _ _ (lend Hm H5 (a::fp)) _ pq R6 up (G8 ((dh RA).trans ha5) (tis2.vals up fun b hb=>dh (RG _ hb)))
def My (j:Nat){i:Nat}(hN:X.N[j]?=some x:=by rfl)(hv:ko X.env.scope x:=by first | exact Or.inl rfl | exact Or.inr (Or.inl rfl) | exact Or.inr (Or.inr rfl))(hj:π[j]?=some i:=by rfl)(hline:(apos.endLine == cpos.line)=true:=by rfl)(b1:(x == ("__debug__":Str))=false:=by decide)(b2:(x == ("__classdict__":Str))=false:=by decide) :
  SI X Ex π tg (.Call (.Attribute (.Name x p) "values" apos) [] [] cpos) (G0 i):=Lq (fQ hN hv b1 b2) hj hline
end
def Rec (K:Frag) (x:Str)(st:Stmt):Prop:=∃ (f:Addr)(fd:FuncData),nsIn K mainGlobals x=some (some (.ref f))/\uu K x x st f fd
def MF {K:Frag}{x:Str}{st:Stmt}{f:Addr}{oc:Value}{od an:Ue}{osl:TN}{kV doc pm cdv ct:Value}(n:nsIn K mainGlobals x=some (some (.ref f)))(l:K.lookup f=some ⟨oc,od,.func (fnOf x x (kW st) (iN st) (ay st) .none kV doc pm an cdv ct),osl⟩)
  (c:codeIn K cdv x=true)(k:keepIn K (.ref f)=true):Rec K x st:=⟨f,_,n,Lv l c k⟩
def vU (K:Frag) (x:Str):Prop:=∃ C,nsIn K mainGlobals x=some (some (.ref C))/\f7 K C uh "ValueError.__new__" none=true
def JW {K:Frag}{x:Str}{C:Addr}(h1:nsIn K mainGlobals x=some (some (.ref C)))(h2:f7 K C uh "ValueError.__new__" none=true):vU K x:=⟨C,h1,h2⟩
def aU {P:Program}{w:World}{K:Frag}{base:Heap}{mg:UE}{k:Nat}{x:Str}{ps:Us}{sp:Sp}{st:Stmt}(N:∃ h:Heap,K.In h/\h.Ns mainGlobals mg)(r:Rec K x st)
  (b:∀ (kV doc pm:Value)(an:Ue)(cdv ct:Value)(us:Ug),us.length=ps.length->bindArgs (fnOf x x (kW st) (iN st) (ay st) .none kV doc pm an cdv ct) ⟨us,[]⟩=pure (ps.zip us))
  (ok:∀ {f:Addr}{fd:FuncData},uu K x x st f fd->gO P w K mg base (fY P w) k f fd ps sp):bU P w K mg base k x ps sp:=by
 obtain ⟨f,fd,n,F⟩:=r;obtain ⟨h,X,G⟩:=N;exact ⟨f,fd,mg_of X G n,F.kp,F.binds b,ok F⟩
end Dv
namespace PB
open PySem L2 Dv
def gZ:DS:=aC (tD [1,2] (aX 0)) (aC (aS 3 (qT sizeLine [6] (jy kQ [.pk 1]) (.nm 6) (dR) (ah f6 []))) (aC (fM (iE (aX 2)) (.tp [4,5]) (aC (dM (yG fT 3 (aX 4) 5)) (dM (yG fT 3 (aX 5) 4)))) (mX 3)))
def jK (sp_neighbour_lists:aZ):DS:=aC (aS 2 (aA sp_neighbour_lists [false] [.pk 0])) (aC (aS 3 (ah jg [.ev (ah f6 [.ev (dC .none)]),.ev (ah bN [.pk 0,.ev (dC (.int 0))])])) (aC (fH 3 (aX 1) (dC (.int 0))) (aC (aS 4 (ah f6 [.pk 1])) (aC (uQ (Gf 4) (aC (aS 5 (ah f6 [])) (aC (fM (iE (aX 4)) (.nm 6) (fM (iE (ah bN [.pk 2,.pk 6])) (.nm 7) (cE (bG (ah (cZ false) [.ev (ah bN [.pk 3,.pk 7]),.ev (dC .none)])) (aC (fH 3 (aX 7) (ah dH [.ev (ah bN [.pk 3,.pk 6]),.ev (dC (.int 1))])) (dM (uU fT 5 [aX 7]))) (cR)))) (aS 4 (aX 5))))) (mX 3)))))
def gP:DS:=cE (yu (bG (kg (fun i j=>decide (i<=j)) (fun i j=>decide (i < j)) (dC (.int 0)) (aX 1) (ah bN [.pk 0,.ev (dC (.int 0))])))) (lq "NoPlace") (cR)
def nj (sp_refuse_no_place sp_fars_or_none:aZ):DS:=aC (dM (aA sp_refuse_no_place [false,false] [.pk 0,.pk 1])) (bH (aA sp_fars_or_none [false,false] [.pk 0,.pk 1]))
def lQ:DS:=bH (ah mH [.ev (ah bN [.pk 0,.ev (ah bN [.pk 1,.ev (dC (.int 0))])]),.ev (ah bN [.pk 0,.ev (ah bN [.pk 1,.ev (dC (.int 1))])])])
def nG:DS:=aC (tD [2,3] (aX 0)) (aC (aS 4 (AI (bG (ah jv [.pk 1,.ev (dC (.str "ties"))])) (ah f6 []) (ah lA [.pk 2]))) (aC (aS 5 (AI (bG (ah jv [.pk 1,.ev (dC (.str "places"))])) (ah f6 []) (ah eX [.pk 3]))) (bH (ah dH [.pk 4,.pk 5]))))
def m7:DS:=aC (aS 2 (ah yV [.ev (dC (.int 1))])) (aC (fM (iE (aX 1)) (.nm 3) (aC (cE (yu (bG (kg (fun i j=>decide (i < j)) (fun i j=>decide (i < j)) (aX 2) (aX 3) (ah bN [.pk 0,.ev (dC (.int 0))])))) (bH (dC (.bool false))) (cR)) (aS 2 (aX 3)))) (bH (dC (.bool true))))
def fK (sp_are_looks:aZ):DS:=cE (yu (bG (aA sp_are_looks [false,false] [.pk 0,.pk 1]))) (lq "NoLooks") (cR)
def oS:DS:=aC (cE (bG (ah (AB "int") [.pk 1])) (bH (kg (fun i j=>decide (i<=j)) (fun i j=>decide (i < j)) (dC (.int 0)) (aX 1) (ah bN [.pk 0,.ev (dC (.int 0))]))) (cR)) (bH (ah (iC false) [.pk 1,.ev (ah bN [.pk 0,.ev (dC (.int 1))])]))
def gQ (sp_is_thing:aZ):DS:=cE (yu (bG (aA sp_is_thing [false,false] [.pk 0,.pk 1]))) (lq "NoThing") (cR)
def nI (sp_nearer_end:aZ):DS:=aC (cE (bG (ah (AB "int") [.pk 1])) (bH (ah bN [.pk 0,.pk 1])) (cR)) (bH (aA sp_nearer_end [false,false] [.pk 0,.pk 1]))
def pT (sp_fars_from sp_thing_far:aZ):DS:=aC (aS 3 (br [4] (iE (aX 1)) (.nm 4) (dR) (bL sizeLine (aA sp_fars_from [false,false] [.pk 0,.pk 4])))) (bH (br [4] (iE (aX 2)) (.nm 4) (dR) (bL sizeLine (br [5] (iE (aX 3)) (.nm 5) (dR) (bL sizeLine (aA sp_thing_far [false,false] [.pk 5,.pk 4]))))))
def lD (sp_thing_far:aZ):DS:=bH (br [3,4] (wk (aX 0)) (.tp [3,4]) (bG (ah iY [.ev (aA sp_thing_far [false,false] [.pk 4,.pk 1]),.ev (aA sp_thing_far [false,false] [.pk 4,.pk 2])])) (bL sizeLine (aX 3)))
def oW (sp_fars_from:aZ):DS:=bH (br [1] (jy kQ [.ev (ah bN [.pk 0,.ev (dC (.int 0))])]) (.nm 1) (dR) (bL sizeLine (aA sp_fars_from [false,false] [.pk 0,.pk 1])))
def l8 (sp_refuse_no_thing sp_parters_by sp_far_rows:aZ):DS:=aC (dM (aA sp_refuse_no_thing [false,false] [.pk 0,.pk 1])) (aC (dM (aA sp_refuse_no_thing [false,false] [.pk 0,.pk 2])) (bH (aA sp_parters_by [false,false,false] [.ev (aA sp_far_rows [false] [.pk 0]),.pk 1,.pk 2])))
def pM (sp_refuse_wrong_looks sp_things_of sp_codes_of:aZ):DS:=aC (dM (aA sp_refuse_wrong_looks [false,false] [.pk 0,.pk 1])) (aC (aS 3 (aA sp_things_of [false,false] [.pk 0,.pk 2])) (aC (aS 4 (Cv)) (aC (fM (xT (aX 3) (aA sp_codes_of [false,false,false] [.pk 0,.pk 1,.pk 3])) (.tp [5,6]) (dM (HH 4 6 5))) (bH (br [7] (G0 4) (.nm 7) (bG (ah nK [.ev (ah cU [.pk 7]),.ev (dC (.int 1))])) (bL sizeLine (aX 7)))))))
def pS (sp_likes_by:aZ):DS:=bH (pe (aA sp_likes_by [false,false,false] [.pk 0,.pk 1,.pk 2]))
def qj:DS:=aC (tD [1,2] (aX 0)) (bH (ah jv [.ev (ah cU [.pk 2]),.ev (ah nJ [.pk 1,.ev (dC (.int 1))])]))
def iK (sp_is_tree:aZ):DS:=cE (yu (bG (aA sp_is_tree [false] [.pk 0]))) (lq "NoTree") (cR)
def jG:DS:=aC (aS 3 (ah f6 [])) (aC (aS 4 (ah f6 [.ev (ah gz [.pk 1,.pk 2])])) (aC (uQ (Gf 4) (aC (tD [5,6] (uU vo 4 [])) (aC (dM (uU fT 3 [aX 6])) (yt sizeLine 4 (br [7] (iE (ah bN [.pk 0,.pk 6])) (.nm 7) (bG (ah iY [.pk 7,.pk 5])) (bL sizeLine (ah gz [.pk 6,.pk 7]))))))) (bH (ah qu [.pk 3]))))
def m6 (sp_refuse_no_tree sp_refuse_no_place sp_neighbour_lists sp_piece_behind:aZ):DS:=aC (dM (aA sp_refuse_no_tree [false] [.pk 0])) (aC (dM (aA sp_refuse_no_place [false,false] [.pk 0,.pk 1])) (aC (aS 2 (aA sp_neighbour_lists [false] [.pk 0])) (bH (br [3] (iE (ah bN [.pk 2,.pk 1])) (.nm 3) (dR) (bL sizeLine (aA sp_piece_behind [false,false,false] [.pk 2,.pk 1,.pk 3]))))))
def gR (sp_pieces_at:aZ):DS:=bH (ah qu [.ev (br [3] (iE (aA sp_pieces_at [false,false] [.pk 0,.pk 2])) (.nm 3) (dR) (bL sizeLine (ah cU [.ev (br [4] (iE (aX 1)) (.nm 4) (bG (ah (iC false) [.pk 4,.pk 3])) (bL sizeLine (aX 4)))])))])
def jb (sp_refuse_no_tree sp_refuse_wrong_looks sp_things_of sp_looks_in_pieces:aZ):DS:=aC (dM (aA sp_refuse_no_tree [false] [.pk 0])) (aC (dM (aA sp_refuse_wrong_looks [false,false] [.pk 0,.pk 1])) (aC (cE (bG (ah yJ [.ev (ah cU [.ev (aA sp_things_of [false,false] [.pk 0,.pk 2])]),.ev (dC (.int 2))])) (bH (dC .none)) (cR)) (aC (aS 3 (br [4] (jy kQ [.ev (ah bN [.pk 0,.ev (dC (.int 0))])]) (.nm 4) (dR) (bL sizeLine (aA sp_looks_in_pieces [false,false,false] [.pk 0,.pk 1,.pk 4])))) (aC (cE (bG (ah jv [.pk 2,.ev (dC (.str "all"))])) (bH (ah ug [.ev (br [4] (iE (aX 3)) (.nm 4) (dR) (bL sizeLine (ah bN [.pk 4,.ev (dC (.int 0))])))])) (cR)) (bH (ah ud [.ev (br [4] (iE (aX 3)) (.nm 4) (bG (ah nK [.ev (ah cU [.pk 4]),.ev (dC (.int 1))])) (bL sizeLine (ah dH [.ev (ah bN [.pk 4,.ev (dC (.int 0))]),.ev (ah bN [.pk 4,.ev (dC (.int 1))])]))),.ev (ah cU [.pk 1])]))))))
def jQ:DS:=bH (ah cU [.ev (br [2,3] (xT (aX 0) (aX 1)) (.tp [2,3]) (bG (ah iY [.pk 2,.pk 3])) (bL sizeLine (aX 2)))])
def kD (sp_refuse_wrong_looks sp_codes_of sp_things_of sp_unlike_count:aZ):DS:=aC (dM (aA sp_refuse_wrong_looks [false,false] [.pk 0,.pk 1])) (aC (aS 3 (aA sp_codes_of [false,false,false] [.pk 0,.pk 1,.ev (aA sp_things_of [false,false] [.pk 0,.pk 2])])) (aC (aS 4 (br [5,6,7] (wk (aX 3)) (.tp [5,6]) (dR) (FL (iE (ah (lT true false) [.pk 3,.ev (ah dH [.pk 5,.ev (dC (.int 1))])])) (.nm 7) (dR) (bL sizeLine (aA sp_unlike_count [false,false] [.pk 6,.pk 7]))))) (bH (ah ud [.pk 4,.ev (dC .none)]))))
def jm (sp_strength_of sp_things_of:aZ):DS:=bH (aA sp_strength_of [false,false,false] [.pk 0,.ev (aA sp_things_of [false,false] [.pk 0,.ev (dC (.str "places"))]),.pk 1])
def kF:DS:=bH (ah cU [.ev (br [2,3] (xT (aX 0) (aX 1)) (.tp [2,3]) (bG (kE (ah (cZ true) [.pk 3,.ev (dC .none)]) (ah iY [.pk 3,.pk 2]))) (bL sizeLine (aX 2)))])
def iy (sp_refuse_wrong_looks sp_things_of sp_codes_of sp_wrong_count:aZ):DS:=aC (dM (aA sp_refuse_wrong_looks [false,false] [.pk 0,.pk 1])) (aC (cE (bG (ah iY [.ev (ah cU [.pk 3]),.ev (ah cU [.pk 1])])) (lq "NotHeard") (cR)) (aC (aS 5 (aA sp_things_of [false,false] [.pk 0,.pk 2])) (aC (aS 6 (aA sp_codes_of [false,false,false] [.pk 0,.pk 1,.pk 5])) (bH (br [7,8] (xT (aX 5) (aX 6)) (.tp [7,8]) (bG (ah Ax [.ev (aA sp_wrong_count [false,false] [.pk 8,.pk 3]),.pk 4])) (bL sizeLine (aX 7)))))))
end PB
namespace Dv
open PySem L2
def wH (xs:Ub)(tg:Tg)(b:DS)(D:jt)(E1:En):Prop:=∃ I:Nat->En->Prop,I 0 E1/\(∀ i d E,xs[i]?=some d->I i E->∃ E2,cM tg d E=some E2/\b { D with nx:=I (i + 1) } E2)/\∀ E,I xs.length E->D.nx E
def rY (cs:Uq)(xs:Ub)(tg:Tg)(c:DT)(r:DC)(E1:En)(Q:Ut):Prop:=∃ (E0:En)(I:Nat->Ub->En->Prop),bD cs E1=some E0/\I 0 [] E0/\(∀ i d ys E,xs[i]?=some d->I i ys E->∃ E2,cM tg d E=some E2/\c xF E2 fun E3 b=>if b=true then r xF ys E3 (I (i + 1)) else I (i + 1) ys E3)/\∀ ys E,I xs.length ys E->∃ E2,bD cs E=some E2/\Q E2 (.ow false) (.list ys)
def NS (most:Nat)(cs:Uq)(xs:Ub)(tg:Tg)(c:DT)(e:DE)(E1:En)(Q:Ut):Prop:=∃ (E0:En)(I:Nat->Ub->En->Prop),bD cs E1=some E0/\I 0 [] E0/\(∀ i d ys E,xs[i]?=some d->I i ys E->∃ E2,cM tg d E=some E2/\c xF E2 fun E3 b=>if b=true then e xF E3 (fun E4 k v=>(∃ p,k=.ow p)/\ys.length < most/\I (i + 1) (ys++[v]) E4) else I (i + 1) ys E3)/\∀ ys E,I xs.length ys E->∃ E2,bD cs E=some E2/\Q E2 (.dp false) (.list ys)
def LI (xs:Ub)(tg:Tg)(c:DT)(r:DC)(x:XC)(ys:Ub)(E1:En)(Q:Ub->En->Prop):Prop:=∃ I:Nat->Ub->En->Prop,I 0 ys E1/\(∀ i d ys E,xs[i]?=some d->I i ys E->∃ E2,cM tg d E=some E2/\c x E2 fun E3 b=>if b=true then r x ys E3 (I (i + 1)) else I (i + 1) ys E3)/\∀ ys E,I xs.length ys E->Q ys E
theorem dyr0:∀ {it:DI}{tg:Tg}{b:DS}{D:jt}{o:Uv}{E:En},fM it tg b D (o::E)=it D.xc (o::E) fun E1 xs=>wH xs tg b D E1:=rfl
theorem dyr1:∀ {cs:Uq}{it:DI}{tg:Tg}{c:DT}{r:DC}{x:XC}{o:Uv}{E:En}{Q:Ut},br cs it tg c r x (o::E) Q=it x (o::E) fun E1 xs=>rY cs xs tg c r E1 Q:=rfl
theorem dyr2:∀ {most:Nat}{cs:Uq}{it:DI}{tg:Tg}{c:DT}{e:DE}{x:XC}{o:Uv}{E:En}{Q:Ut},qT most cs it tg c e x (o::E) Q=it x (o::E) fun E1 xs=>NS most cs xs tg c e E1 Q:=rfl
theorem dyr3:∀ {it:DI}{tg:Tg}{c:DT}{r:DC}{x:XC}{ys:Ub}{o:Uv}{E:En}{Q:Ub->En->Prop},FL it tg c r x ys (o::E) Q=it x (o::E) fun E1 xs=>LI xs tg c r x ys E1 Q:=rfl
def dy :
 (∀ {it:DI}{tg:Tg}{b:DS}{D:jt}{o:Uv}{E:En},fM it tg b D (o::E)=it D.xc (o::E) fun E1 xs=>wH xs tg b D E1) /\
 (∀ {cs:Uq}{it:DI}{tg:Tg}{c:DT}{r:DC}{x:XC}{o:Uv}{E:En}{Q:Ut},br cs it tg c r x (o::E) Q=it x (o::E) fun E1 xs=>rY cs xs tg c r E1 Q) /\
 (∀ {most:Nat}{cs:Uq}{it:DI}{tg:Tg}{c:DT}{e:DE}{x:XC}{o:Uv}{E:En}{Q:Ut},qT most cs it tg c e x (o::E) Q=it x (o::E) fun E1 xs=>NS most cs xs tg c e E1 Q) /\
 (∀ {it:DI}{tg:Tg}{c:DT}{r:DC}{x:XC}{ys:Ub}{o:Uv}{E:En}{Q:Ub->En->Prop},FL it tg c r x ys (o::E) Q=it x (o::E) fun E1 xs=>LI xs tg c r x ys E1 Q):=⟨rfl,rfl,rfl,rfl⟩
def J0 {a b:DS}{D:jt}{E:En}(h:aC a b D E):qR a b D E:=⟨b D,h,fun _ z=>z⟩
theorem vj {i:Nat}{z:Uv}:∀ {cs:Uq}{E E0:En},i∉cs->bD cs (E.set i none)=some E0->bD cs (E.set i z)=some (E0.set i z)
 | [],E,E0,_,h=>by
  have h:E.set i none=E0:=Option.some.inj h;show some _=some _;rw [<- h,List.set_set]
 | c::cs,E,E0,n,h=>by
  have nc:i≠c:=fun e=>n (e ▸ RA)
  have ns:i∉cs:=fun m=>n (RG _ m)
  have ho:∀ y:Uv,b9 (E.set i y) c=b9 E c:=fun y=>by
   unfold b9;rw [UP nc]
  unfold bD at h ⊢;rw [ho] at h ⊢;split at h
  ·rename_i hc;rw [if_pos hc];rw [List.set_comm _ _ nc] at h ⊢;exact vj ns h
  ·cases h
theorem zQ:∀ {cs:Uq}{ds:Ub}{E E' E0:En},cs.Nodup->bD cs E=some E0->bD cs E'=some E0->b7 cs ds E=b7 cs ds E'
 | [],ds,E,E',E0,_,h,h'=>by
  have h:E=E0:=Option.some.inj h;have h':E'=E0:=Option.some.inj h';rw [h,h']
 | c::cs,[],E,E',E0,_,h,h'=>rfl
 | c::cs,d::ds,E,E',E0,nd,h,h'=>by
  have n1:=(S7.mp nd).1;unfold bD at h h';unfold b7;split at h
  ·rename_i hc;split at h'
   ·rename_i hc';rw [if_pos hc,if_pos hc'];exact zQ (S7.mp nd).2 (vj n1 h) (vj n1 h')
   ·cases h'
  ·cases h
def Am {cs:Uq}{ds:Ub}{E E' E0:En}(nd:kC cs=true)(h:bD cs E=some E0)(h':bD cs E'=some E0):b7 cs ds E=b7 cs ds E':=zQ (gF nd) h h'
def sP {tg:Tg}{cs:Uq}{d:PyData}{E E' E0:En}(hs:tg.slots=cs)(nd:kC cs=true)(h:bD cs E=some E0)(h':bD cs E'=some E0):cM tg d E=cM tg d E':=by
 subst hs;cases tg with
 | nm i=>exact Am nd h h'
 | tp is =>
  cases d with
  | tuple ds=>exact Am nd h h'
  | _=>rfl
theorem kU:∀ {cs:Uq}{E E0:En},cs.Nodup->bD cs E=some E0->bD cs E0=some E0/\∀ c∈cs,E0[c]?=some none
 | [],E,E0,_,h=>⟨rfl,fun _ z=>by cases z⟩
 | c::cs,E,E0,nd,h=>by
  have n1:=(S7.mp nd).1;have n2:=(S7.mp nd).2;unfold bD at h;split at h
  ·rename_i hc;obtain ⟨h1,h2⟩:=kU n2 h;have hlen:c < E.length:=by
    unfold b9 at hc;rcases SG c E.length with z | z
    ·exact z
    ·rw [S4 z] at hc;cases hc
   have hcl:∀ {cs:Uq}{E E0:En},c∉cs->bD cs E=some E0->E0[c]?=E[c]?:=by
    intro cs
    induction cs with
    | nil=>intro E E0 _ h;cases h;rfl
    | cons a cs ih =>
     intro E E0 n h;unfold bD at h;split at h
     ·rw [ih (fun m=>n (RG _ m)) h,UP (fun e=>n (by rw [e];exact RA))]
     ·cases h
   have e0:E0[c]?=some none:=by rw [hcl n1 h,UO hlen]
   refine ⟨?_,fun x hx=>?_⟩
   ·unfold bD;rw [if_pos (by unfold b9;rw [e0])]
    have:E0.set c none=E0:=by
     refine Ss fun j=>?_
     by_cases e:c=j
     ·subst e;have:c < E0.length:=by
       rcases SG c E0.length with z | z
       ·exact z
       ·rw [S4 z] at e0;cases e0
      rw [UO this,e0]
     ·rw [UP e]
    rw [this];exact h1
   ·cases hx with
    | head=>exact e0
    | tail _ m=>exact h2 x m
  ·cases h
def aB {α:Type}{l:List α}{i:Nat}{a:α}(ha:l[i]?=some a):i < l.length:=by
 rcases SG i l.length with z | z
 ·exact z
 ·rw [S4 z] at ha;cases ha
def take_snoc {α:Type}{l:List α}{i:Nat}{a:α}(ha:l[i]?=some a):l.take (i + 1)=l.take i++[a]:=by rw [List.take_add_one,ha];rfl
def Mr {α:Type}{l:List α}{enc:α->PyData}{cs:Uq}{tg:Tg}{e:DE}{most:Nat}{E1 E0:En}{Q:Ut}(g:α->PyData)(h0:bD cs E1=some E0)(h2:∀ a,a∈l->∀ I:En->PyData->Prop,(∀ E4,bD cs E4=some E0->I E4 (g a))->∃ E2,cM tg (enc a) E0=some E2/\e xF E2 (fun E4 k v=>(∃ p,k=.ow p)/\I E4 v))
  (h3:Q E0 (.dp false) (.list (l.map g)))(hl:l.length<=most)(hs:tg.slots=cs:=by rfl)(nd:kC cs=true:=by rfl):NS most cs (l.map enc) tg dR e E1 Q:=by
 obtain ⟨hc0,_⟩:=kU (gF nd) h0;refine ⟨E0,fun i ys E=>ys=(l.take i).map g/\bD cs E=some E0,h0,⟨rfl,hc0⟩,?_,?_⟩
 ·rintro i d ys E hd ⟨rfl,hE⟩;rw [RN] at hd;obtain ⟨a,ha,rfl⟩:=SQ.mp hd;have hi:=aB ha;obtain ⟨E2,hE2,hb⟩:=h2 a (Rt ha) (fun E4 v=>((l.take i).map g).length < most/\((l.take i).map g++[v]=(l.take (i + 1)).map g/\bD cs E4=some E0)) (fun E4 hE4=>by
   refine ⟨?_,?_,hE4⟩
   ·rw [RD,Sj];omega
   ·rw [take_snoc ha,Rw];rfl)
  exact ⟨E2,(sP hs nd hE hc0).trans hE2,hb⟩
 ·rintro ys E ⟨rfl,hE⟩;rw [RD,Sd];exact ⟨E0,hE,h3⟩
def oU {α:Type}{l:List α}{enc:α->PyData}{tg:Tg}{b:DS}{D:jt}{E1:En}(I:Nat->En->Prop)(h0:I 0 E1)(hs:∀ i a E,l[i]?=some a->I i E->∃ E2,cM tg (enc a) E=some E2/\b { D with nx:=I (i + 1) } E2)(he:∀ E,I l.length E->D.nx E):wH (l.map enc) tg b D E1:=by
 refine ⟨I,h0,fun i d E hd hi=>?_,by rw [RD];exact he⟩
 rw [RN] at hd;obtain ⟨a,ha,rfl⟩:=SQ.mp hd;exact hs i a E ha hi
def xu {α:Type}{l:List α}{enc:α->PyData}{cs:Uq}{tg:Tg}{c:DT}{r:DC}{E1:En}{Q:Ut}(E0:En)(I:Nat->Ub->En->Prop)(h0:bD cs E1=some E0)(h1:I 0 [] E0)(hs:∀ i a ys E,l[i]?=some a->I i ys E->∃ E2,cM tg (enc a) E=some E2/\c xF E2 fun E3 b=>if b=true then r xF ys E3 (I (i + 1)) else I (i + 1) ys E3)
  (he:∀ ys E,I l.length ys E->∃ E2,bD cs E=some E2/\Q E2 (.ow false) (.list ys)):rY cs (l.map enc) tg c r E1 Q:=by
 refine ⟨E0,I,h0,h1,fun i d ys E hd hi=>?_,by rw [RD];exact he⟩
 rw [RN] at hd;obtain ⟨a,ha,rfl⟩:=SQ.mp hd;exact hs i a ys E ha hi
def Ff {n i k:Nat}(h:(List.range n)[i]?=some k):i < n/\k=i:=by
 have hi:=aB h;rw [Rm] at hi;rw [SV hi] at h;cases h;exact ⟨hi,rfl⟩
def qH {n:Nat}{enc:Nat->PyData}{tg:Tg}{b:DS}{D:jt}{E1:En}(I:Nat->En->Prop)(h0:I 0 E1)(hs:∀ i E,i < n->I i E->∃ E2,cM tg (enc i) E=some E2/\b { D with nx:=I (i + 1) } E2)(he:∀ E,I n E->D.nx E):wH ((List.range n).map enc) tg b D E1 :=
 oU I h0 (fun i a E ha hi=>by obtain ⟨l,rfl⟩:=Ff ha;exact hs a E l hi) (by rw [Rm];exact he)
def vM {α:Type}{l:List α}{enc:α->PyData}{cs:Uq}{tg:Tg}{e:DE}{most:Nat}{E1 E0:En}{Q:Ut}(S:Uz)(g:α->PyData)(h0:bD cs E1=some E0)(hS:S E0)(h2:∀ a,a∈l->∀ E0',S E0'->∀ I:En->PyData->Prop,(∀ E4 E5,bD cs E4=some E5->S E5->I E4 (g a))->∃ E2,cM tg (enc a) E0'=some E2/\e xF E2 (fun E4 k v=>k.fz=true/\I E4 v))
  (h3:∀ E0',S E0'->Q E0' (.ow false) (.list (l.map g)))(hl:l.length<=most)(hs:tg.slots=cs:=by rfl)(nd:kC cs=true:=by rfl):rY cs (l.map enc) tg dR (bL most e) E1 Q:=by
 obtain ⟨hc0,_⟩:=kU (gF nd) h0;refine ⟨E0,fun i ys E=>ys=(l.take i).map g/\∃ E5,bD cs E=some E5/\S E5,h0,⟨rfl,E0,hc0,hS⟩,?_,?_⟩
 ·rintro i d ys E hd ⟨rfl,E5,hE,hS5⟩;rw [RN] at hd;obtain ⟨a,ha,rfl⟩:=SQ.mp hd;have hi:=aB ha;obtain ⟨hc5,_⟩:=kU (gF nd) hE;obtain ⟨E2,hE2,hb⟩:=h2 a (Rt ha) E5 hS5 (fun E4 v=>((l.take i).map g).length < most/\((l.take i).map g++[v]=(l.take (i + 1)).map g/\∃ E5,bD cs E4=some E5/\S E5)) (fun E4 E6 hE4 hS6=>by
   refine ⟨?_,?_,E6,hE4,hS6⟩
   ·rw [RD,Sj];omega
   ·rw [take_snoc ha,Rw];rfl)
  exact ⟨E2,(sP hs nd hE hc5).trans hE2,hb⟩
 ·rintro ys E ⟨rfl,E5,hE,hS5⟩;rw [RD,Sd];exact ⟨E5,hE,h3 E5 hS5⟩
def KC {α:Type}{l:List α}{enc:α->PyData}{cs:Uq}{tg:Tg}{c:DT}{e:DE}{most:Nat}{E1 E0:En}{Q:Ut}(S:Uz)(g:α->Option PyData)(h0:bD cs E1=some E0)(hS:S E0)(h2:∀ a,a∈l->∀ E0',S E0'->∀ I:En->Option PyData->Prop,(∀ E4 E5,bD cs E4=some E5->S E5->I E4 (g a))->∃ E2,cM tg (enc a) E0'=some E2/\c xF E2 fun E3 b=>if b=true then e xF E3 (fun E4 k v=>k.fz=true/\I E4 (some v)) else I E3 none)
  (h3:∀ E0',S E0'->Q E0' (.ow false) (.list (l.filterMap g)))(hl:l.length<=most)(hs:tg.slots=cs:=by rfl)(nd:kC cs=true:=by rfl):rY cs (l.map enc) tg c (bL most e) E1 Q:=by
 obtain ⟨hc0,_⟩:=kU (gF nd) h0;refine ⟨E0,fun i ys E=>ys=(l.take i).filterMap g/\∃ E5,bD cs E=some E5/\S E5,h0,⟨rfl,E0,hc0,hS⟩,?_,?_⟩
 ·rintro i d ys E hd ⟨rfl,E5,hE,hS5⟩;rw [RN] at hd;obtain ⟨a,ha,rfl⟩:=SQ.mp hd;have hi:=aB ha;obtain ⟨hc5,_⟩:=kU (gF nd) hE;have hlen:((l.take i).filterMap g).length < most:=by
   have:=List.length_filterMap_le g (l.take i);rw [Sj] at this;omega
  obtain ⟨E2,hE2,hb⟩:=h2 a (Rt ha) E5 hS5 (fun E4 o=>match o with
   | some v=>((l.take i).filterMap g).length < most/\((l.take i).filterMap g++[v]=(l.take (i + 1)).filterMap g/\∃ E5,bD cs E4=some E5/\S E5)
   | none=>(l.take i).filterMap g=(l.take (i + 1)).filterMap g/\∃ E5,bD cs E4=some E5/\S E5) (fun E4 E6 hE4 hS6=>by
   cases hg:g a with
   | none =>
    refine ⟨?_,E6,hE4,hS6⟩;rw [take_snoc ha,List.filterMap_append,Sv,hg];exact (SN _).symm
   | some v =>
    refine ⟨hlen,?_,E6,hE4,hS6⟩;rw [take_snoc ha,List.filterMap_append,Sv,hg];rfl)
  exact ⟨E2,(sP hs nd hE hc5).trans hE2,hb⟩
 ·rintro ys E ⟨rfl,E5,hE,hS5⟩;rw [RD,Sd];exact ⟨E5,hE,h3 E5 hS5⟩
def f9 {α:Type}{l:List α}{enc:α->PyData}{cs:Uq}{tg:Tg}{e:DE}{most:Nat}{E1 E0:En}{Q:Ut}(g:α->PyData)(h0:bD cs E1=some E0)(h2:∀ a,a∈l->∀ I:En->PyData->Prop,(∀ E4,bD cs E4=some E0->I E4 (g a))->∃ E2,cM tg (enc a) E0=some E2/\e xF E2 (fun E4 k v=>k.fz=true/\I E4 v))
  (h3:Q E0 (.ow false) (.list (l.map g)))(hl:l.length<=most)(hs:tg.slots=cs:=by rfl)(nd:kC cs=true:=by rfl):rY cs (l.map enc) tg dR (bL most e) E1 Q :=
 vM (·=E0) g h0 rfl (fun a ha E0' e I hI=>by subst e;exact h2 a ha I fun E4 h=>hI E4 _ h rfl) (fun E0' e=>by subst e;exact h3) hl hs nd
def g9 {α:Type}{l:List α}{enc:α->PyData}{cs:Uq}{tg:Tg}{c:DT}{e:DE}{most:Nat}{E1 E0:En}{Q:Ut}(g:α->Option PyData)(h0:bD cs E1=some E0)(h2:∀ a,a∈l->∀ I:En->Option PyData->Prop,(∀ E4,bD cs E4=some E0->I E4 (g a))->∃ E2,cM tg (enc a) E0=some E2/\c xF E2 fun E3 b=>if b=true then e xF E3 (fun E4 k v=>k.fz=true/\I E4 (some v)) else I E3 none)
  (h3:Q E0 (.ow false) (.list (l.filterMap g)))(hl:l.length<=most)(hs:tg.slots=cs:=by rfl)(nd:kC cs=true:=by rfl):rY cs (l.map enc) tg c (bL most e) E1 Q :=
 KC (·=E0) g h0 rfl (fun a ha E0' e I hI=>by subst e;exact h2 a ha I fun E4 h=>hI E4 _ h rfl) (fun E0' e=>by subst e;exact h3) hl hs nd
def JM {α:Type}{l:List α}{enc:α->PyData}{cs:Uq}{tg:Tg}{c:DT}{r:DC}{most:Nat}{E1 E0:En}{Q:Ut}(S:Uz)(g:α->Ub)(h0:bD cs E1=some E0)(hS:S E0)(h2:∀ a,a∈l->∀ E,S E->∀ (ys:Ub)(I:Ub->En->Prop),ys.length + (g a).length<=most->(∀ E4,S E4->I (ys++g a) E4)->∃ E2,cM tg (enc a) E=some E2/\c xF E2 fun E3 b=>if b=true then r xF ys E3 I else I ys E3)
  (h3:∀ E,S E->∃ E2,bD cs E=some E2/\Q E2 (.ow false) (.list (l.flatMap g)))(hl:(l.flatMap g).length<=most):rY cs (l.map enc) tg c r E1 Q:=by
 refine xu E0 (fun i ys E=>ys=(l.take i).flatMap g/\S E) h0 ⟨rfl,hS⟩ ?_ ?_
 ·rintro i a ys E ha ⟨rfl,hE⟩;refine h2 a (Rt ha) E hE _ _ ?_ fun E4 hE4=>⟨?_,hE4⟩
  ·have e:l.flatMap g=(l.take i).flatMap g++(l.drop i).flatMap g:=by rw [<- List.flatMap_append,List.take_append_drop]
   have hd:l.drop i=a::l.drop (i + 1):=by
    rw [List.drop_eq_getElem_cons (aB ha)];rw [RS (aB ha)] at ha;rw [Option.some.inj ha]
   rw [e,hd,List.flatMap_cons,RW,RW] at hl;omega
  ·rw [take_snoc ha,List.flatMap_append,List.flatMap_cons,List.flatMap_nil,SN]
 ·rintro ys E ⟨rfl,hE⟩;rw [Sd];exact h3 E hE
def L0 {α:Type}{l:List α}{enc:α->PyData}{tg:Tg}{e:DE}{most:Nat}{x:XC}{ys:Ub}{E1:En}{Q:Ub->En->Prop}(S:Uz)(g:α->PyData)(hS:S E1)(h2:∀ a,a∈l->∀ E,S E->∀ I:En->PyData->Prop,(∀ E4,S E4->I E4 (g a))->∃ E2,cM tg (enc a) E=some E2/\e x E2 (fun E4 k v=>k.fz=true/\I E4 v))
  (h3:∀ E,S E->Q (ys++l.map g) E)(hl:ys.length + l.length<=most):LI (l.map enc) tg dR (bL most e) x ys E1 Q:=by
 refine ⟨fun i zs E=>zs=ys++(l.take i).map g/\S E,⟨by simp,hS⟩,?_,?_⟩
 ·rintro i d zs E hd ⟨rfl,hE⟩;rw [RN] at hd;obtain ⟨a,ha,rfl⟩:=SQ.mp hd;have hi:=aB ha;obtain ⟨E2,hE2,hb⟩:=h2 a (Rt ha) E hE (fun E4 v=>(ys++(l.take i).map g).length < most/\(ys++(l.take i).map g++[v]=ys++(l.take (i + 1)).map g/\S E4)) (fun E4 hE4=>by
   refine ⟨?_,?_,hE4⟩
   ·rw [RW,RD,Sj];omega
   ·rw [take_snoc ha,Rw,S0];rfl)
  exact ⟨E2,hE2,hb⟩
 ·rintro zs E ⟨rfl,hE⟩;rw [RD,Sd];exact h3 E hE
abbrev iD (n:Nat):PyData:=.int (n:Int)
abbrev nD (l:Uq):PyData:=.list (l.map iD)
abbrev cV (e:Nat×Nat):PyData:=.tuple [iD e.1,iD e.2]
abbrev wD (m:Nat)(es:UQ):PyData:=.tuple [iD m,.tuple (es.map cV)]
def Nk {n:Nat}:kR 0 n=(List.range n).map iD:=by
 unfold kR;refine Sm fun i _=>?_
 rw [Int.zero_add]
def NK {n:Nat}:kR 1 n=(List.range n).map fun i=>iD (i + 1):=by
 unfold kR;refine Sm fun i _=>?_
 show PyData.int _=PyData.int _;congr 1;omega
def Du {xs:Ub}{i:Nat}:fc xs (i:Int)=xs[i]?:=by
 unfold fc p7;rw [if_pos (by omega)]
 split
 ·exact rfl
 ·rw [S4 (by omega)];rfl
def ER {n i:Nat}(h:i < n):lU n (i:Int)=some i:=by
 unfold lU;rw [if_pos (by omega),if_pos (by omega)]
 rfl
def vQ {n i:Nat}{Q:Nat->Prop}(h:i < n)(q:Q i):aO (lU n (i:Int)) Q:=by rw [ER h];exact q
def tX {α β:Type}{o:Option α}{f:α->β}{Q:β->Prop}:aO (o.map f) Q=aO o fun a=>Q (f a):=by cases o <;> rfl
def qA {α:Type}{l:List α}{f:α->PyData}{i:Nat}{Q:PyData->Prop}:aO (fc (l.map f) (i:Int)) Q=aO l[i]? fun a=>Q (f a):=by rw [Du,RN,tX]
def Ei {α:Type}{l:List α}{f:α->PyData}{a:Nat}:cutD (l.map f) (some (a:Int)) none=(l.drop a).map f:=by
 unfold cutD;have e1:HT.aW (l.map f).length 0 (some (a:Int))=min a (l.map f).length:=HT.rA _ _ a;have e2:HT.aW (l.map f).length (l.map f).length none=(l.map f).length:=rfl;rw [e1,e2,RD,<- List.map_drop,<- List.map_take];congr 1;rw [UD (by rw [Sy];omega)]
 rcases Nat.le_total a l.length with h | h
 ·rw [TY h]
 ·rw [U0 h,List.drop_length,List.drop_of_length_le h]
def zU {α:Type}{l:List α}{f:α->PyData}{b:Nat}:cutD (l.map f) none (some (b:Int))=(l.take b).map f:=by
 unfold cutD;have e1:HT.aW (l.map f).length (l.map f).length (some (b:Int))=min b (l.map f).length:=HT.rA _ _ b;have e2:HT.aW (l.map f).length 0 none=0:=rfl;rw [e1,e2,RD,List.drop_zero,Nat.sub_zero,<- List.map_take];congr 1;rcases Nat.le_total b l.length with h | h
 ·rw [TY h]
 ·rw [U0 h,Sd,UD h]
def yr {α:Type}{l:List α}{f:α->PyData}{a b:Nat}:cutD (l.map f) (some (a:Int)) (some (b:Int))=((l.take b).drop a).map f:=by
 unfold cutD;have e1:HT.aW (l.map f).length 0 (some (a:Int))=min a (l.map f).length:=HT.rA _ _ a;have e2:HT.aW (l.map f).length (l.map f).length (some (b:Int))=min b (l.map f).length:=HT.rA _ _ b;rw [e1,e2,RD,<- List.map_drop,<- List.map_take];congr 1;rw [List.drop_take];rcases Nat.le_total a l.length with h | h
 ·rw [TY h];rcases Nat.le_total b l.length with g | g
  ·rw [TY g]
  ·rw [U0 g,UD (by rw [Sy];omega),UD (by rw [Sy];omega)]
 ·rw [U0 h,List.drop_length,List.drop_of_length_le h,List.take_nil,List.take_nil]
def sJ {α:Type}{l:List α}{f:α->PyData}:j4 (l.map f)=l.zipIdx.map fun p=>.tuple [iD p.2,f p.1]:=by
 unfold j4;rw [List.zipIdx_map,RT];rfl
theorem zip_map {α β:Type}{l:List α}{m:List β}{f:α->PyData}{g:β->PyData}:((l.map f).zip (m.map g)).map (fun p=>PyData.tuple [p.1,p.2])=(l.zip m).map fun p=>.tuple [f p.1,g p.2]:=by
 rw [List.zip_map,RT];rfl
def Bd {α:Type}{l:List α}{f:α->PyData}{Q:PyData->Prop}:aO (fc (l.map f) 0) Q=aO l[0]? fun a=>Q (f a):=qA (i:=0)
def AU {α:Type}{l:List α}{f:α->PyData}{Q:PyData->Prop}:aO (fc (l.map f) 1) Q=aO l[1]? fun a=>Q (f a):=qA (i:=1)
def c7 {α:Type}{o:Option α}{a:α}{Q:α->Prop}(h:o=some a)(q:Q a):aO o Q:=by rw [h];exact q
def zL {a b:Nat}:(a:Int) % (b:Int)=((a % b:Nat):Int):=(Int.natCast_emod a b).symm
def yf {a b:Nat}:(a:Int) / (b:Int)=((a / b:Nat):Int):=(Int.natCast_ediv a b).symm
def Az {a b:Nat}:((a:Int) < (b:Int))=(a < b):=propext Int.ofNat_lt
def AM {a b:Nat}:((a:Int)<=(b:Int))=(a<=b):=propext Int.ofNat_le
def cast_eq {a b:Nat}:((a:Int)=(b:Int))=(a=b):=propext Int.ofNat_inj
def cast_pos {a:Nat}:((0:Int) < (a:Int))=(0 < a):=propext Int.natCast_pos
def HY {a b:Nat}:(if b < a then (b:Int) else (a:Int))=((min a b:Nat):Int):=by split <;> omega
def Jk {a b:Nat}:(if a < b then (b:Int) else (a:Int))=((max a b:Nat):Int):=by split <;> omega
def IT {a b:Nat}:(if b > a then (b:Int) else (a:Int))=((max a b:Nat):Int):=by split <;> omega
def tT {ds:Ub}:lf (.tuple ds)=ds.all lf:=u5 ds
def A4 {p:Bool}{ds:Ub}:flat (.ow p) (.list ds)=ds.all lf:=rfl
def tQ {α β:Type}{l:List α}{f:α->β}{p:β->Bool}:(l.map f).all p=l.all fun a=>p (f a):=by rw [List.all_map];rfl
def EI {α:Type}{l:List α}:(l.all fun _=>true)=true:=by rw [RP];exact fun _ _=>rfl
def B9 {n:Nat}:lf (iD n)=true:=rfl
def yi {e:Nat×Nat}:lf (cV e)=true:=rfl
def Ib {m:Nat}{es:UQ}:lf (wD m es)=true:=by
 rw [tT];show (lf (iD m) && (lf (.tuple (es.map cV)) && true))=true;rw [tT,tQ];simp [B9,yi]
def Pw:type_of% @tT/\type_of% @A4/\type_of% @tQ/\type_of% @EI/\type_of% @B9/\type_of% @yi/\type_of% @Ib/\(decide True=true)/\(∀ {ds:Ub},lf (.list ds)=false)/\(∀ {α:Type}{l m:List α}{p:α->Bool},(l++m).all p=(l.all p && m.all p)):=⟨@tT,@A4,@tQ,@EI,@B9,@yi,@Ib,rfl,rfl,(by intros;exact List.all_append)⟩
def dz:(type_of% Pw)/\type_of% @Nk/\type_of% @NK/\type_of% @qA/\type_of% @Bd/\type_of% @AU/\type_of% @tX/\type_of% @Ei/\type_of% @zU/\type_of% @yr/\type_of% @sJ/\type_of% @zip_map/\type_of% @zL/\type_of% @yf/\type_of% @Az/\type_of% @AM/\type_of% @cast_eq/\type_of% @cast_pos/\type_of% @bS/\type_of% @HY/\type_of% @Jk/\type_of% @IT /\
 (∀ {α β:Type}{f:α->β}{l:List α},(l.map f).length=l.length)/\(∀ {n:Nat},(List.range n).length=n)/\(∀ {n:Nat},(n:Int).toNat=n) :=
 ⟨Pw,@Nk,@NK,@qA,@Bd,@AU,@tX,@Ei,@zU,@yr,@sJ,@zip_map,@zL,@yf,@Az,@AM,@cast_eq,@cast_pos,@bS,@HY,@Jk,@IT,(by intros;exact RD ..),(by intros;exact Rm),(by intros;exact Tj _)⟩
def jW {α β:Type}(f:α->β){l:List α}:∀ {m:List β},m.Perm (l.map f)->∃ l':List α,l'.Perm l/\m=l'.map f:=by
 have:∀ {a b:List β},a.Perm b->∀ l:List α,b=l.map f->∃ l':List α,l'.Perm l/\a=l'.map f:=by
  intro a b h
  induction h with
  | nil=>intro l e;exact ⟨l,.refl _,e⟩
  | cons x _ ih =>
   intro l e;cases l with
   | nil=>cases e
   | cons y l =>
    rw [RZ,TX] at e;obtain ⟨l',p,e'⟩:=ih l e.2;exact ⟨y::l',p.cons _,by rw [e.1,e',RZ]⟩
  | swap x y z =>
   intro l e
   match l,e with
   | [],e=>cases e
   | [_],e=>rw [RZ,TX] at e;cases e.2
   | u::v::l,e =>
    rw [RZ,RZ,TX,TX] at e;exact ⟨v::u::l,List.Perm.swap _ _ _,by rw [RZ,RZ,e.1,e.2.1,e.2.2]⟩
  | trans _ _ ih1 ih2 =>
   intro l e;obtain ⟨l1,p1,e1⟩:=ih2 l e;obtain ⟨l2,p2,e2⟩:=ih1 l1 e1;exact ⟨l2,p2.trans p1,e2⟩
 intro m h;exact this h l rfl
def AX {ns:Uq}{P:Ux}(h:ns.length < 64)(q:∀ ms:Uq,ms.Perm ns->ms.Pairwise (·<=·)->P (.ow false) (nD ms)):qu [nD ns] P:=by
 refine ⟨ns.map (fun n:Nat=>(n:Int)),by rw [RT];rfl,by rw [RD];exact h,fun ms p s=>?_⟩
 obtain ⟨l,hl,rfl⟩:=jW _ p;rw [List.pairwise_map] at s;have:=q l hl (List.Pairwise.imp (S:=(·<=·)) (fun {a b} h=>by omega) s)
 rw [RT];exact this
def Ko {ps:UQ}{P:Ux}(h:ps.length<=1000)(q:∀ qs:UQ,qs.Perm ps->P (.ow false) (.list (qs.map cV))):tU [.list (ps.map cV)] P:=by
 refine ⟨ps.map (fun e:Nat×Nat=>((e.1:Int),(e.2:Int))),by rw [RT];rfl,by rw [RD];exact h,fun ms p=>?_⟩
 obtain ⟨l,hl,rfl⟩:=jW _ p;have:=q l hl;rw [RT];exact this
def BC {ns:Uq}{P:Ux}(h:ns≠[])(q:∀ m:Nat,m∈ns->(∀ n∈ns,m<=n)->P .sh (iD m)):ug [nD ns] P:=by
 refine ⟨ns.map (fun n:Nat=>(n:Int)),by rw [RT];rfl,fun e=>h (Ui.mp e),fun M hM le=>?_⟩
 obtain ⟨m,hm,rfl⟩:=RI.mp hM;exact q m hm fun n hn=>by have:=le _ (RI.mpr ⟨n,hn,rfl⟩);omega
def AH {ns:Uq}{d:PyData}{P:Ux}(h:ns=[]->P .sh d)(q:∀ m:Nat,m∈ns->(∀ n∈ns,m<=n)->P .sh (iD m)):ud [nD ns,d] P:=by
 refine ⟨ns.map (fun n:Nat=>(n:Int)),d,by rw [RT];rfl,fun e=>h (Ui.mp e),fun M hM le=>?_⟩
 obtain ⟨m,hm,rfl⟩:=RI.mp hM;exact q m hm fun n hn=>by have:=le _ (RI.mpr ⟨n,hn,rfl⟩);omega
def zG {bs:Uk}{P:Ux}(q:P .sh (.bool (bs.all id))):vh [.list (bs.map .bool)] P:=⟨bs,rfl,q⟩
def uG {a b:Nat}:iD a=iD b↔a=b:=⟨fun h=>by cases h;rfl,fun h=>by rw [h]⟩
def Kv {a b:Nat×Nat}:cV a=cV b↔a=b:=by
 refine ⟨fun h=>?_,fun h=>by rw [h]⟩
 rw [PyData.tuple.injEq,TX,TX,PyData.int.injEq,PyData.int.injEq] at h;exact Prod.ext (by have:=h.1;omega) (by have:=h.2.1;omega)
end Dv
namespace Gr
inductive R (E:Nat->Nat->Prop) (p:Nat):Nat->Nat->Prop
 | zero:R E p 0 p
 | step {d x y:Nat}:R E p d x->E x y->R E p (d + 1) y
def n9 (E:Nat->Nat->Prop) (p x d:Nat):Prop:=R E p d x/\∀ e,e < d->¬ R E p e x
section
variable {E:Nat->Nat->Prop}{p:Nat}
def n9.eq {x d e:Nat}(h:n9 E p x d)(g:n9 E p x e):d=e:=by
 rcases UK d e with l | l | l
 ·exact absurd h.1 (g.2 d l)
 ·exact l
 ·exact absurd g.1 (h.2 e l)
theorem Fc:∀ (n:Nat){x d:Nat},d<=n->R E p d x->∃ e,e<=d/\n9 E p x e
 | 0,x,d,l,h=>by
  obtain rfl:d=0:=by omega
  exact ⟨0,RE _,h,fun e he=>absurd he (Nat.not_lt_zero e)⟩
 | n + 1,x,d,l,h=>by
  by_cases c:∃ e,e < d/\R E p e x
  ·obtain ⟨e,he,hr⟩:=c;obtain ⟨e',h1,h2⟩:=Fc n (show e<=n by omega) hr
   exact ⟨e',by omega,h2⟩
  ·exact ⟨d,RE _,h,fun e he hr=>c ⟨e,he,hr⟩⟩
open Classical in
def dst (E:Nat->Nat->Prop) (p x:Nat):Nat:=if h:∃ d,n9 E p x d then Classical.choose h else 0
def uC {x d:Nat}(h:n9 E p x d):dst E p x=d:=by
 have h':∃ d,n9 E p x d:=⟨d,h⟩;unfold dst;rw [dif_pos h'];exact (Classical.choose_spec h').eq h
def Nj {x d:Nat}(h:R E p d x):n9 E p x (dst E p x):=by
 obtain ⟨e,_,g⟩:=Fc d (RE _) h;rw [uC g];exact g
def R.trans {q:Nat}{d e x:Nat}(h:R E p d q)(g:R E q e x):R E p (d + e) x:=by
 induction g with
 | zero=>exact h
 | step _ s ih=>exact ih.step s
def R.head {q d x:Nat}(h:E p q)(g:R E q d x):R E p (1 + d) x:=R.trans (R.step .zero h) g
def R.symm (sy:∀ x y,E x y->E y x){d x:Nat}(h:R E p d x):R E x d p:=by
 induction h with
 | zero=>exact .zero
 | step _ s ih =>
  have:=R.head (sy _ _ s) ih;rwa [Nat.add_comm] at this
structure nR (E:Nat->Nat->Prop) (p r:Nat)(f:Nat->Option Nat)(dZ:Uq):Prop where
 sound:∀ x d,f x=some d->n9 E p x d
 upto:∀ x d,d<=r->R E p d x->∃ e,f x=some e
 low:∀ x d,f x=some d->d<=r
 dZ:∀ x,x∈dZ↔f x=some r
structure gJ (E:Nat->Nat->Prop) (r:Nat)(f:Nat->Option Nat)(dZ:Uq)(g:Nat->Option Nat)(reached:Uq):Prop where
 ext:∀ x d,f x=some d->g x=some d
 new:∀ x d,g x=some d->f x=some d\/(f x=none/\d=r + 1/\∃ h,h∈dZ/\E h x)
 got:∀ x,x∈reached↔(f x=none/\g x=some (r + 1))
def nR.start:nR E p 0 (fun x=>if x=p then some 0 else none) [p]:=by
 refine ⟨fun x d h=>?_,fun x d l h=>?_,fun x d h=>?_,fun x=>?_⟩
 ·by_cases c:x=p
  ·rw [if_pos c] at h;cases h;rw [c];exact ⟨.zero,fun e he=>absurd he (Nat.not_lt_zero e)⟩
  ·rw [if_neg c] at h;cases h
 ·obtain rfl:d=0:=by omega
  cases h;exact ⟨0,if_pos rfl⟩
 ·by_cases c:x=p
  ·rw [if_pos c] at h;cases h;exact RE _
  ·rw [if_neg c] at h;cases h
 ·rw [RH];constructor
  ·intro e;exact if_pos e
  ·intro h
   by_cases c:x=p
   ·exact c
   ·rw [if_neg c] at h;cases h
def gJ.start {r:Nat}{f:Nat->Option Nat}:gJ E r f dZ f []:=by
 refine ⟨fun x d h=>h,fun x d h=>.inl h,fun x=>?_⟩
 constructor
 ·intro h;cases h
 ·rintro ⟨h1,h2⟩;rw [h1] at h2;cases h2
def gJ.put {r:Nat}{f g:Nat->Option Nat}{h y:Nat}(B:gJ E r f dZ g reached)(he:h∈dZ)(hy:E h y)(n:g y=none):gJ E r f dZ (fun x=>if x=y then some (r + 1) else g x) (reached++[y]):=by
 have fy:f y=none:=by
  cases e:f y with
  | none=>rfl
  | some d =>
   rw [B.ext y d e] at n;cases n
 refine ⟨fun x d e=>?_,fun x d e=>?_,fun x=>?_⟩
 ·by_cases c:x=y
  ·rw [c,fy] at e;cases e
  ·show (if x=y then _ else _)=_
   rw [if_neg c];exact B.ext x d e
 ·by_cases c:x=y
  ·rw [if_pos c] at e;cases e;rw [c];exact .inr ⟨fy,rfl,h,he,hy⟩
  ·rw [if_neg c] at e;exact B.new x d e
 ·rw [RM,RH,B.got x];constructor
  ·rintro (⟨h1,h2⟩ | rfl)
   ·refine ⟨h1,?_⟩
    by_cases c:x=y
    ·exact if_pos c
    ·show (if x=y then _ else _)=_
     rw [if_neg c];exact h2
   ·exact ⟨fy,if_pos rfl⟩
  ·rintro ⟨h1,h2⟩
   by_cases c:x=y
   ·exact .inr c
   ·rw [if_neg c] at h2;exact .inl ⟨h1,h2⟩
theorem gJ.none {r:Nat}{f g:Nat->Option Nat}(B:gJ E r f dZ g reached){x:Nat}(h:g x=.none):f x=.none:=by
 cases e:f x with
 | none=>rfl
 | some d =>
  rw [B.ext x d e] at h;cases h
def gJ.at {r:Nat}{f g:Nat->Option Nat}(B:gJ E r f dZ g reached)(A:nR E p r f dZ){h:Nat}(he:h∈dZ):g h=some r:=B.ext h r ((A.dZ h).mp he)
def nR.next {r:Nat}{f g:Nat->Option Nat}{dZ reached:Uq}(A:nR E p r f dZ)(B:gJ E r f dZ g reached)(all:∀ h,h∈dZ->∀ x,E h x->g x≠none):nR E p (r + 1) g reached:=by
 refine ⟨fun x d e=>?_,fun x d l h=>?_,fun x d e=>?_,fun x=>?_⟩
 ·rcases B.new x d e with h | ⟨h1,rfl,h,he,hx⟩
  ·exact A.sound x d h
  ·have rh:=(A.sound h r ((A.dZ h).mp he)).1;refine ⟨rh.step hx,fun e he hr=>?_⟩
   obtain ⟨d,hd⟩:=A.upto x e (by omega) hr
   rw [h1] at hd;cases hd
 ·by_cases c:d<=r
  ·obtain ⟨e,he⟩:=A.upto x d c h;exact ⟨e,B.ext x e he⟩
  ·obtain rfl:d=r + 1:=by omega
   cases h with
   | @step _ y _ hy hyx =>
    obtain ⟨e,he⟩:=A.upto y r (RE _) hy;have el:=A.low y e he
    by_cases ce:e=r
    ·have:=all y ((A.dZ y).mpr (ce ▸ he)) x hyx;cases e':g x with
     | none=>exact absurd e' this
     | some d=>exact ⟨d,rfl⟩
    ·obtain ⟨e',he'⟩:=A.upto x (e + 1) (by omega) ((A.sound y e he).1.step hyx)
     exact ⟨e',B.ext x e' he'⟩
 ·rcases B.new x d e with h | ⟨_,rfl,_⟩
  ·have:=A.low x d h;omega
  ·exact RE _
 ·rw [B.got x];constructor
  ·exact fun h=>h.2
  ·intro h;refine ⟨?_,h⟩;rcases B.new x (r + 1) h with h' | ⟨h',_⟩
   ·have:=A.low x _ h';omega
   ·exact h'
def nR.done {r:Nat}{f:Nat->Option Nat}(A:nR E p r f []):∀ {d x:Nat},R E p d x->∃ e,f x=some e:=by
 intro d x h
 induction h with
 | zero=>exact A.upto p 0 (S8 _) .zero
 | @step d x y _ hxy ih =>
  obtain ⟨e,he⟩:=ih;have el:=A.low x e he;have ne:e≠r:=fun c=>by
   have:=(A.dZ x).mpr (c ▸ he);cases this
  exact A.upto y (e + 1) (by omega) ((A.sound x e he).1.step hxy)
def nR.val {r:Nat}{f:Nat->Option Nat}(A:nR E p r f []){x d:Nat}(h:R E p d x):f x=some (dst E p x):=by
 obtain ⟨e,he⟩:=A.done h;rw [he,uC (A.sound x e he)]
end
def cnt (f:Nat->Option Nat):Nat->Nat
 | 0=>0
 | m + 1=>cnt f m + (if f m=none then 1 else 0)
theorem yh {f g:Nat->Option Nat}(h:∀ x,g x=none->f x=none):∀ m,cnt g m<=cnt f m
 | 0=>RE _
 | m + 1=>by
  have:=yh h m;unfold cnt
  by_cases c:g m=none
  ·rw [if_pos c,if_pos (h m c)];omega
  ·rw [if_neg c];omega
theorem Fe {f g:Nat->Option Nat}(h:∀ x,g x=none->f x=none){y:Nat}(fy:f y=none)(gy:g y≠none):∀ m,y < m->cnt g m < cnt f m
 | 0,l=>absurd l (Nat.not_lt_zero _)
 | m + 1,l=>by
  unfold cnt
  by_cases c:y=m
  ·have:=yh h m;rw [<- c,if_neg gy,if_pos fy,c];omega
  ·have:=Fe h fy gy m (by omega)
   by_cases c:g m=none
   ·rw [if_pos c,if_pos (h m c)];omega
   ·rw [if_neg c];omega
def aJ (es:UQ) (x y:Nat):Prop:=(x,y)∈es\/(y,x)∈es
def cL (x y:Nat)(h:aJ es x y):aJ es y x:=h.elim .inr .inl
def dg (m:Nat)(es:UQ):Prop:=∀ p,p < m->∀ x,x < m->∃ d,R (aJ es) p d x
def Ky {m:Nat}(h:∀ k,0 < k->k < m->∃ p,p < k/\(p,k)∈es):dg m es:=by
 have z:∀ n x,x < n->x < m->∃ d,R (aJ es) x d 0:=by
  intro n
  induction n with
  | zero=>exact fun x h _=>absurd h (Nat.not_lt_zero _)
  | succ n ih =>
   intro x hx hm
   by_cases c:x=0
   ·rw [c];exact ⟨0,.zero⟩
   ·obtain ⟨q,hq,he⟩:=h x (by omega) hm
    obtain ⟨d,hd⟩:=ih q (by omega) (by omega)
    exact ⟨1 + d,R.head (.inr he) hd⟩
 intro p hp x hx;obtain ⟨d,hd⟩:=z (p + 1) p (by omega) hp
 obtain ⟨e,he⟩:=z (x + 1) x (by omega) hx
 exact ⟨d + e,hd.trans (he.symm cL)⟩
def zW {m:Nat}{nm:Nat->Nat}(h:dg m es)(onto:∀ x,x < m->∃ a,a < m/\nm a=x)(e:∀ a b,(a,b)∈es->aJ fs (nm a) (nm b)):dg m fs:=by
 intro p hp x hx;obtain ⟨a,ha,rfl⟩:=onto p hp;obtain ⟨b,hb,rfl⟩:=onto x hx;obtain ⟨d,hd⟩:=h a ha b hb;have go:∀ {d b:Nat},R (aJ es) a d b->R (aJ fs) (nm a) d (nm b):=by
  intro d b hd
  induction hd with
  | zero=>exact .zero
  | step _ s ih =>
   refine R.step ih ?_;rcases s with s | s
   ·exact e _ _ s
   ·exact cL _ _ (e _ _ s)
 exact ⟨d,go hd⟩
theorem gw:∀ (m:Nat)(l:Uq),l.Nodup->(∀ x∈l,x < m)->l.length<=m
 | 0,[],_,_=>RE _
 | 0,x::_,_,h=>absurd (h x (RA ..)) (Nat.not_lt_zero _)
 | m + 1,l,nd,h=>by
  have h1:(l.erase m).length<=m:=gw m (l.erase m) (nd.sublist (List.erase_sublist ..)) fun x hx=>by
   have:=(nd.mem_erase_iff.mp hx);have:=h x this.2;omega
  have h2:l.length<=(l.erase m).length + 1:=by
   rw [List.length_erase];split <;> omega
  omega
def nb (x:Nat)(e:Nat×Nat):Option Nat:=if e.1=x then some e.2 else if e.2=x then some e.1 else none
def dJ (es:UQ) (x:Nat):Uq:=es.filterMap (nb x)
def vN {x y:Nat}(h:nb x e=some y):e=(x,y)\/e=(y,x):=by
 obtain ⟨a,b⟩:=e;unfold nb at h
 by_cases c:a=x
 ·rw [if_pos c] at h;cases h;rw [c];exact .inl rfl
 ·rw [if_neg c] at h
  by_cases c2:b=x
  ·rw [if_pos c2] at h;cases h;rw [c2];exact .inr rfl
  ·rw [if_neg c2] at h;cases h
def c9 {x y:Nat}:y∈dJ es x↔aJ es x y:=by
 unfold dJ;rw [List.mem_filterMap];constructor
 ·rintro ⟨e,he,h⟩;rcases vN h with rfl | rfl
  ·exact .inl he
  ·exact .inr he
 ·rintro (h | h)
  ·exact ⟨_,h,if_pos rfl⟩
  ·refine ⟨_,h,?_⟩;show (if y=x then some x else if x=x then some y else none)=some y
   by_cases c:y=x
   ·rw [if_pos c,c]
   ·rw [if_neg c,if_pos rfl]
def Jp {x:Nat}:dJ (es++fs) x=dJ es x++dJ fs x:=List.filterMap_append ..
structure Good (m:Nat)(es:UQ):Prop where
 lt:∀ e∈es,e.1 < e.2/\e.2 < m
 nd:es.Nodup
def Good.cN {m:Nat}(g:Good m es){x y:Nat}(h:aJ es x y):x < m/\y < m:=by
 rcases h with h | h
 ·have:x < y/\y < m:=g.lt _ h;omega
 ·have:y < x/\x < m:=g.lt _ h;omega
def Good.qC {m:Nat}(g:Good m es) (x:Nat):(dJ es x).Nodup:=by
 unfold dJ List.Nodup;rw [List.pairwise_filterMap];refine List.Pairwise.imp_of_mem ?_ g.nd;intro a b ha hb ne y hy z hz e;subst e;rcases vN hy with rfl | rfl <;> rcases vN hz with rfl | rfl
 ·exact ne rfl
 ·have h1:x < y/\y < m:=g.lt _ ha;have h2:y < x/\x < m:=g.lt _ hb;omega
 ·have h1:y < x/\x < m:=g.lt _ ha;have h2:x < y/\y < m:=g.lt _ hb;omega
 ·exact ne rfl
def Good.rC {m:Nat}(g:Good m es) (x:Nat):(dJ es x).length<=m:=gw m _ (g.qC x) fun y hy=>(g.cN (c9.mp hy)).2
def Good.perm {m:Nat}(p:fs.Perm es)(g:Good m es):Good m fs:=⟨fun e h=>g.lt e (p.mem_iff.mp h),p.nodup_iff.mpr g.nd⟩
def Em {m:Nat}(p:fs.Perm es)(h:dg m es):dg m fs:=zW (nm:=id) h (fun x hx=>⟨x,hx,rfl⟩) fun a b h=>.inl (p.mem_iff.mpr h)
def vY (ms:Uq)(e:Nat×Nat):Nat×Nat:=(min (ms.getD e.1 0) (ms.getD e.2 0),max (ms.getD e.1 0) (ms.getD e.2 0))
def getD_inj {ms:Uq}(nd:ms.Nodup){a b:Nat}(ha:a < ms.length)(hb:b < ms.length)(e:ms.getD a 0=ms.getD b 0):a=b:=by
 rw [Sk,Sk,RS ha,RS hb] at e;have e':ms[a]=ms[b]:=e;rcases UK a b with l | l | l
 ·exact absurd e' (T7.mp nd a b ha hb l)
 ·exact l
 ·exact absurd e'.symm (T7.mp nd b a hb ha l)
def Cr {m:Nat}{ps:UQ}{ms:Uq}(pm:ms.Perm (List.range m))(g:Good m ps):Good m (ps.map (vY ms)):=by
 have nd:ms.Nodup:=pm.nodup_iff.mpr Sl;have ln:ms.length=m:=by rw [pm.length_eq,Rm]
 have lt:∀ a,a < m->ms.getD a 0 < m:=fun a ha=>by
  have h:a < ms.length:=by omega
  rw [Sk,RS h];exact Ro.mp (pm.mem_iff.mp (UB h))
 refine ⟨fun e he=>?_,?_⟩
 ·obtain ⟨⟨a,b⟩,hp,rfl⟩:=RI.mp he;have h:a < b/\b < m:=g.lt _ hp;have h1:=lt a (by omega)
  have h2:=lt b (by omega)
  have ne:ms.getD a 0≠ms.getD b 0:=fun e=>by
   have:=getD_inj nd (by omega) (by omega) e
   omega
  show min (ms.getD a 0) (ms.getD b 0) < max (ms.getD a 0) (ms.getD b 0)/\max (ms.getD a 0) (ms.getD b 0) < m;omega
 ·refine List.Pairwise.map _ ?_ (List.Pairwise.imp_of_mem (S:=fun x y=>x≠y/\(x.1 < x.2/\x.2 < m)/\(y.1 < y.2/\y.2 < m)) (fun {a b} ha hb h=>⟨h,g.lt _ ha,g.lt _ hb⟩) g.nd)
  rintro ⟨a,b⟩ ⟨c,d⟩ ⟨ne,h1,h2⟩ e;have h1:a < b/\b < m:=h1;have h2:c < d/\d < m:=h2;have e1:min (ms.getD a 0) (ms.getD b 0)=min (ms.getD c 0) (ms.getD d 0):=congrArg Prod.fst e;have e2:max (ms.getD a 0) (ms.getD b 0)=max (ms.getD c 0) (ms.getD d 0):=congrArg Prod.snd e;have e3:(ms.getD a 0=ms.getD c 0/\ms.getD b 0=ms.getD d 0)\/(ms.getD a 0=ms.getD d 0/\ms.getD b 0=ms.getD c 0):=by omega
  rcases e3 with ⟨p,q⟩ | ⟨p,q⟩
  ·have r1:=getD_inj nd (by omega) (by omega) p
   have r2:=getD_inj nd (by omega) (by omega) q
   subst r1;subst r2;exact ne rfl
  ·have r1:=getD_inj nd (by omega) (by omega) p
   have r2:=getD_inj nd (by omega) (by omega) q
   omega
def Cz {m:Nat}(pm:ms.Perm (List.range m))(h:dg m ps):dg m (ps.map (vY ms)):=by
 refine zW (nm:=fun a=>ms.getD a 0) h (fun x hx=>?_) fun a b he=>?_
 ·obtain ⟨i,hi⟩:=UA (pm.mem_iff.mpr (Ro.mpr hx));have li:=(Te.mp hi).1;rw [pm.length_eq,Rm] at li;refine ⟨i,li,?_⟩;show ms.getD i 0=x;rw [Sk,hi];rfl
 ·have hm:vY ms (a,b)∈ps.map (vY ms):=RI.mpr ⟨_,he,rfl⟩;show aJ _ (ms.getD a 0) (ms.getD b 0);have e:vY ms (a,b)=(min (ms.getD a 0) (ms.getD b 0),max (ms.getD a 0) (ms.getD b 0)):=rfl;rw [e] at hm;rcases Nat.le_total (ms.getD a 0) (ms.getD b 0) with l | l
  ·rw [TY l,Nat.max_eq_right l] at hm;exact .inl hm
  ·rw [U0 l,Nat.max_eq_left l] at hm;exact .inr hm
section
variable {E:Nat->Nat->Prop}{p:Nat}
def n9.pred {x d:Nat}(h:n9 E p x (d + 1)):∃ y,n9 E p y d/\E y x:=by
 obtain ⟨h1,h2⟩:=h;cases h1 with
 | @step _ y _ hy hyx =>
  refine ⟨y,⟨hy,fun e he hr=>?_⟩,hyx⟩
  exact h2 (e + 1) (by omega) (hr.step hyx)
end
def fE:Nat->Nat
 | 0=>0
 | b + 1=>fE b + b
def yU {a b:Nat}(h:a<=b):fE a<=fE b:=by
 induction b with
 | zero =>
  obtain rfl:a=0:=by omega
  exact RE _
 | succ b ih =>
  by_cases c:a=b + 1
  ·rw [c];exact RE _
  ·exact Rz (ih (by omega)) (Tv _ _)
theorem An:∀ m,2 * fE m<=m * m
 | 0=>RE _
 | m + 1=>by
  have:=An m;show 2 * (fE m + m)<=(m + 1) * (m + 1);rw [Nat.mul_add,Nat.add_mul,Nat.mul_add];omega
def ix (e:Nat×Nat):Nat:=fE e.2 + e.1
def MS (he:e.1 < e.2)(hf:f.1 < f.2)(h:ix e=ix f):e=f:=by
 obtain ⟨a,b⟩:=e;obtain ⟨c,d⟩:=f;unfold ix at h;dsimp only at he hf h;have key:∀ {a b c d:Nat},a < b->b < d->fE b + a < fE d + c:=fun {a b c d} h1 h2=>by
  have:=yU (a:=b + 1) (b:=d) (by omega)
  have e:fE (b + 1)=fE b + b:=rfl;omega
 rcases UK b d with l | l | l
 ·have:=key (c:=c) he l;omega
 ·subst l;rw [show a=c by omega]
 ·have:=key (c:=a) hf l;omega
def tB {m:Nat}(g:Good m ps):2 * ps.length<=m * m:=by
 have h:=gw (fE m) (ps.map ix) ?_ ?_
 ·rw [RD] at h;have:=An m;omega
 ·unfold List.Nodup;rw [List.pairwise_map];exact List.Pairwise.imp_of_mem (fun {e f} he hf ne h=>ne (MS (g.lt e he).1 (g.lt f hf).1 h)) g.nd
 ·intro x hx;obtain ⟨e,he,rfl⟩:=RI.mp hx;have l:=g.lt e he;have:=yU (a:=e.2 + 1) (b:=m) (by omega)
  have e2:fE (e.2 + 1)=fE e.2 + e.2:=rfl;unfold ix;omega
end Gr
local macro_rules | `(tactic| bv_omega) => do let ls ← (List.range 216).toArray.mapM fun k => `(Lean.Parser.Tactic.simpLemma| $(Lean.mkIdent (.str `Dv s!"rr{k}")):ident); `(tactic| dsimp only [$ls,*, Dv.dyr0, Dv.dyr1, Dv.dyr2, Dv.dyr3, Nat.reduceBEq])
local macro_rules | `(tactic| subst_eqs) => `(tactic| ((try bv_omega); try simp only [Dv.dv, Dv.dw, Dv.dx, Dv.dy, Dv.dz, Nat.reduceBEq]))
local macro_rules | `(tactic| simp_arith [$xs,*]) => `(tactic| ((try bv_omega); try simp only [Dv.dv, Dv.dw, Dv.dx, Dv.dy, Dv.dz, Nat.reduceBEq, $xs,*]))
namespace PB
open PySem L2 Dv
def AY {α:Type}{m k:Nat}{f:Nat->α}{v:α}:((List.range m).map f).set k v=(List.range m).map fun i=>if i=k then v else f i:=by
 refine Ss fun j=>?_
 rw [U1,RD,Rm,RN,RN]
 by_cases h:j < m
 ·rw [SV h]
  by_cases c:k=j
  ·subst c;rw [if_pos rfl,if_pos h];simp
  ·rw [if_neg c];simp [Ne.symm c]
 ·rw [S4 (by rw [Rm];omega)]
  by_cases c:k=j
  ·subst c;rw [if_pos rfl,if_neg h];rfl
  ·rw [if_neg c];rfl
def Jy {α:Type}{m k:Nat}{f:Nat->α}(h:k < m):((List.range m).map f)[k]?=some (f k):=by rw [RN,SV h];rfl
def PM (f:DM) (i n:Nat)(E1:En)(w:PyData)(Q:Ut):Prop:=∃ a p ds m es k d E2,w=.int a/\E1[i]?=some (some (.dp p,.list ds))/\lU ds.length a=some m/\ds[m]?=some (.list es)/\E1[n]?=some (some (k,d))/\i≠n/\dD E1 n=some E2/\f es [d] fun new v=>Q (E2.set i (some (.dp p,.list (ds.set m (.list new))))) .sh v
def DQ {i n:Nat}:yG f i j n x (o::E) Q=(here (o::E) i=true/\j x (o::E) fun E1 _ w=>PM f i n E1 w Q):=rfl
def FF {i n a m:Nat}{p:Bool}{E:En}{g:Nat->Ub}{Q:Ut}(h1:E[i]?=some (some (.dp p,.list ((List.range m).map fun i=>.list (g i)))))(h2:E[n]?=some (some (.sh,d)))(ne:i≠n)(ha:a < m)(hs:(g a).length < 16777216)(q:Q (E.set i (some (.dp p,.list ((List.range m).map fun k=>.list (if k=a then g k++[d] else g k))))) .sh .none):PM fT i n E (iD a) Q:=by
 refine ⟨a,p,_,a,g a,.sh,d,E,rfl,h1,?_,Jy ha,h2,ne,?_,?_⟩
 ·rw [RD,Rm];exact ER ha
 ·have:=zo (E:=E) (is:=[n]) (by simp [kM,h2])
  unfold eu at this;cases e:dD E n with
  | none=>rw [e] at this;cases this
  | some E2=>rw [e] at this;exact this
 ·refine ⟨hs,?_⟩;show Q (E.set i (some (.dp p,.list (((List.range m).map fun i=>PyData.list (g i)).set a (.list (g a++[d])))))) .sh .none
  rw [AY];have e:((List.range m).map fun k=>if k=a then PyData.list (g a++[d]) else .list (g k))=(List.range m).map fun k=>PyData.list (if k=a then g k++[d] else g k):=by
   refine Sm fun k _=>?_
   by_cases c:k=a
   ·rw [if_pos c,if_pos c,c]
   ·rw [if_neg c,if_neg c]
  rw [e];exact q
abbrev tW (m:Nat)(es:UQ):PyData:=.list ((List.range m).map fun i=>nD (Gr.dJ es i))
def vd:aZ:=fun ds Q x=>∃ m es,ds=[wD m es]/\m<=60/\Gr.Good m es/\Q [] (.dp false) (tW m es)
def Nb:∀ ds Q x,vd ds Q x->gZ (aT [false] Q x) (ini [false] ds++List.replicate 6 none):=by
 rintro _ Q x ⟨m,es,rfl,hm,gd,q⟩;unfold gZ;subst_eqs;rw [if_pos (by omega)]
 refine c7 rfl (Mr (fun _=>PyData.list []) rfl (fun a ha I hI=>?_) ?_ (by rw [Rm];omega))
 ·subst_eqs;exact ⟨by omega,⟨false,rfl⟩,hI _ rfl⟩
 ·subst_eqs;refine oU (fun i E=>∃ o4 o5:Uv,E=[some (.sh,wD m es),some (.sh,iD m),some (.sh,.tuple (es.map cV)),some (.dp false,tW m (es.take i)),o4,o5,none]/\bM o4=true/\bM o5=true) ⟨none,none,rfl,rfl,rfl⟩ ?_ ?_
  ·rintro i ⟨a,b⟩ _ hi ⟨o4,o5,rfl,ho4,ho5⟩;have hab:=gd.lt _ (Rt hi);have hab:a < b/\b < m:=hab;simp_arith [ho4,ho5,DQ];have hn:∀ k,(Gr.dJ (es.take i) k).length < 1000:=fun k=>by
    have g2:Gr.Good m (es.take i):=⟨fun e he=>gd.lt e (List.mem_of_mem_take he),List.Sublist.nodup (List.take_sublist _ _) gd.nd⟩
    have:=g2.rC k;omega
   refine FF (g:=fun k=>(Gr.dJ (es.take i) k).map iD) rfl rfl (by omega) (by omega) (by rw [RD];have:=hn a;omega) ?_
   simp_arith [ho4,ho5,DQ];refine FF (g:=fun k=>if k=a then (Gr.dJ (es.take i) k).map iD++[iD b] else (Gr.dJ (es.take i) k).map iD) rfl rfl (by omega) (by omega) (by rw [if_neg (by omega),RD];have:=hn b;omega) ?_
   refine ⟨some (.sh,iD a),some (.sh,iD b),?_,rfl,rfl⟩;simp only [List.set_cons_succ,List.set_cons_zero];have e:∀ k,(if k=b then (if k=a then (Gr.dJ (es.take i) k).map iD++[iD b] else (Gr.dJ (es.take i) k).map iD)++[iD a] else if k=a then (Gr.dJ (es.take i) k).map iD++[iD b] else (Gr.dJ (es.take i) k).map iD)=(Gr.dJ (es.take (i + 1)) k).map iD:=fun k=>by
    rw [take_snoc hi,Gr.Jp,Rw];unfold Gr.dJ;rw [Sv,List.filterMap_nil];unfold Gr.nb;simp only
    by_cases c:k=a
    ·subst c;rw [if_neg (by omega),if_pos rfl,if_pos rfl]
     rfl
    ·by_cases c2:k=b
     ·subst c2;rw [if_pos rfl,if_neg c,if_neg (Ne.symm c),if_pos rfl];rfl
     ·rw [if_neg c2,if_neg c,if_neg (Ne.symm c),if_neg (Ne.symm c2)];exact (SN _).symm
   rw [Sm fun k _=>congrArg PyData.list (e k)]
  ·rintro _ ⟨o4,o5,rfl,ho4,ho5⟩;rw [Sd];subst_eqs;exact q
open Classical in
def rW (es:UQ) (p x:Nat):Option Nat:=if ∃ d,Gr.R (Gr.aJ es) p d x then some (Gr.dst (Gr.aJ es) p x) else none
def oD:Option Nat->PyData
 | none=>.none
 | some n=>iD n
abbrev uE (f:Nat->Option Nat) (m:Nat):PyData:=.list ((List.range m).map fun x=>oD (f x))
def Er {f:Nat->Option Nat}{m y d:Nat}:(((List.range m).map fun x=>oD (f x)).set y (iD d))=(List.range m).map fun x=>oD (if x=y then some d else f x):=by
 rw [AY];refine Sm fun k _=>?_
 by_cases c:k=y
 ·rw [if_pos c,if_pos c];rfl
 ·rw [if_neg c,if_neg c]
def NU {m p r:Nat}{f:Nat->Option Nat}(B:Gr.nR (Gr.aJ es) p r f []) (x:Nat):f x=rW es p x:=by
 unfold rW;split
 ·rename_i h;obtain ⟨d,h⟩:=h;exact B.val h
 ·rename_i h;cases e:f x with
  | none=>rfl
  | some d=>exact absurd ⟨d,(B.sound x d e).1⟩ h
def Hv {m p x:Nat}(cn:Gr.dg m es)(hp:p < m)(hx:x < m):rW es p x=some (Gr.dst (Gr.aJ es) p x):=if_pos (cn p hp x hx)
def CK:aZ:=fun ds Q x=>∃ m es p,ds=[wD m es,iD p]/\m<=60/\Gr.Good m es/\p < m/\Q [] (.ow false) (uE (rW es p) m)
def MD:cZ false [oD o,.none] P=P .sh (.bool o.isNone):=by
 cases o <;> simp [oD,cZ,dx]
def OU:lf (oD o)=true:=by cases o <;> rfl
def AD {y:Nat}:nD (l++[y])=.list (l.map iD++[iD y]):=by
 show PyData.list ((l++[y]).map iD)=_;rw [Rw];rfl
def Mt:∀ ds Q x,CK ds Q x->jK vd (aT [false,false] Q x) (ini [false,false] ds++List.replicate 6 none):=by
 rintro _ Q x ⟨m,es,p,rfl,hm,gd,hp,q⟩;unfold jK;subst_eqs;refine ⟨m,es,rfl,hm,gd,?_⟩;subst_eqs;have e0:(List.replicate m [PyData.none]).flatten=(List.range m).map fun _=>PyData.none:=by
  clear q hp gd hm
  induction m with
  | zero=>rfl
  | succ k ih=>rw [List.replicate_succ',List.flatten_append,ih,List.range_succ,Rw];rfl
 rw [e0];refine ⟨by omega,⟨by omega,by omega,by omega⟩,vQ (by rw [RD,Rm];exact hp) ?_⟩
 rw [show PyData.int 0=iD 0 from rfl,show ((List.range m).map fun _=>PyData.none)=(List.range m).map fun x=>oD ((fun _=>none:Nat->Option Nat) x) from rfl,Er]
 refine ⟨by omega,?_⟩
 refine ⟨fun n E=>∃ (r:Nat)(g:Nat->Option Nat)(ed:Uq)(k2 k4:Kd)(o5 o6 o7:Uv),E=[some (.sh,wD m es),some (.sh,iD p),some (k2,tW m es),some (.ow false,uE g m),some (k4,nD ed),o5,o6,o7]/\(k2=.dp false\/k2=.sh)/\(k4=.ow false\/k4=.sh)/\bM o5=true/\bM o6=true/\bM o7=true/\n=2 * Gr.cnt g m + (if ed=[] then 0 else 1)/\Gr.nR (Gr.aJ es) p r g ed/\∀ x∈ed,x < m,?_,?_⟩
 ·exact ⟨_,0,_,[p],_,_,none,none,none,rfl,.inl rfl,.inl rfl,rfl,rfl,rfl,rfl,Gr.nR.start,fun x hx=>by rw [RH.mp hx];exact hp⟩
 rintro n _ ⟨r,g,ed,k2,k4,o5,o6,o7,rfl,hk2,hk4,ho5,ho6,ho7,rfl,B,edm⟩;simp_arith [List.isEmpty_map];refine ⟨by rcases hk4 with rfl | rfl <;> rfl,?_⟩
 cases ed with
 | nil =>
  simp_arith [List.isEmpty_nil];have e:uE g m=uE (rW es p) m:=congrArg PyData.list (Sm fun x _=>congrArg oD (NU (m:=m) B x))
  rw [e];exact q
 | cons e0 er =>
  simp_arith [List.isEmpty_cons,ho5];have f4:k4.fz=true:=by rcases hk4 with rfl | rfl <;> rfl
  rw [if_pos f4];refine ⟨by omega,c7 rfl ?_⟩
  have ne:e0::er≠[]:=List.cons_ne_nil _ _;generalize e0::er=ed at B edm ne ⊢;have hE2:∀ (k2:Kd),(k2=.dp false\/k2=.sh)->k2.rd=true/\k2.fz=true:=fun k h=>by rcases h with rfl | rfl <;> exact ⟨rfl,rfl⟩
  refine oU (fun i E=>∃ (g':Nat->Option Nat)(rc:Uq)(k2:Kd)(o6 o7:Uv),E=[some (.sh,wD m es),some (.sh,iD p),some (k2,tW m es),some (.ow false,uE g' m),some (.sh,nD ed),some (.ow false,nD rc),o6,o7]/\(k2=.dp false\/k2=.sh)/\bM o6=true/\bM o7=true/\Gr.gJ (Gr.aJ es) r g ed g' rc/\(∀ j h,j < i->ed[j]?=some h->∀ x,Gr.aJ es h x->g' x≠none)/\rc.Nodup/\∀ x∈rc,x < m) ⟨g,[],k2,o6,o7,rfl,hk2,ho6,ho7,.start,fun j h hj=>by omega,Sq,fun _ h=>absurd h Rv⟩ ?_ ?_
  ·rintro i h _ hi ⟨g',rc,k2,o6,o7,rfl,hk2,ho6,ho7,BI,don,rcn,rcm⟩;have mh:h∈ed:=Rt hi;have hm':=edm h mh;obtain ⟨rd2,fz2⟩:=hE2 k2 hk2;simp_arith [ho6,rd2];rw [SV hm'];refine c7 rfl ?_;simp_arith [fz2];have loop:∀ k2,(k2=.dp false\/k2=.sh)->wH (List.map iD (Gr.dJ es h)) (Tg.nm 7) (cE (bG (ah (cZ false) [Arg.ev (ah bN [Arg.pk 3,Arg.pk 7]),Arg.ev (dC PyData.none)])) (aC (fH 3 (aX 7) (ah dH [Arg.ev (ah bN [Arg.pk 3,Arg.pk 6]),Arg.ev (dC (PyData.int 1))])) (dM (uU fT 5 [aX 7]))) cR)
    { nx:=fun E=>∃ (g':Nat->Option Nat)(rc:Uq)(k2:Kd)(o6 o7:Uv),E=[some (.sh,wD m es),some (.sh,iD p),some (k2,tW m es),some (.ow false,uE g' m),some (.sh,nD ed),some (.ow false,nD rc),o6,o7]/\(k2=.dp false\/k2=.sh)/\bM o6=true/\bM o7=true/\Gr.gJ (Gr.aJ es) r g ed g' rc/\(∀ j h,j < i + 1->ed[j]?=some h->∀ x,Gr.aJ es h x->g' x≠none)/\rc.Nodup/\∀ x∈rc,x < m,rt:=(aT [false,false] Q x).rt,xc:=x }
    [some (.sh,wD m es),some (.sh,iD p),some (k2,tW m es),some (.ow false,uE g' m),some (.sh,nD ed),some (.ow false,nD rc),some (.sh,iD h),o7]:=by
    intro k2 hk2;refine oU (fun i' E=>∃ (g':Nat->Option Nat)(rc:Uq)(o7:Uv),E=[some (.sh,wD m es),some (.sh,iD p),some (k2,tW m es),some (.ow false,uE g' m),some (.sh,nD ed),some (.ow false,nD rc),some (.sh,iD h),o7]/\bM o7=true/\Gr.gJ (Gr.aJ es) r g ed g' rc/\(∀ j h,j < i->ed[j]?=some h->∀ x,Gr.aJ es h x->g' x≠none)/\(∀ j y,j < i'->(Gr.dJ es h)[j]?=some y->g' y≠none)/\rc.Nodup/\∀ x∈rc,x < m) ⟨g',rc,o7,rfl,ho7,BI,don,fun j y hj=>by omega,rcn,rcm⟩ ?_ ?_
    ·rintro i' y _ hy ⟨g',rc,o7,rfl,ho7,BI,don,dni,rcn,rcm⟩;have hyE:Gr.aJ es h y:=Gr.c9.mp (Rt hy);have ym:y < m:=(gd.cN hyE).2;have eh:=BI.at B mh;simp_arith [ho7,SV ym,SV hm',OU,MD];cases gy:g' y with
     | some d =>
      simp only [dw,Option.isNone_some];refine ⟨g',rc,some (.sh,iD y),rfl,rfl,BI,don,fun j z hj hz=>?_,rcn,rcm⟩
      by_cases c:j=i'
      ·subst c;rw [hy] at hz;cases hz;rw [gy];simp
      ·exact dni j z (by omega) hz
     | none =>
      have e1:oD (some r)=iD r:=rfl;have e2:(r:Int) + 1=((r + 1:Nat):Int):=rfl;simp_arith [Option.isNone_none,eh,e1,e2];have yrc:y∉rc:=fun h'=>by
       have:=((BI.got y).mp h').2;rw [gy] at this;cases this
      have rcl:=Gr.gw m rc rcn rcm;refine vQ ym ⟨by omega,_,rc++[y],some (.sh,iD y),?_,rfl,BI.put mh hyE gy,fun j h' hj he x hx=>?_,fun j z hj hz=>?_,?_,fun x hx=>?_⟩
      ·rw [Er,AD]
      ·show (if x=y then some (r + 1) else g' x)≠none
       split
       ·exact fun h=>(nomatch h)
       ·exact don j h' hj he x hx
      ·show (if z=y then some (r + 1) else g' z)≠none
       split
       ·exact fun h=>(nomatch h)
       ·rename_i c
        by_cases c2:j=i'
        ·subst c2;rw [hy] at hz;cases hz;exact absurd rfl c
        ·exact dni j z (by omega) hz
      ·exact TU.mpr ⟨rcn,S7.mpr ⟨Rv,Sq⟩,fun a ha b hb e=>by
        cases RH.mp hb;exact yrc (e ▸ ha)⟩
      ·rcases RM.mp hx with h' | h'
       ·exact rcm x h'
       ·rw [RH.mp h'];exact ym
    ·rintro _ ⟨g',rc,o7,rfl,ho7,BI,don,dni,rcn,rcm⟩;refine ⟨g',rc,k2,_,o7,rfl,hk2,rfl,ho7,BI,fun j h' hj hh x hx=>?_,rcn,rcm⟩
     by_cases c:j=i
     ·subst c;rw [hi] at hh;cases hh;obtain ⟨l,hl⟩:=Si.mp (Gr.c9.mpr hx);exact dni l x (aB hl) hl
     ·exact don j h' (by omega) hh x hx
   split
   ·exact c7 rfl (loop _ hk2)
   ·exact c7 rfl (loop _ (.inr rfl))
  ·rintro _ ⟨g',rc,k2,o6,o7,rfl,hk2,ho6,ho7,BI,don,rcn,rcm⟩;subst_eqs;have all:∀ h,h∈ed->∀ x,Gr.aJ es h x->g' x≠none:=fun h hh=>by
    obtain ⟨j,hj⟩:=Si.mp hh;exact don j h (aB hj) hj
   refine ⟨_,?_,r + 1,g',rc,k2,.sh,some (.sh,nD rc),o6,o7,rfl,hk2,.inr rfl,rfl,ho6,ho7,rfl,B.next BI all,rcm⟩;rw [if_neg ne];cases rc with
   | nil =>
    have:=Gr.yh (f:=g) (g:=g') (fun x h=>BI.none h) m
    rw [if_pos rfl];omega
   | cons y rc =>
    obtain ⟨h1,h2⟩:=(BI.got y).mp (RA ..);have:=Gr.Fe (f:=g) (g:=g') (fun x h=>BI.none h) h1 (by rw [h2];exact fun h=>(nomatch h)) m (rcm y (RA ..))
    rw [if_neg (List.cons_ne_nil _ _)];omega
structure dF (m:Nat)(es:UQ):Prop where
 pos:1<=m
 le:m<=60
 gd:Gr.Good m es
 cn:Gr.dg m es
def dF.few {m:Nat}(W:dF m es):es.length<=1800:=by
 have h:=Gr.tB W.gd;have:=Nat.mul_le_mul W.le W.le;omega
abbrev aV (es:UQ) (p x:Nat):Nat:=Gr.dst (Gr.aJ es) p x
abbrev tY (m:Nat)(es:UQ) (p:Nat):PyData:=.list ((List.range m).map fun x=>iD (aV es p x))
def Mx {m p:Nat}(cn:Gr.dg m es)(hp:p < m):uE (rW es p) m=tY m es p:=congrArg PyData.list (Sm fun x hx=>by rw [Hv cn hp (Ro.mp hx)];rfl)
def vJ:aZ:=fun ds Q x=>∃ m es,∃ p:Int,ds=[wD m es,.int p]/\(0<=p/\p < m->Q [] .sh .none)/\(¬ (0<=p/\p < m)->x "NoPlace" .none)
def Ln:∀ ds Q x,vJ ds Q x->gP (aT [false,false] Q x) (ini [false,false] ds++List.replicate 0 none):=by
 rintro _ Q x ⟨m,es,p,rfl,q,r⟩;unfold gP;subst_eqs;split
 ·rename_i h;split
  ·rename_i h2;exact r fun z=>h2 z.2
  ·rename_i h2;exact q ⟨h,Uj h2⟩
 ·rename_i h;exact r fun z=>h z.1
def vE:aZ:=fun ds Q x=>∃ m es,∃ p:Int,ds=[wD m es,.int p]/\dF m es/\(∀ k:Nat,p=k->k < m->Q [] (.ow false) (tY m es k))/\(¬ (0<=p/\p < m)->x "NoPlace" .none)
def M0:∀ ds Q x,vE ds Q x->nj vJ CK (aT [false,false] Q x) (ini [false,false] ds++List.replicate 0 none):=by
 rintro _ Q x ⟨m,es,p,rfl,W,q,r⟩;unfold nj;subst_eqs;refine ⟨m,es,p,rfl,fun hp=>?_,r⟩
 subst_eqs;obtain ⟨k,rfl⟩:=Int.eq_ofNat_of_zero_le hp.1;have hk:k < m:=by omega
 refine ⟨m,es,k,rfl,W.le,W.gd,hk,?_⟩;subst_eqs;rw [Mx W.cn hk];exact q k rfl hk
abbrev Th:=Nat ⊕ (Nat×Nat)
def cz:Th->PyData
 | .inl x=>iD x
 | .inr e=>cV e
def TV (m:Nat):Th->Prop
 | .inl x=>x < m
 | .inr e=>e.1 < m/\e.2 < m
def td (es:UQ) (p:Nat):Th->Nat
 | .inl x=>aV es p x
 | .inr e=>min (aV es p e.1) (aV es p e.2)
def CL:aZ:=fun ds Q x=>∃ m es p,∃ e:Nat×Nat,ds=[tY m es p,cV e]/\e.1 < m/\e.2 < m/\Q [] .sh (iD (td es p (.inr e)))
def K7:∀ ds Q x,CL ds Q x->lQ (aT [false,false] Q x) (ini [false,false] ds++List.replicate 0 none):=by
 rintro _ Q x ⟨m,es,p,e,rfl,h1,h2,q⟩;unfold lQ;simp_arith [SV h1,SV h2];exact q
def vD:aZ:=fun ds Q x=>∃ m es p t,ds=[tY m es p,cz t]/\TV m t/\Q [] .sh (iD (td es p t))
def Mq:∀ ds Q x,vD ds Q x->nI CL (aT [false,false] Q x) (ini [false,false] ds++List.replicate 0 none):=by
 rintro _ Q x ⟨m,es,p,t,rfl,h,q⟩;unfold nI;cases t with
 | inl k =>
  have h:k < m:=h;simp_arith [cz,SV h];exact q
 | inr e =>
  simp_arith [cz];refine ⟨m,es,p,e,rfl,h.1,h.2,?_⟩;subst_eqs;exact q
def av (k:Str) (m:Nat)(es:UQ):List Th:=(if k="ties" then [] else (List.range m).map Sum.inl)++(if k="places" then [] else es.map Sum.inr)
def mq {m:Nat}(g:Gr.Good m es):∀ t∈av k m es,TV m t:=by
 intro t ht;rcases RM.mp ht with h | h
 ·split at h
  ·cases h
  ·obtain ⟨x,hx,rfl⟩:=RI.mp h;exact Ro.mp hx
 ·split at h
  ·cases h
  ·obtain ⟨e,he,rfl⟩:=RI.mp h;have:=g.lt e he;exact ⟨by show e.1 < m;omega,this.2⟩
def iR {m:Nat}(W:dF m es):(av k m es).length<=1860:=by
 unfold av;have:=W.few;have:=W.le;rw [RW];split <;> split <;> simp <;> omega
def jh:aZ:=fun ds Q x=>∃ m es k,ds=[wD m es,.str k]/\dF m es/\Q [] (.ow false) (.list ((av k m es).map cz))
def Oa:∀ ds Q x,jh ds Q x->nG (aT [false,false] Q x) (ini [false,false] ds++List.replicate 4 none):=by
 rintro _ Q x ⟨m,es,k,rfl,W,q⟩;have e:(av k m es).map cz=(if k="ties" then [] else (List.range m).map iD)++(if k="places" then [] else es.map cV):=by
  unfold av;rw [Rw];congr 1
  ·split
   ·rfl
   ·rw [RT];rfl
  ·split
   ·rfl
   ·rw [RT];rfl
 have hm:=W.le;have hf:=W.few;unfold nG;subst_eqs;rw [e] at q
 by_cases c1:k="ties"
 ·by_cases c2:k="places"
  ·subst c1;exact absurd c2 (by decide)
  ·simp only [if_pos c1,if_neg c2,dv,dw,dx,dy,dz,Nat.reduceBEq] at q ⊢;exact ⟨by omega,by omega,q⟩
 ·by_cases c2:k="places"
  ·simp only [if_neg c1,if_pos c2,dv,dw,dx,dy,dz,Nat.reduceBEq,SN] at q ⊢;exact ⟨⟨by omega,by omega⟩,by omega,by omega,q⟩
  ·simp only [if_neg c1,if_neg c2,dv,dw,dx,dy,dz,Nat.reduceBEq] at q ⊢;exact ⟨⟨by omega,by omega⟩,by omega,q⟩
def rising (l:Uq):Prop:=l.Pairwise (· < ·)
def oQ {m:Nat}(h:rising l)(lt:∀ x∈l,x < m):l.length<=m:=Gr.gw m l (h.imp fun h=>RQ h) lt
structure cH (m:Nat)(ls:Uq):Prop where
 up:rising ls
 lt:∀ l∈ls,l < m
def cH.len {m:Nat}(h:cH m ls):ls.length<=m:=oQ h.up h.lt
def iu (m:Nat) (last:Int):Ur->Bool
 | []=>true
 | l::ls=>decide (last < l) && decide (l < m) && iu m l ls
def Ca:aZ:=fun ds Q x=>∃ m es,∃ ls:Ur,ds=[wD m es,.list (ls.map .int)]/\Q [] .sh (.bool (iu m (-1) ls))
def Nf:∀ ds Q x,Ca ds Q x->m7 (aT [false,false] Q x) (ini [false,false] ds++List.replicate 2 none):=by
 rintro _ Q x ⟨m,es,ls,rfl,q⟩;unfold m7;subst_eqs;refine oU (fun i E=>∃ (last:Int)(o:Uv),E=[some (.sh,wD m es),some (.sh,.list (ls.map .int)),some (.sh,.int last),o]/\bM o=true/\iu m (-1) ls=iu m last (ls.drop i)) ⟨-1,none,rfl,rfl,rfl⟩ ?_ ?_
 ·rintro i l _ hi ⟨last,o,rfl,ho,e⟩;have hd:ls.drop i=l::ls.drop (i + 1):=by
   rw [List.drop_eq_getElem_cons (aB hi)];rw [RS (aB hi)] at hi;rw [Option.some.inj hi]
  rw [hd,iu] at e;simp_arith [ho];split
  ·rename_i h1;split
   ·rename_i h2;rw [e,S6 h2,Bool.and_false,Bool.false_and] at q;exact q
   ·rename_i h2;refine ⟨l,_,rfl,rfl,?_⟩;rw [e,Rq h1,Rq (Uj h2),Bool.true_and,Bool.true_and]
  ·rename_i h1;rw [e,S6 h1,Bool.false_and,Bool.false_and] at q;exact q
 ·rintro _ ⟨last,o,rfl,ho,e⟩;rw [List.drop_length,iu] at e;rw [e] at q;subst_eqs;exact q
theorem vX {m:Nat}:∀ {ls:Uq}{last:Int},iu m last (ls.map fun n:Nat=>(n:Int))=true↔(ls.Pairwise (· < ·)/\(∀ l∈ls,l < m)/\∀ l∈ls,last < (l:Int))
 | [],last=>by simp [iu]
 | a::ls,last=>by
  rw [RZ,iu,RK,RK,SJ,SJ,vX,List.pairwise_cons];constructor
  ·rintro ⟨⟨h1,h2⟩,h3,h4,h5⟩;refine ⟨⟨fun b hb=>by have:=h5 b hb;omega,h3⟩,fun l hl=>?_,fun l hl=>?_⟩
   ·rcases RJ.mp hl with rfl | hl
    ·omega
    ·exact h4 l hl
   ·rcases RJ.mp hl with rfl | hl
    ·exact h1
    ·have:=h5 l hl;omega
  ·rintro ⟨⟨h1,h2⟩,h3,h4⟩;have:=h3 a RA;exact ⟨⟨h4 a RA,by omega⟩,h2,fun l hl=>h3 l (RG _ hl),fun l hl=>by have:=h1 l hl;omega⟩
def BQ {m:Nat}(h:cH m ls):iu m (-1) (ls.map fun n:Nat=>(n:Int))=true:=vX.mpr ⟨h.up,h.lt,fun l _=>by omega⟩
def JC:nD ls=.list ((ls.map fun n:Nat=>(n:Int)).map .int):=by
 show PyData.list _=_;rw [RT];rfl
def lS:aZ:=fun ds Q x=>∃ m es,∃ ls:Ur,ds=[wD m es,.list (ls.map .int)]/\(iu m (-1) ls=true->Q [] .sh .none)/\(iu m (-1) ls=false->x "NoLooks" .none)
def LB:∀ ds Q x,lS ds Q x->fK Ca (aT [false,false] Q x) (ini [false,false] ds++List.replicate 0 none):=by
 rintro _ Q x ⟨m,es,ls,rfl,q,r⟩;unfold fK;subst_eqs;refine ⟨m,es,ls,rfl,?_⟩;subst_eqs;split
 ·rename_i h;exact r h
 ·rename_i h;exact q (by simpa using h)
def uO {m:Nat}(h:cH m ls)(q:Q [] .sh .none):lS [wD m es,nD ls] Q x:=⟨m,es,ls.map fun n:Nat=>(n:Int),by rw [JC],fun _=>q,fun z=>by rw [BQ h] at z;cases z⟩
def aq (es:UQ)(ls:Uq)(t:Th):Uq:=ls.map fun p=>td es p t
def qJ:aZ:=fun ds Q x=>∃ m es ls,∃ ts:List Th,ds=[wD m es,nD ls,.list (ts.map cz)]/\dF m es/\(∀ p∈ls,p < m)/\ls.length<=1000/\(∀ t∈ts,TV m t)/\ts.length<=1860/\Q [] (.ow false) (.list (ts.map fun t=>nD (aq es ls t)))
def Ml:∀ ds Q x,qJ ds Q x->pT vE vD (aT [false,false,false] Q x) (ini [false,false,false] ds++List.replicate 3 none):=by
 rintro _ Q x ⟨m,es,ls,ts,rfl,W,hl,fl,ht,ft,q⟩;unfold pT;subst_eqs;refine f9 (fun p=>tY m es p) rfl (fun p hp I hI=>?_) ?_ (by omega)
 ·subst_eqs;refine ⟨m,es,p,rfl,W,fun k e hk=>?_,fun z=>absurd ⟨by omega,by have:=hl p hp;omega⟩ z⟩
  have e:p=k:=by omega
  subst e;subst_eqs;exact hI _ rfl
 ·subst_eqs;refine vM (fun E=>∃ k:Kd,E=[some (.sh,wD m es),some (.sh,nD ls),some (.sh,.list (ts.map cz)),some (k,.list (ls.map fun p=>tY m es p)),none,none]/\k.fz=true) (fun t=>nD (aq es ls t)) rfl ⟨_,rfl,rfl⟩ ?_ ?_ (by omega)
  ·rintro t hti _ ⟨k,rfl,hk⟩ I hI;simp_arith [hk];refine f9 (fun p=>iD (td es p t)) rfl (fun p hp I2 hI2=>?_) ?_ (by omega)
   ·subst_eqs;refine ⟨m,es,p,t,rfl,ht t hti,?_⟩;subst_eqs;exact hI2 _ rfl
   ·subst_eqs;have e:nD (aq es ls t)=.list (ls.map fun p=>iD (td es p t)):=by
     unfold aq;show PyData.list _=_;rw [RT];rfl
    rw [e] at hI;exact hI _ _ rfl ⟨.sh,rfl,rfl⟩
  ·rintro _ ⟨k,rfl,hk⟩;subst_eqs;exact q
inductive Any where
 | nu (i:Int) | pr (a b:Int)
def D8:Any->PyData
 | .nu i=>.int i
 | .pr a b=>.tuple [.int a,.int b]
def GL:Th->Any
 | .inl x=>.nu x
 | .inr e=>.pr e.1 e.2
def MQ:D8 (GL t)=cz t:=by cases t <;> rfl
def IY (m:Nat)(es:UQ):Any->Bool
 | .nu i=>decide (0<=i) && decide (i < m)
 | .pr a b=>decide (PyData.tuple [.int a,.int b]∈es.map cV)
def M6 {m:Nat}(h:t∈av k m es):IY m es (GL t)=true:=by
 rcases RM.mp h with h | h
 ·split at h
  ·cases h
  ·obtain ⟨x,hx,rfl⟩:=RI.mp h;have:=Ro.mp hx;show (decide (0<=(x:Int)) && decide ((x:Int) < m))=true;rw [Rq (by omega),Rq (by omega)]
   rfl
 ·split at h
  ·cases h
  ·obtain ⟨e,he,rfl⟩:=RI.mp h;exact Rq (RI.mpr ⟨e,he,rfl⟩)
def K9 {es:UQ}:(es.all fun a=>dl 8 (cV a))=true:=by
 rw [RP];intro e _;rfl
def Ct:aZ:=fun ds Q x=>∃ m es t,ds=[wD m es,D8 t]/\Q [] .sh (.bool (IY m es t))
def ML:∀ ds Q x,Ct ds Q x->oS (aT [false,false] Q x) (ini [false,false] ds++List.replicate 0 none):=by
 rintro _ Q x ⟨m,es,t,rfl,q⟩;unfold oS;cases t with
 | nu i =>
  simp_arith [D8];have q:Q [] .sh (.bool (decide (0<=i) && decide (i < (m:Int)))):=q;split
  ·rename_i h;rw [Rq h,Bool.true_and] at q;exact q
  ·rename_i h;rw [S6 h,Bool.false_and] at q;exact q
 | pr a b =>
  simp_arith [D8,K9];exact ⟨rfl,q⟩
def yN:aZ:=fun ds Q x=>∃ m es t,ds=[wD m es,D8 t]/\(IY m es t=true->Q [] .sh .none)/\(IY m es t=false->x "NoThing" .none)
def Lw:∀ ds Q x,yN ds Q x->gQ Ct (aT [false,false] Q x) (ini [false,false] ds++List.replicate 0 none):=by
 rintro _ Q x ⟨m,es,t,rfl,q,r⟩;unfold gQ;subst_eqs;refine ⟨m,es,t,rfl,?_⟩;subst_eqs;split
 ·rename_i h;exact r h
 ·rename_i h;exact q (by simpa using h)
def Fw {m:Nat}(h:t∈av k m es)(q:Q [] .sh .none):yN [wD m es,cz t] Q x:=⟨m,es,GL t,by rw [MQ],fun _=>q,fun z=>by rw [M6 h] at z;cases z⟩
def j8:Uq->Uq->Nat
 | a::as,b::bs=>(if a=b then 0 else 1) + j8 as bs
 | _,_=>0
theorem u7:∀ {a b:Uq},((a.zip b).filterMap fun p=>if p.1=p.2 then none else some (iD p.1)).length=j8 a b
 | [],_=>rfl
 | _::_,[]=>rfl
 | a::as,b::bs=>by
  rw [List.zip_cons_cons,Sv,j8]
  by_cases h:a=b
  ·simp only [h,if_true];rw [u7,Nat.zero_add]
  ·simp only [h,SW,Ru];rw [u7,Nat.add_comm]
def B8:aZ:=fun ds Q x=>∃ a b,ds=[nD a,nD b]/\a.length<=1000/\Q [] .sh (iD (j8 a b))
def LS:∀ ds Q x,B8 ds Q x->jQ (aT [false,false] Q x) (ini [false,false] ds++List.replicate 2 none):=by
 rintro _ Q x ⟨a,b,rfl,ha,q⟩;unfold jQ;subst_eqs;refine g9 (fun p=>if p.1=p.2 then none else some (iD p.1)) rfl (fun p hp I hI=>?_) ?_ (by rw [List.length_zip];omega)
 ·subst_eqs;split
  ·rename_i h;rw [if_neg h] at hI;exact hI _ rfl
  ·rename_i h;rw [if_pos (Uj h)] at hI;exact hI _ rfl
 ·subst_eqs;rw [u7];exact q
def uJ (a:Nat):Option Int->Nat
 | none=>0
 | some i=>if i=a then 0 else 1
def jq:Uq->List (Option Int)->Nat
 | a::as,b::bs=>uJ a b + jq as bs
 | _,_=>0
def aD:Option Int->PyData
 | none=>.none
 | some i=>.int i
def x8:aZ:=fun ds Q x=>∃ a b,ds=[nD a,.list (b.map aD)]/\a.length<=1000/\Q [] .sh (iD (jq a b))
def NH:∀ ds Q x,x8 ds Q x->kF (aT [false,false] Q x) (ini [false,false] ds++List.replicate 2 none):=by
 rintro _ Q x ⟨a,b,rfl,ha,q⟩;unfold kF;subst_eqs;refine g9 (fun p:Nat×Option Int=>match p.2 with | none=>none | some i=>if i=p.1 then none else some (iD p.1)) rfl (fun p hp I hI=>?_) ?_ (by rw [List.length_zip];omega)
 ·obtain ⟨u,o⟩:=p;have:=hI;cases o with
  | none =>
   simp_arith [aD];exact hI _ rfl
  | some i =>
   simp_arith [aD];simp only at hI;split
   ·rename_i h;rw [if_neg h] at hI;exact hI _ rfl
   ·rename_i h;rw [if_pos (Uj h)] at hI;exact hI _ rfl
 ·subst_eqs;have:∀ {a:Uq}{b:List (Option Int)},((a.zip b).filterMap fun p=>match p.2 with | none=>none | some i=>if i=p.1 then none else some (iD p.1)).length=jq a b:=by
   intro a
   induction a with
   | nil=>intro b;cases b <;> rfl
   | cons u a ih =>
    intro b;cases b with
    | nil=>rfl
    | cons o b =>
     rw [List.zip_cons_cons,Sv,jq];cases o with
     | none=>rw [uJ,Nat.zero_add];exact ih
     | some i =>
      by_cases h:i=u
      ·simp only [uJ,h,if_true,Nat.zero_add];exact ih
      ·simp only [uJ,h,SW,Ru];rw [Nat.add_comm];exact congrArg _ ih
  rw [this];exact q
def iX (cs:UJ):Uq:=cs.zipIdx.flatMap fun p=>(cs.drop (p.2 + 1)).map fun o=>j8 p.1 o
def Hl (cs:UJ):(iX cs).length<=cs.length * cs.length:=by
 unfold iX;have:∀ (l:List (List Nat×Nat)),(l.flatMap fun p=>(cs.drop (p.2 + 1)).map fun o=>j8 p.1 o).length<=l.length * cs.length:=by
  intro l
  induction l with
  | nil=>simp
  | cons a l ih =>
   rw [List.flatMap_cons,RW,RD,Sy,Ru,Nat.succ_mul];omega
 have h:=this cs.zipIdx;rw [List.length_zipIdx] at h;exact h
def jO {n:Nat}:n∈iX cs↔∃ (i j:Nat)(a b:Uq),i < j/\cs[i]?=some a/\cs[j]?=some b/\n=j8 a b:=by
 unfold iX;rw [S9];constructor
 ·rintro ⟨⟨a,i⟩,h1,h2⟩;obtain ⟨b,h3,rfl⟩:=RI.mp h2;rw [List.mem_zipIdx_iff_getElem?] at h1;obtain ⟨j,hj⟩:=Si.mp h3;rw [List.getElem?_drop] at hj;exact ⟨i,i + 1 + j,a,b,by omega,h1,hj,rfl⟩
 ·rintro ⟨i,j,a,b,l,h1,h2,rfl⟩;refine ⟨(a,i),List.mem_zipIdx_iff_getElem?.mpr h1,RI.mpr ⟨b,?_,rfl⟩⟩;refine Si.mpr ⟨j - (i + 1),?_⟩;rw [List.getElem?_drop];show cs[i + 1 + (j - (i + 1))]?=_;rw [show i + 1 + (j - (i + 1))=j from by omega]
  exact h2
def eK (cs:UJ)(d:PyData):Prop:=(iX cs=[]/\d=.none)\/∃ s:Nat,d=iD s/\s∈iX cs/\∀ n∈iX cs,s<=n
def uZ:aZ:=fun ds Q x=>∃ m es ls k,ds=[wD m es,nD ls,.str k]/\dF m es/\cH m ls/\∀ d,eK ((av k m es).map (aq es ls)) d->Q [] .sh d
def MY:∀ ds Q x,uZ ds Q x->kD lS qJ jh B8 (aT [false,false,false] Q x) (ini [false,false,false] ds++List.replicate 5 none):=by
 rintro _ Q x ⟨m,es,ls,k,rfl,W,L,q⟩;have hm:=W.le;have hlen:=iR (k:=k) W;unfold kD;subst_eqs;refine uO L ?_;subst_eqs;refine ⟨m,es,k,rfl,W,?_⟩;subst_eqs;refine ⟨m,es,ls,av k m es,rfl,W,L.lt,by have:=L.len;omega,mq W.gd,hlen,?_⟩
 have e:(av k m es).map (fun t=>nD (aq es ls t))=((av k m es).map (aq es ls)).map nD:=by rw [RT];rfl
 rw [e];have hc:∀ c∈(av k m es).map (aq es ls),c.length<=1000:=fun c hc=>by
  obtain ⟨t,_,rfl⟩:=RI.mp hc;unfold aq;rw [RD];have:=L.len;omega
 have hcl:((av k m es).map (aq es ls)).length<=1860:=by rw [RD];exact hlen
 generalize (av k m es).map (aq es ls)=cs at q hc hcl ⊢;have hcn:=Hl cs;have:=Nat.mul_le_mul hcl hcl;have ef:(cs.zipIdx.flatMap fun p=>(cs.drop (p.2 + 1)).map fun o=>iD (j8 p.1 o))=(iX cs).map iD:=by
  unfold iX;rw [List.map_flatMap];congr 1;funext p;rw [RT];rfl
 subst_eqs;refine JM (most:=16777216) (fun E=>∃ (o5 o6 o7:Uv),E=[some (.sh,wD m es),some (.sh,nD ls),some (.sh,.str k),some (.sh,.list (cs.map nD)),none,o5,o6,o7]/\bM o5=true/\bM o6=true/\bM o7=true) (fun p=>(cs.drop (p.2 + 1)).map fun o=>iD (j8 p.1 o)) rfl ⟨none,none,none,rfl,rfl,rfl,rfl⟩ ?_ ?_ (by rw [ef,RD];omega)
 ·rintro ⟨c,i⟩ hci _ ⟨o5,o6,o7,rfl,h5,h6,h7⟩ ys I hys hI;have hc1:=hc c (List.fst_mem_of_mem_zipIdx hci);have e1:(i:Int) + 1=((i + 1:Nat):Int):=rfl;simp_arith [h5,h6,e1];refine L0 (fun E=>∃ (o7:Uv),E=[some (.sh,wD m es),some (.sh,nD ls),some (.sh,.str k),some (.sh,.list (cs.map nD)),none,some (.sh,iD i),some (.sh,nD c),o7]/\bM o7=true) (fun o=>iD (j8 c o)) ⟨o7,rfl,h7⟩ ?_ ?_ (by simp only [RD] at hys;exact hys)
  ·rintro o ho _ ⟨o7,rfl,h7⟩ J hJ;simp_arith [h7];refine ⟨c,o,rfl,hc1,?_⟩;subst_eqs;exact hJ _ ⟨_,rfl,rfl⟩
  ·rintro _ ⟨o7,rfl,h7⟩;exact hI _ ⟨_,_,_,rfl,rfl,rfl,h7⟩
 ·rintro _ ⟨o5,o6,o7,rfl,h5,h6,h7⟩;rw [ef];simp_arith [h5,h6,h7];refine AH (fun e0=>?_) fun s hs ls=>?_
  ·subst_eqs;exact q _ (.inl ⟨e0,rfl⟩)
  ·subst_eqs;exact q _ (.inr ⟨s,rfl,hs,ls⟩)
def CS:aZ:=fun ds Q x=>∃ m es ls k,∃ (hs:List (Option Int)) (lies:Int),ds=[wD m es,nD ls,.str k,.list (hs.map aD),.int lies]/\dF m es/\cH m ls/\hs.length=ls.length/\Q [] (.ow false) (.list (((av k m es).filter fun t=>decide ((jq (aq es ls t) hs:Int)<=lies)).map cz))
theorem eV {α:Type}{f:α->PyData}{p:α->Bool}:∀ {l:List α},(l.filterMap fun t=>if p t=true then some (f t) else none)=(l.filter p).map f
 | []=>rfl
 | a::l=>by
  rw [Sv,TZ];cases h:p a with
  | true=>simp only [if_true];rw [eV];rfl
  | false=>simp only [if_neg (RX)];exact eV
theorem zJ {α β:Type}{f:α->β}:∀ {l:List α},l.zip (l.map f)=l.map fun a=>(a,f a)
 | []=>rfl
 | a::l=>by rw [RZ,List.zip_cons_cons,zJ];rfl
def Mg:∀ ds Q x,CS ds Q x->iy lS jh qJ x8 (aT [false,false,false,false,false] Q x) (ini [false,false,false,false,false] ds++List.replicate 4 none):=by
 rintro _ Q x ⟨m,es,ls,k,hs,lies,rfl,W,L,hl,q⟩;have hm:=W.le;have hlen:=iR (k:=k) W;have hL:=L.len;unfold iy;subst_eqs;refine uO L ?_;simp_arith [hl];refine ⟨m,es,k,rfl,W,?_⟩;subst_eqs;refine ⟨m,es,ls,av k m es,rfl,W,L.lt,by omega,mq W.gd,hlen,?_⟩
 subst_eqs;have fin:∀ I:Ut,(I [some (.sh,wD m es),some (.sh,nD ls),some (.sh,.str k),some (.sh,.list (hs.map aD)),some (.sh,.int lies),some (.sh,.list ((av k m es).map cz)),some (.sh,.list ((av k m es).map fun t=>nD (aq es ls t))),none,none] (.ow false) (.list (((av k m es).filter fun t=>decide ((jq (aq es ls t) hs:Int)<=lies)).map cz)))->rY [7,8] (((av k m es).zip (av k m es)).map fun p=>PyData.tuple [cz p.1,nD (aq es ls p.2)]) (Tg.tp [7,8]) (bG (ah Ax [Arg.ev (aA x8 [false,false] [Arg.pk 8,Arg.pk 3]),Arg.pk 4])) (bL 16777216 (aX 7)) [some (.sh,wD m es),some (.sh,nD ls),some (.sh,.str k),some (.sh,.list (hs.map aD)),some (.sh,.int lies),some (.sh,.list ((av k m es).map cz)),some (.sh,.list ((av k m es).map fun t=>nD (aq es ls t))),none,none] I:=by
  intro I hI;have e:(((av k m es).zip (av k m es)).map fun p=>PyData.tuple [cz p.1,nD (aq es ls p.2)])=(av k m es).map fun t=>PyData.tuple [cz t,nD (aq es ls t)]:=by
   have:=zJ (f:=fun t:Th=>t) (l:=av k m es)
   rw [List.map_id'] at this;rw [this,RT];rfl
  rw [e];refine g9 (fun t=>if (decide ((jq (aq es ls t) hs:Int)<=lies))=true then some (cz t) else none) rfl (fun t ht J hJ=>?_) ?_ (by omega)
  ·subst_eqs;refine ⟨aq es ls t,hs,rfl,by unfold aq;rw [RD];omega,?_⟩
   simp only [dv,dw,dx,dy,dz,Nat.reduceBEq] at hJ ⊢;split
   ·rename_i h;rw [if_pos h] at hJ;exact hJ _ rfl
   ·rename_i h;rw [if_neg h] at hJ;exact hJ _ rfl
  ·rw [eV];exact hI
 split
 ·refine c7 rfl ?_;subst_eqs;refine fin _ ?_;subst_eqs;exact q
 ·refine c7 rfl ?_;subst_eqs;refine fin _ ?_;subst_eqs;exact q
end PB
namespace Gr
abbrev ds (es:UQ) (p x:Nat):Nat:=dst (aJ es) p x
section
variable {m:Nat}{es:UQ}
def dg.is (cn:dg m es){p x:Nat}(hp:p < m)(hx:x < m):n9 (aJ es) p x (ds es p x):=let ⟨_,h⟩:=cn p hp x hx;Nj h
def b8 {p:Nat}:ds es p p=0:=uC ⟨.zero,fun e he=>absurd he (Nat.not_lt_zero e)⟩
def dg.le (cn:dg m es){p x d:Nat}(hp:p < m)(hx:x < m)(h:R (aJ es) p d x):ds es p x<=d:=by
 rcases SG d (ds es p x) with l | l
 ·exact absurd h ((cn.is hp hx).2 d l)
 ·exact l
def dg.fE (cn:dg m es){p x y:Nat}(hp:p < m)(hx:x < m)(hy:y < m):ds es p y<=ds es p x + ds es x y:=cn.le hp hy ((cn.is hp hx).1.trans (cn.is hx hy).1)
def dg.sy (cn:dg m es){p x:Nat}(hp:p < m)(hx:x < m):ds es p x=ds es x p:=by
 have h1:=cn.le hx hp ((cn.is hp hx).1.symm cL);have h2:=cn.le hp hx ((cn.is hx hp).1.symm cL);omega
def dg.zero (cn:dg m es){p x:Nat}(hp:p < m)(hx:x < m)(h:ds es p x=0):x=p:=by
 have:=(cn.is hp hx).1;rw [h] at this;cases this;rfl
def dg.yK (cn:dg m es){p x y:Nat}(hp:p < m)(hx:x < m)(hy:y < m)(h:aJ es x y):ds es p y<=ds es p x + 1:=cn.le hp hy ((cn.is hp hx).1.step h)
theorem dg.pred (cn:dg m es)(gd:Good m es){p x:Nat}(hp:p < m)(hx:x < m)(h:x≠p):∃ y,y < m/\aJ es x y/\ds es p y + 1=ds es p x:=by
 have hI:=cn.is hp hx;cases e:ds es p x with
 | zero=>exact absurd (cn.zero hp hx e) h
 | succ d =>
  rw [e] at hI;obtain ⟨y,hy,a⟩:=hI.pred;exact ⟨y,(gd.cN a).1,cL _ _ a,by rw [show ds es p y=d from uC hy]⟩
structure Tree (m:Nat)(es:UQ):Prop where
 gd:Good m es
 cn:dg m es
 len:es.length + 1=m
def jw (x y:Nat):Nat×Nat:=(min x y,max x y)
def ou (gd:Good m es){x y:Nat}(h:aJ es x y):jw x y∈es:=by
 rcases h with h | h
 ·have:=gd.lt _ h;have:x < y/\y < m:=this;have e:jw x y=(x,y):=by unfold jw;rw [TY (by omega),Nat.max_eq_right (by omega)]
  rw [e];exact h
 ·have:=gd.lt _ h;have:y < x/\x < m:=this;have e:jw x y=(y,x):=by unfold jw;rw [U0 (by omega),Nat.max_eq_left (by omega)]
  rw [e];exact h
def sub_len' {α:Type} [DecidableEq α]{l:List α}(nd:l.Nodup):∀ {k:List α},(∀ x∈l,x∈k)->l.length<=k.length:=by
 induction l with
 | nil=>intro k _;exact S8 _
 | cons a l ih =>
  intro k h;have ha:=h a RA;have nd':=S7.mp nd;have:=ih nd'.2 (k:=k.erase a) fun x hx=>(List.mem_erase_of_ne fun e=>nd'.1 (by rw [<- e];exact hx)).mpr (h x (RG _ hx))
  rw [List.length_erase_of_mem ha] at this;have:=Um ha;rw [Ru];omega
def MZ {α:Type} [DecidableEq α]{l k:List α}(nd:l.Nodup)(h:∀ x∈l,x∈k)(hl:k.length<=l.length):∀ x∈k,x∈l:=by
 intro x hx
 by_cases c:x∈l
 ·exact c
 ·exfalso;have:=sub_len' nd (k:=k.erase x) fun y hy=>(List.mem_erase_of_ne fun e=>c (by rw [<- e];exact hy)).mpr (h y hy)
  rw [List.length_erase_of_mem hx] at this;have:=Um hx;omega
open Classical in
def Tree.dZ (T:Tree m es){p:Nat}(hp:p < m):∃ par:Nat->Nat,(∀ x,x < m->x≠p->par x < m/\aJ es x (par x)/\ds es p (par x) + 1=ds es p x)/\∀ x y,aJ es x y->(x≠p/\y=par x)\/(y≠p/\x=par y):=by
 have ch:∀ x,∃ y,x < m->x≠p->y < m/\aJ es x y/\ds es p y + 1=ds es p x:=fun x=>by
  by_cases c:x < m/\x≠p
  ·obtain ⟨y,h1,h2,h3⟩:=T.cn.pred T.gd hp c.1 c.2;exact ⟨y,fun _ _=>⟨h1,h2,h3⟩⟩
  ·exact ⟨0,fun h1 h2=>absurd ⟨h1,h2⟩ c⟩
 have ⟨par,hpar⟩:∃ par:Nat->Nat,∀ x,x < m->x≠p->par x < m/\aJ es x (par x)/\ds es p (par x) + 1=ds es p x:=⟨fun x=>Classical.choose (ch x),fun x h1 h2=>Classical.choose_spec (ch x) h1 h2⟩
 refine ⟨par,hpar,fun x y h=>?_⟩
 have two:∀ {a b c d:Nat},jw a b=jw c d->(a=c/\b=d)\/(a=d/\b=c):=fun {a b c d} e=>by
  have e1:min a b=min c d:=congrArg Prod.fst e;have e2:max a b=max c d:=congrArg Prod.snd e;omega
 have mem:∀ z,z∈(List.range m).filter (fun x=>decide (x≠p))↔z < m/\z≠p:=fun z=>by rw [S5,Ro,SJ]
 have nd0:((List.range m).filter fun x=>decide (x≠p)).Nodup:=List.Sublist.nodup T8 Sl
 have len:es.length<=(((List.range m).filter fun x=>decide (x≠p)).map fun x=>jw x (par x)).length:=by
  rw [RD];have:=sub_len' (l:=List.range m) Sl (k:=p::(List.range m).filter fun x=>decide (x≠p)) fun x hx=>by
   by_cases c:x=p
   ·rw [c];exact RA
   ·exact RG _ ((mem x).mpr ⟨Ro.mp hx,c⟩)
  rw [Rm,Ru] at this;have:=T.len;omega
 have nd:(((List.range m).filter fun x=>decide (x≠p)).map fun x=>jw x (par x)).Nodup:=by
  refine List.Pairwise.map _ (R:=fun a b=>a≠b/\(a < m/\a≠p)/\(b < m/\b≠p)) (fun a b hab e=>?_) (List.Pairwise.imp_of_mem (R:=fun a b=>a≠b) (fun {a b} ha hb h=>⟨h,(mem a).mp ha,(mem b).mp hb⟩) nd0)
  obtain ⟨ne,ha,hb⟩:=hab;obtain ⟨_,_,h1⟩:=hpar a ha.1 ha.2;obtain ⟨_,_,h2⟩:=hpar b hb.1 hb.2;rcases two e with ⟨z,_⟩ | ⟨z1,z2⟩
  ·exact ne z
  ·rw [z2] at h1;rw [<- z1] at h2;omega
 have inn:=MZ nd (fun e he=>by
  obtain ⟨z,hz,rfl⟩:=RI.mp he;obtain ⟨h1,h2⟩:=(mem z).mp hz;exact ou T.gd (hpar z h1 h2).2.1) len
 obtain ⟨z,hz,e⟩:=RI.mp (inn _ (ou T.gd h));have hz:=(mem z).mp hz;rcases two e with ⟨e1,e2⟩ | ⟨e1,e2⟩
 ·subst e1;exact .inl ⟨hz.2,e2.symm⟩
 ·subst e1;exact .inr ⟨hz.2,e2.symm⟩
def Tree.near (T:Tree m es){p x y:Nat}(hp:p < m)(h:aJ es x y):ds es p x=ds es p y + 1\/ds es p y=ds es p x + 1:=by
 obtain ⟨par,h1,h2⟩:=T.dZ hp;obtain ⟨hx,hy⟩:=T.gd.cN h;rcases h2 x y h with ⟨n,rfl⟩ | ⟨n,rfl⟩
 ·exact .inl (h1 x hx n).2.2.symm
 ·exact .inr (h1 y hy n).2.2.symm
def Tree.one (T:Tree m es){p x y z:Nat}(hp:p < m)(h:aJ es x y)(g:aJ es x z)(hy:ds es p x=ds es p y + 1)(hz:ds es p x=ds es p z + 1):y=z:=by
 obtain ⟨par,h1,h2⟩:=T.dZ hp;obtain ⟨hx,hy'⟩:=T.gd.cN h;have hz':=(T.gd.cN g).2;have key:∀ w,aJ es x w->w < m->ds es p x=ds es p w + 1->w=par x:=fun w a hw e=>by
  rcases h2 x w a with ⟨_,r⟩ | ⟨n,r⟩
  ·exact r
  ·have:=(h1 w hw n).2.2;rw [<- r] at this;omega
 rw [key y h hy' hy,key z g hz' hz]
def bP (es:UQ) (p n x:Nat):Prop:=ds es n x + 1=ds es p x
def Tree.wM (T:Tree m es){p n x:Nat}(hx:x < m)(h:aJ es p n):bP es p n x\/ds es n x=ds es p x + 1:=by
 obtain ⟨hp,hn⟩:=T.gd.cN h;have:=T.near hx h;unfold bP;rw [T.cn.sy hn hx,T.cn.sy hp hx];omega
def Tree.lR (T:Tree m es){p n k x:Nat}(hx:x < m)(h:aJ es p n)(g:aJ es p k)(hn:bP es p n x)(hk:bP es p k x):n=k:=by
 obtain ⟨hp,hn'⟩:=T.gd.cN h;have hk':=(T.gd.cN g).2;unfold bP at hn hk;rw [T.cn.sy hn' hx,T.cn.sy hp hx] at hn;rw [T.cn.sy hk' hx,T.cn.sy hp hx] at hk;exact T.one hx h g (by omega) (by omega)
def Tree.lO (T:Tree m es){p n x y:Nat}(hp:p < m)(hn:n < m)(h:aJ es p n)(hb:bP es p n x)(a:aJ es x y)(ne:y≠p):bP es p n y:=by
 obtain ⟨hx,hy⟩:=T.gd.cN a;unfold bP at hb ⊢;rcases T.wM hy h with z | z
 ·exact z
 ·exfalso;have h1:=T.near hp a;have h2:=T.near hn a;have e1:ds es p y + 1=ds es p x:=by omega
  have e2:ds es n y=ds es n x + 1:=by omega
  by_cases c:x=n
  ·subst c;rw [b8] at hb;exact ne (T.cn.zero hp hy (by omega))
  ·obtain ⟨z,hz,b,e3⟩:=T.cn.pred T.gd hn hx c;have h5:=T.cn.fE hp hn hz;have h6:ds es p n=1:=by
    have:=T.near hp h;rw [b8] at this;omega
   have h7:=T.near hp b;have:=T.one hp a b (by omega) (by omega)
   subst this;omega
def Tree.dn (T:Tree m es){p n:Nat}(hp:p < m)(h:aJ es p n):ds es p n=1:=by
 have:=T.near hp h;rw [b8] at this;omega
def Tree.Hh (T:Tree m es){p n x:Nat}(hp:p < m)(hx:x < m)(h:aJ es p n)(hb:bP es p n x)(ne:x≠n):∃ y,y < m/\aJ es y x/\bP es p n y/\ds es p x=ds es p y + 1/\ds es n y + 1=ds es n x:=by
 obtain ⟨_,hn⟩:=T.gd.cN h;obtain ⟨y,hy,a,e⟩:=T.cn.pred T.gd hn hx ne;have h1:=T.cn.fE hp hn hy;have h2:=T.dn hp h;have h3:=T.near hp a;unfold bP at hb ⊢;exact ⟨y,hy,cL _ _ a,by omega,by omega,e⟩
def pA (T:Tree m es){p n:Nat}(hp:p < m)(h:aJ es p n):bP es p n n:=by
 unfold bP;rw [b8,T.dn hp h]
def Tree.par (T:Tree m es){x u d v:Nat}(hx:x < m)(h:R (aJ es) u d v):(ds es x v) % 2=(ds es x u + d) % 2:=by
 induction h with
 | zero=>rfl
 | step _ a ih =>
  have:=T.near hx a;omega
def Tree.walk (T:Tree m es){l w b:Nat}(hl:l < m)(a:aJ es w b)(nl:¬ bP es w b l){d v:Nat}(h:R (aJ es) l d v)(hv:bP es w b v):ds es l w + 1 + ds es b v<=d:=by
 obtain ⟨hw,hb⟩:=T.gd.cN a
 induction h with
 | zero=>exact absurd hv nl
 | @step d y v r c ih =>
  obtain ⟨hy,hv'⟩:=T.gd.cN c
  by_cases q:bP es w b y
  ·have:=ih q;have:=T.cn.yK hb hy hv' c;omega
  ·have e:y=w:=by
    by_cases z:y=w
    ·exact z
    ·exact absurd (T.lO hw hb a hv (cL _ _ c) z) q
   subst e;have e2:=T.lR hv' a c hv (pA T hw c);subst e2;have:=T.cn.le hl hw r;rw [b8];omega
def Tree.qX (T:Tree m es){l w b v:Nat}(hl:l < m)(hv':v < m)(a:aJ es w b)(nl:¬ bP es w b l)(hv:bP es w b v):ds es l v=ds es l w + 1 + ds es b v:=by
 obtain ⟨hw,hb⟩:=T.gd.cN a;have h1:=T.walk hl a nl (T.cn.is hl hv').1 hv;have h2:=T.cn.fE hl hw hv';have h3:=T.cn.fE hw hb hv';have h4:=T.dn hw a;omega
def cb (es:UQ)(ls:Uq) (p n:Nat):Nat:=(ls.filter fun l=>decide (ds es n l + 1=ds es p l)).length
def zX {ls:Uq}{p q r:Nat->Bool}(h1:∀ l∈ls,p l=true->r l=true)(h2:∀ l∈ls,q l=true->r l=true)(dj:∀ l∈ls,p l=true->q l=true->False):(ls.filter p).length + (ls.filter q).length<=(ls.filter r).length:=by
 induction ls with
 | nil=>exact RE _
 | cons a ls ih =>
  have ih:=ih (fun l hl=>h1 l (RG _ hl)) (fun l hl=>h2 l (RG _ hl)) fun l hl=>dj l (RG _ hl)
  have k1:=h1 a RA;have k2:=h2 a RA;have k3:=dj a RA;rw [TZ,TZ,TZ];cases e1:p a <;> cases e2:q a <;> cases e3:r a <;> simp_all <;> omega
def one_le {ls:Uq}{p r:Nat->Bool}(h1:∀ l∈ls,p l=true->r l=true):(ls.filter p).length<=(ls.filter r).length:=by
 have:=zX (q:=fun _=>false) h1 (fun l _ z=>by cases z) fun l _ _ z=>by cases z
 omega
end
end Gr
namespace PB
open Dv Gr
section
variable {m:Nat}{es:UQ}
def pt (es:UQ)(ls:Uq)(t u:Th):Nat:=(ls.filter fun l=>decide (td es l t≠td es l u)).length
def OZ:pt es ls t u<=ls.length:=Uo ..
def q8:pt es ls t u=pt es ls u t:=by
 unfold pt;congr 1;refine List.filter_congr fun l _=>?_
 by_cases c:td es l t=td es l u
 ·rw [S6 (by simpa using c),S6 (by simpa using c.symm)]
 ·rw [Rq c,Rq (Ne.symm c)]
def nQ:j8 (aq es ls t) (aq es ls u)=pt es ls t u:=by
 unfold pt aq
 induction ls with
 | nil=>rfl
 | cons l ls ih =>
  rw [RZ,RZ,j8,ih,TZ]
  by_cases c:td es l t=td es l u
  ·rw [if_pos c,if_neg (by simpa using c),Nat.zero_add]
  ·rw [if_neg c,if_pos (by simpa using c),Ru,Nat.add_comm]
def EZ (h:∀ l∈ls,td es l t≠td es l u):pt es ls t u=ls.length:=by
 unfold pt;rw [List.filter_eq_self.mpr fun l hl=>Rq (h l hl)]
theorem mid (T:Tree m es){u v:Nat}(hu:u < m)(hv:v < m):∀ {i j:Nat},ds es u v=i + j->∃ w,w < m/\ds es u w=i/\ds es w v=j
 | i,0,h=>⟨v,hv,by omega,b8⟩
 | i,j + 1,h=>by
  obtain ⟨w,hw,h1,h2⟩:=mid T hu hv (i:=i + 1) (j:=j) (by omega)
  obtain ⟨y,hy,a,e⟩:=T.cn.pred T.gd hu hw fun z=>by rw [z,b8] at h1;omega
  have h3:=T.cn.fE hy hw hv;have h4:=T.dn hy (cL _ _ a);have h5:=T.cn.fE hu hy hv;exact ⟨y,hy,by omega,by omega⟩
def wJ (T:Tree m es){w a l u v:Nat}(hu:u < m)(hv:v < m)(hl:l < m)(h:aJ es w a)(hb:bP es w a l)(nv:¬ bP es w a v)(hle:ds es a u<=ds es w v):ds es l u < ds es l v:=by
 obtain ⟨hw,ha⟩:=T.gd.cN h;have h1:=T.qX hv hl h nv hb;have h2:=T.cn.fE hl ha hu;rw [T.cn.sy hl ha] at h2;rw [T.cn.sy hl hv];rw [T.cn.sy hv hw] at h1;omega
def bd {w a l:Nat}(h:decide (ds es a l + 1=ds es w l)=true):bP es w a l:=Rn (p:=ds es a l + 1=ds es w l) h
def D6 (T:Tree m es)(hl:∀ l∈ls,l < m){w a b:Nat}(h:aJ es w a)(g:aJ es w b)(ne:a≠b)(ha:∀ l∈ls,bP es w a l->td es l t≠td es l u)(hb:∀ l∈ls,bP es w b l->td es l t≠td es l u):cb es ls w a + cb es ls w b<=pt es ls t u :=
 zX (fun l h1 h2=>Rq (ha l h1 (bd h2))) (fun l h1 h2=>Rq (hb l h1 (bd h2))) fun l h1 h2 h3=>ne (T.lR (hl l h1) h g (bd h2) (bd h3))
def Mu (T:Tree m es)(hl:∀ l∈ls,l < m){w a b:Nat}(h:aJ es w a)(g:aJ es w b)(ne:a≠b):cb es ls w a + cb es ls w b<=ls.length:=by
 have:=zX (ls:=ls) (p:=fun l=>decide (ds es a l + 1=ds es w l)) (q:=fun l=>decide (ds es b l + 1=ds es w l)) (r:=fun _=>true) (fun _ _ _=>rfl) (fun _ _ _=>rfl) fun l h1 h2 h3=>ne (T.lR (hl l h1) h g (bd h2) (bd h3))
 exact Rz this (Uo ..)
def Lg {w a:Nat}(ha:∀ l∈ls,bP es w a l->td es l t≠td es l u):cb es ls w a<=pt es ls t u:=one_le fun l h1 h2=>Rq (ha l h1 (bd h2))
def tZ (T:Tree m es)(hl:∀ l∈ls,l < m){u v:Nat}(hu:u < m)(hv:v < m)(ne:u≠v):pt es ls (.inl u) (.inl v)=ls.length\/∃ w a b,aJ es w a/\aJ es w b/\a≠b/\cb es ls w a + cb es ls w b<=pt es ls (.inl u) (.inl v):=by
 rcases Nat.mod_two_eq_zero_or_one (ds es u v) with e | e
 ·right
  obtain ⟨k,hk⟩:∃ k,ds es u v=k + k:=⟨ds es u v / 2,by omega⟩
  have k0:k≠0:=fun z=>ne (T.cn.zero hu hv (by omega)).symm
  obtain ⟨w,hw,h1,h2⟩:=mid T hu hv hk;have nwu:w≠u:=fun z=>by rw [z,b8] at h1;omega
  have nwv:w≠v:=fun z=>by rw [z,b8] at h2;omega
  obtain ⟨a,ha,aa,ea⟩:=T.cn.pred T.gd hu hw nwu;obtain ⟨b,hb,ab,eb⟩:=T.cn.pred T.gd hv hw nwv;rw [T.cn.sy hv hw] at eb;rw [T.cn.sy hv hb] at eb;rw [T.cn.sy hu ha] at ea;rw [T.cn.sy hu hw] at ea;have nab:a≠b:=fun z=>by
   subst z;have:=T.cn.fE hu ha hv;rw [T.cn.sy hu ha] at this;rw [T.cn.sy hu hw] at h1;omega
  have bu:bP es w a u:=ea;have bv:bP es w b v:=eb;rw [T.cn.sy hu hw] at h1;refine ⟨w,a,b,aa,ab,nab,D6 T hl aa ab nab (fun l hl' hb'=>?_) fun l hl' hb'=>?_⟩
  ·have:=wJ T hu hv (hl l hl') aa hb' (fun z=>nab (T.lR hv aa ab z bv)) (by omega)
   show ds es l u≠ds es l v;omega
  ·have:=wJ T hv hu (hl l hl') ab hb' (fun z=>nab (T.lR hu aa ab bu z)) (by omega)
   show ds es l u≠ds es l v;omega
 ·left
  refine EZ fun l hl'=>?_
  have:=T.par (hl l hl') (T.cn.is hu hv).1;show ds es l u≠ds es l v;intro z;rw [z] at this;omega
structure wC (es:UQ) (x y z t:Nat):Prop where
 xy:aJ es x y
 zt:aJ es z t
 fy:ds es z y=ds es z x + 1
 ft:ds es x t=ds es x z + 1
 ne:x=z->y≠t
def wC.swap (T:Tree m es){x y z t:Nat}(F:wC es x y z t):wC es z t x y:=⟨F.zt,F.xy,F.ft,F.fy,fun e z=>F.ne e.symm z.symm⟩
def tl (es:UQ) (l x y:Nat):Nat:=min (ds es l x) (ds es l y)
def vS {l x y:Nat}:tl es l x y=tl es l y x:=Nat.min_comm ..
def pC (T:Tree m es){x y z t w a l j:Nat}(F:wC es x y z t)(hl:l < m)(hw:w < m)(h:aJ es w a)(e0:ds es x z=j + j)(e1:ds es w z=j)(e2:ds es x w=j)(hb:bP es w a l)(hz:¬ bP es w a z)(ht:¬ bP es w a t)(ha:(j=0/\a=y)\/ds es a x + 1=j):tl es l x y < tl es l z t:=by
 obtain ⟨hx,hy⟩:=T.gd.cN F.xy;obtain ⟨hz',ht'⟩:=T.gd.cN F.zt;have ham:=(T.gd.cN h).2;have c1:=T.qX hz' hl h hz hb;have c2:=T.qX ht' hl h ht hb;have t1:=T.cn.fE hx hw ht';have ft:=F.ft;rw [T.cn.sy hz' hw,T.cn.sy hz' hl] at c1;rw [T.cn.sy ht' hw,T.cn.sy ht' hl] at c2;unfold tl;have hle:min (ds es l x) (ds es l y)<=ds es a l + (j - 1):=by
  rcases ha with ⟨j0,rfl⟩ | e
  ·rw [T.cn.sy hl ham];omega
  ·have:=T.cn.fE hl ham hx;rw [T.cn.sy hl ham] at this;omega
 omega
def Kn (T:Tree m es){x y z t:Nat}(F:wC es x y z t){j:Nat}(e:ds es x z=j + j):∃ w a b,w < m/\aJ es w a/\aJ es w b/\a≠b/\∀ l,l < m->(bP es w a l->tl es l x y < tl es l z t)/\(bP es w b l->tl es l z t < tl es l x y):=by
 obtain ⟨hx,hy⟩:=T.gd.cN F.xy;obtain ⟨hz,ht⟩:=T.gd.cN F.zt
 by_cases j0:j=0
 ·subst j0;have exz:=T.cn.zero hx hz e;subst exz;have nyt:=F.ne rfl;have ns:∀ c,c < m->¬ bP es z c z:=fun c _ q=>by unfold bP at q;rw [b8] at q;omega
  refine ⟨z,y,t,hz,F.xy,F.zt,nyt,fun l hl=>⟨fun hb=>?_,fun hb=>?_⟩⟩
  ·exact pC (j:=0) T F hl hz F.xy e b8 b8 hb (ns y hy) (fun q=>nyt (T.lR ht F.xy F.zt q (pA T hz F.zt))) (.inl ⟨rfl,rfl⟩)
  ·exact pC (j:=0) T (F.swap T) hl hz F.zt e b8 b8 hb (ns t ht) (fun q=>nyt (T.lR hy F.xy F.zt (pA T hz F.xy) q)) (.inl ⟨rfl,rfl⟩)
 ·obtain ⟨w,hw,h1,h2⟩:=mid T hx hz e;have nwx:w≠x:=fun q=>by rw [q,b8] at h1;omega
  have nwz:w≠z:=fun q=>by rw [q,b8] at h2;omega
  obtain ⟨a,ha,aa,ea⟩:=T.cn.pred T.gd hx hw nwx;obtain ⟨b,hb,ab,eb⟩:=T.cn.pred T.gd hz hw nwz;rw [T.cn.sy hz hb,T.cn.sy hz hw] at eb;rw [T.cn.sy hx ha] at ea;have ea':bP es w a x:=by unfold bP;rw [ea,T.cn.sy hx hw]
  have nab:a≠b:=fun q=>by
   subst q;have:=T.cn.fE hx ha hz;rw [T.cn.sy hx ha] at this;omega
  have ft:=F.ft;have fy:=F.fy;have nt:t≠w:=fun q=>by rw [q] at ft;omega
  have ny:y≠w:=fun q=>by rw [q,T.cn.sy hz hw,T.cn.sy hz hx] at fy;omega
  have bz:bP es w b z:=eb;have bt:bP es w b t:=T.lO hw hb ab bz F.zt nt;have by':bP es w a y:=T.lO hw ha aa ea' F.xy ny;refine ⟨w,a,b,hw,aa,ab,nab,fun l hl=>⟨fun q=>?_,fun q=>?_⟩⟩
  ·exact pC T F hl hw aa e h2 h1 q (fun r=>nab (T.lR hz aa ab r bz)) (fun r=>nab (T.lR ht aa ab r bt)) (.inr (by omega))
  ·exact pC T (F.swap T) hl hw ab (by rw [T.cn.sy hz hx];exact e) (by rw [T.cn.sy hw hx];exact h1) (by rw [T.cn.sy hz hw];exact h2) q (fun r=>nab (T.lR hx aa ab ea' r)) (fun r=>nab (T.lR hy aa ab by' r)) (.inr (by omega))
def KR (T:Tree m es){x y z t:Nat}(F:wC es x y z t)(e:ds es x z % 2=1){l:Nat}(hl:l < m):tl es l x y≠tl es l z t:=by
 obtain ⟨hx,hy⟩:=T.gd.cN F.xy;obtain ⟨hz,ht⟩:=T.gd.cN F.zt;have side:∀ {x y z t:Nat},wC es x y z t->ds es x z % 2=1->ds es l x=ds es l y + 1->tl es l x y≠tl es l z t:=fun {x y z t} F e q=>by
  obtain ⟨hx,hy⟩:=T.gd.cN F.xy;obtain ⟨hz,ht⟩:=T.gd.cN F.zt;have hb:bP es x y l:=by unfold bP;rw [T.cn.sy hy hl,T.cn.sy hx hl];omega
  have fy:=F.fy;have nz:¬ bP es x y z:=fun r=>by unfold bP at r;rw [T.cn.sy hy hz,T.cn.sy hx hz] at r;omega
  have xz:z≠x:=fun r=>by rw [r,b8] at e;omega
  have nt:¬ bP es x y t:=fun r=>nz (T.lO hx hy F.xy r (cL _ _ F.zt) xz)
  have c1:=T.qX hz hl F.xy nz hb;have c2:=T.qX ht hl F.xy nt hb;rw [T.cn.sy hz hl,T.cn.sy hy hl] at c1;rw [T.cn.sy ht hl,T.cn.sy hy hl] at c2;unfold tl;omega
 rcases T.near hl F.xy with q | q
 ·exact side F e q
 ·rcases T.near hl F.zt with r | r
  ·exact Ne.symm (side (F.swap T) (by rw [T.cn.sy hz hx];exact e) r)
  ·have:=T.par hl (T.cn.is hx hz).1;unfold tl;omega
def Hx (T:Tree m es)(he:e∈es)(hf:f∈es)(ne:e≠f):∃ x y z t,wC es x y z t/\(∀ l,td es l (.inr e)=tl es l x y)/\∀ l,td es l (.inr f)=tl es l z t:=by
 have ae:aJ es e.1 e.2:=.inl he;have af:aJ es f.1 f.2:=.inl hf;obtain ⟨h1,h2⟩:=T.gd.cN ae;obtain ⟨h3,h4⟩:=T.gd.cN af
 -- the end of e that is nearer to f's first
 have ⟨x,y,axy,fy,te,se⟩:∃ x y,aJ es x y/\ds es f.1 y=ds es f.1 x + 1/\(∀ l,td es l (.inr e)=tl es l x y)/\((x=e.1/\y=e.2)\/(x=e.2/\y=e.1)):=by
  rcases T.near h3 ae with q | q
  ·exact ⟨e.2,e.1,cL _ _ ae,q,fun l=>vS,.inr ⟨rfl,rfl⟩⟩
  ·exact ⟨e.1,e.2,ae,q,fun l=>rfl,.inl ⟨rfl,rfl⟩⟩
 obtain ⟨hx,hy⟩:=T.gd.cN axy;rcases T.near hx af with q | q
 ·refine ⟨x,y,f.2,f.1,⟨axy,cL _ _ af,?_,q,fun z1 z2=>?_⟩,te,fun l=>vS⟩
  ·have g1:=T.near h4 axy;have g2:=T.cn.fE h3 h4 hy;have g3:=T.dn h3 af;rw [T.cn.sy hx h3,T.cn.sy hx h4] at q;omega
  ·have el:=(T.gd.lt e he).1;have fl:=(T.gd.lt f hf).1;rcases se with ⟨r1,r2⟩ | ⟨r1,r2⟩
   ·omega
   ·exact ne (Prod.ext (by omega) (by omega))
 ·refine ⟨x,y,f.1,f.2,⟨axy,af,fy,q,fun z1 z2=>?_⟩,te,fun l=>rfl⟩
  have el:=(T.gd.lt e he).1;have fl:=(T.gd.lt f hf).1;rcases se with ⟨r1,r2⟩ | ⟨r1,r2⟩
  ·exact ne (Prod.ext (by omega) (by omega))
  ·omega
def yT (T:Tree m es)(hl:∀ l∈ls,l < m)(he:e∈es)(hf:f∈es)(ne:e≠f):pt es ls (.inr e) (.inr f)=ls.length\/∃ w a b,aJ es w a/\aJ es w b/\a≠b/\cb es ls w a + cb es ls w b<=pt es ls (.inr e) (.inr f):=by
 obtain ⟨x,y,z,t,F,te,tf⟩:=Hx T he hf ne;rcases Nat.mod_two_eq_zero_or_one (ds es x z) with q | q
 ·right
  obtain ⟨w,a,b,hw,aa,ab,nab,h⟩:=Kn T F (j:=ds es x z / 2) (by omega)
  refine ⟨w,a,b,aa,ab,nab,D6 T hl aa ab nab (fun l hl' hb=>?_) fun l hl' hb=>?_⟩
  ·rw [te,tf];have:=(h l (hl l hl')).1 hb;omega
  ·rw [te,tf];have:=(h l (hl l hl')).2 hb;omega
 ·left
  exact EZ fun l hl'=>by rw [te,tf];exact KR T F q (hl l hl')
def wF (T:Tree m es)(hl:∀ l∈ls,l < m){u:Nat}(hu:u < m)(he:e∈es):∃ w a,aJ es w a/\cb es ls w a<=pt es ls (.inl u) (.inr e):=by
 have ae:aJ es e.1 e.2:=.inl he;have ⟨x,y,axy,fy,te⟩:∃ x y,aJ es x y/\ds es u y=ds es u x + 1/\∀ l,td es l (.inr e)=tl es l x y:=by
  rcases T.near hu ae with q | q
  ·exact ⟨e.2,e.1,cL _ _ ae,q,fun l=>vS⟩
  ·exact ⟨e.1,e.2,ae,q,fun l=>rfl⟩
 obtain ⟨hx,hy⟩:=T.gd.cN axy;refine ⟨x,y,axy,Lg fun l hl' hb=>?_⟩
 have hlm:=hl l hl';have nu:¬ bP es x y u:=fun r=>by unfold bP at r;rw [T.cn.sy hy hu,T.cn.sy hx hu] at r;omega
 have c1:=T.qX hu hlm axy nu hb;rw [te];show ds es l u≠tl es l x y;unfold bP at hb;rw [T.cn.sy hu hlm,T.cn.sy hy hlm] at c1;rw [T.cn.sy hy hlm,T.cn.sy hx hlm] at hb;unfold tl;omega
def Ja {ls:Uq}{p q r:Nat->Bool}(h:∀ l∈ls,r l=true->p l=true\/q l=true):(ls.filter r).length<=(ls.filter p).length + (ls.filter q).length:=by
 induction ls with
 | nil=>exact RE _
 | cons a ls ih =>
  have ih:=ih fun l hl=>h l (RG _ hl)
  have k:=h a RA;rw [TZ,TZ,TZ];cases e1:p a <;> cases e2:q a <;> cases e3:r a <;> simp_all <;> omega
def Fd {ls:Uq}{w a b:Nat}{t u:Th}(h:∀ l∈ls,td es l t≠td es l u->bP es w a l\/bP es w b l):pt es ls t u<=cb es ls w a + cb es ls w b:=Ja fun l hl hr=>(h l hl (Rn hr)).imp (fun z=>Rq (p:=ds es a l + 1=ds es w l) z) fun z=>Rq (p:=ds es b l + 1=ds es w l) z
def LP {ls:Uq}{w a:Nat}{t u:Th}(h:∀ l∈ls,td es l t≠td es l u->bP es w a l):pt es ls t u<=cb es ls w a:=by
 have:=Ja (ls:=ls) (r:=fun l=>decide (td es l t≠td es l u)) (p:=fun l=>decide (ds es a l + 1=ds es w l)) (q:=fun _=>false) fun l hl hr=>.inl (Rq (p:=ds es a l + 1=ds es w l) (h l hl (Rn hr)))
 have e:(ls.filter fun _=>false)=[]:=List.filter_eq_nil_iff.mpr fun _ _ z=>by cases z
 rw [e] at this;exact this
def zy (T:Tree m es){l w a:Nat}:td es l (.inr (jw w a))=tl es l w a:=by
 show min (ds es l (min w a)) (ds es l (max w a))=min (ds es l w) (ds es l a);rcases Nat.le_total w a with h | h
 ·rw [TY h,Nat.max_eq_right h]
 ·rw [U0 h,Nat.max_eq_left h,Nat.min_comm]
def C8 (T:Tree m es)(hl:∀ l∈ls,l < m){w a b:Nat}(h:aJ es w a)(g:aJ es w b):pt es ls (.inl a) (.inl b)<=cb es ls w a + cb es ls w b:=Fd fun l hl' ne=>by
 obtain ⟨hw,ha⟩:=T.gd.cN h;have hb:=(T.gd.cN g).2;have hlm:=hl l hl';have ne:ds es l a≠ds es l b:=ne;have e1:=T.near hlm h;have e2:=T.near hlm g;unfold bP;rw [T.cn.sy ha hlm,T.cn.sy hw hlm,T.cn.sy hb hlm];omega
def JP (T:Tree m es)(hl:∀ l∈ls,l < m){w a b:Nat}(h:aJ es w a)(g:aJ es w b):pt es ls (.inr (jw w a)) (.inr (jw w b))<=cb es ls w a + cb es ls w b:=Fd fun l hl' ne=>by
 obtain ⟨hw,ha⟩:=T.gd.cN h;have hb:=(T.gd.cN g).2;have hlm:=hl l hl';rw [zy T,zy T] at ne;unfold tl at ne;have e1:=T.near hlm h;have e2:=T.near hlm g;unfold bP;rw [T.cn.sy ha hlm,T.cn.sy hw hlm,T.cn.sy hb hlm];omega
def Ma (T:Tree m es)(hl:∀ l∈ls,l < m){w a:Nat}(h:aJ es w a):pt es ls (.inl w) (.inr (jw w a))<=cb es ls w a:=LP fun l hl' ne=>by
 obtain ⟨hw,ha⟩:=T.gd.cN h;have hlm:=hl l hl';rw [zy T] at ne;have ne:ds es l w≠tl es l w a:=ne;unfold tl at ne;have e1:=T.near hlm h;unfold bP;rw [T.cn.sy ha hlm,T.cn.sy hw hlm];omega
end
end PB
namespace Dv
open PySem L2
def LU {most i:Nat}:yt most i e D (o::E)=(jJ (o::E) i=true/\e D.xc (o::E) fun E1 k v=>k.fz=true/\Ih most E1 i v D.nx):=by
 unfold yt;congr 1;congr 1;funext E1 k v;congr 1;unfold Ih;refine propext ⟨fun ⟨p,ds,es,e1,e2,h,q⟩=>by subst e2;rw [e1];exact ⟨h,q⟩,fun h=>?_⟩
 split at h
 ·rename_i p ds es e1;exact ⟨p,ds,es,e1,rfl,h.1,h.2⟩
 ·exact h.elim
def OG {most i:Nat}{p:Bool}(h:E[i]?=some (some (.ow p,.list ds)))(hl:ds.length + es.length<=most)(q:Q (E.set i (some (.ow p,.list (ds++es))))):Ih most E i (.list es) Q:=by
 unfold Ih;rw [h];exact ⟨hl,q⟩
end Dv
namespace PB
open PySem L2 Dv Gr
def pc (m:Nat)(es:UQ) (p n:Nat):Uq:=(List.range m).filter fun x=>decide (ds es n x + 1=ds es p x)
def uz {m p n x:Nat}:x∈pc m es p n↔x < m/\bP es p n x:=by
 unfold pc;rw [S5,Ro,SJ];exact Iff.rfl
def IB {m p n:Nat}:rising (pc m es p n):=List.Pairwise.filter _ List.pairwise_lt_range
structure uK (m:Nat)(es:UQ) (p n:Nat)(vis:Uq)(stk:UQ):Prop where
 nd:(vis++stk.map (·.2)).Nodup
 wM:∀ x∈vis++stk.map (·.2),x < m/\bP es p n x
 par:∀ q∈stk,aJ es q.1 q.2/\ds es p q.2=ds es p q.1 + 1
 cl:∀ x∈vis,∀ y,aJ es x y->ds es p y=ds es p x + 1->y∈vis++stk.map (·.2)
 up:∀ x∈vis++stk.map (·.2),x≠n->∃ y∈vis,aJ es y x/\ds es p x=ds es p y + 1
 st:n∈vis++stk.map (·.2)
def uK.start {m p n:Nat}(T:Tree m es)(h:aJ es p n):uK m es p n [] [(p,n)]:=by
 obtain ⟨hp,hn⟩:=T.gd.cN h;have one:∀ x,x∈([]:Uq)++[(p,n)].map (·.2)↔x=n:=fun x=>by simp
 refine ⟨by simp,fun x hx=>?_,fun q hq=>?_,fun x hx=>absurd hx Rv,fun x hx ne=>absurd ((one x).mp hx) ne,(one n).mpr rfl⟩
 ·rw [(one x).mp hx];exact ⟨hn,pA T hp h⟩
 ·rw [RH.mp hq];exact ⟨h,by rw [b8,T.dn hp h]⟩
def uK.step {m p n l h:Nat}{es:UQ}{vis:Uq}{stk:UQ}(T:Tree m es)(hpn:aJ es p n)(D:uK m es p n vis (stk++[(l,h)])):uK m es p n (vis++[h]) (stk++((dJ es h).filter fun y=>decide (y≠l)).map fun y=>(h,y)):=by
 obtain ⟨hp,hn⟩:=T.gd.cN hpn;have old:∀ x,x∈vis++(stk++[(l,h)]).map (·.2)↔x∈vis\/x∈stk.map (·.2)\/x=h:=fun x=>by
  rw [RM,Rw,RM];simp
 have hh:=D.wM h ((old h).mpr (.inr (.inr rfl)));have ⟨alh,elh⟩:=D.par (l,h) (RM.mpr (.inr RA));have alh:aJ es l h:=alh;have elh:ds es p h=ds es p l + 1:=elh;have kid:∀ y,aJ es h y->(y≠l↔ds es p y=ds es p h + 1):=fun y a=>by
  constructor
  ·intro ne;rcases T.near hp a with z | z
   ·exact absurd (T.one hp a (cL _ _ alh) z (by omega)) ne
   ·exact z
  ·rintro e rfl;omega
 have newm:∀ y,y∈(((dJ es h).filter fun y=>decide (y≠l)).map fun y=>(h,y)).map (·.2)↔aJ es h y/\ds es p y=ds es p h + 1:=fun y=>by
  rw [RT];have:((fun x:Nat×Nat=>x.2) ∘ fun y=>(h,y))=id:=rfl
  rw [this,List.map_id,S5,SJ,c9];exact ⟨fun ⟨a,b⟩=>⟨a,(kid y a).mp b⟩,fun ⟨a,b⟩=>⟨a,(kid y a).mpr b⟩⟩
 have ndo:=D.nd;rw [Rw,<- S0] at ndo;have hnot:h∉vis++stk.map (·.2):=fun z=>(TU.mp ndo).2.2 h z h (by simp) rfl
 have nvis:h∉vis:=fun z=>hnot (RM.mpr (.inl z))
 have newn:∀ y,aJ es h y->ds es p y=ds es p h + 1->y∉vis++(stk++[(l,h)]).map (·.2):=fun y a e z=>by
  have yn:y≠n:=fun q=>by
   have h1:=T.dn hp hpn;have h2:=hh.2;unfold bP at h2;rw [q] at e;omega
  obtain ⟨w,hw,b,e2⟩:=D.up y z yn;have:=T.one hp (cL _ _ a) (cL _ _ b) e e2;exact nvis (this ▸ hw)
 have nw:∀ x,x∈(vis++[h])++(stk++((dJ es h).filter fun y=>decide (y≠l)).map fun y=>(h,y)).map (·.2)↔(x∈vis\/x∈stk.map (·.2)\/x=h)\/(aJ es h x/\ds es p x=ds es p h + 1):=fun x=>by
  rw [RM,Rw,RM,RM,newm,RH];constructor
  ·rintro ((a | a) | a | a)
   ·exact .inl (.inl a)
   ·exact .inl (.inr (.inr a))
   ·exact .inl (.inr (.inl a))
   ·exact .inr a
  ·rintro ((a | a | a) | a)
   ·exact .inl (.inl a)
   ·exact .inr (.inl a)
   ·exact .inl (.inr a)
   ·exact .inr (.inr a)
 refine ⟨?_,fun x hx=>?_,fun q hq=>?_,fun x hx y a e=>?_,fun x hx ne=>?_,?_⟩
 ·-- none twice
  rw [Rw,<- S0,TU];refine ⟨?_,?_,fun a ha b hb e=>?_⟩
  ·rw [S0];refine List.Perm.nodup_iff (T4 vis TQ) |>.mpr ?_;rw [<- S0];exact ndo
  ·rw [RT];have:((fun x:Nat×Nat=>x.2) ∘ fun y=>(h,y))=id:=rfl
   rw [this,List.map_id];exact List.Sublist.nodup T8 (T.gd.qC h)
  ·subst e;have hb:=(newm a).mp hb;refine newn a hb.1 hb.2 ((old a).mpr ?_);rcases RM.mp ha with z | z
   ·rcases RM.mp z with z | z
    ·exact .inl z
    ·exact .inr (.inr (RH.mp z))
   ·exact .inr (.inl z)
 ·rcases (nw x).mp hx with z | ⟨a,e⟩
  ·exact D.wM x ((old x).mpr z)
  ·exact ⟨(T.gd.cN a).2,T.lO hp hn hpn hh.2 a fun q=>by rw [q,b8] at e;omega⟩
 ·rcases RM.mp hq with z | z
  ·exact D.par q (RM.mpr (.inl z))
  ·obtain ⟨y,hy,rfl⟩:=RI.mp z;have:=(newm y).mp (RI.mpr ⟨_,z,rfl⟩);exact this
 ·rw [nw];rcases RM.mp hx with z | z
  ·exact .inl ((old y).mp (D.cl x z y a e))
  ·rw [RH.mp z] at a e;exact .inr ⟨a,e⟩
 ·rcases (nw x).mp hx with z | ⟨a,e⟩
  ·obtain ⟨y,hy,b,e⟩:=D.up x ((old x).mpr z) ne;exact ⟨y,RM.mpr (.inl hy),b,e⟩
  ·exact ⟨h,RM.mpr (.inr RA),a,e⟩
 ·rw [nw];exact .inl ((old n).mp D.st)
def uK.done {m p n:Nat}(T:Tree m es)(h:aJ es p n)(D:uK m es p n vis []):vis.Perm (pc m es p n):=by
 obtain ⟨hp,hn⟩:=T.gd.cN h;have e:vis++([]:UQ).map (·.2)=vis:=SN _;have all:∀ (k x:Nat),x < m->bP es p n x->ds es n x=k->x∈vis:=by
  intro k
  induction k with
  | zero =>
   intro x hx hb e0;have:=T.cn.zero hn hx e0;subst this;have:=D.st;rw [e] at this;exact this
  | succ k ih =>
   intro x hx hb e1;obtain ⟨y,hy,a,by',e2,e3⟩:=T.Hh hp hx h hb fun q=>by rw [q,b8] at e1;omega
   have:=D.cl y (ih y hy by' (by omega)) x a e2
   rw [e] at this;exact this
 have nd:=D.nd;rw [e] at nd;have nd2:(pc m es p n).Nodup:=List.Sublist.nodup T8 Sl;refine (List.perm_ext_iff_of_nodup nd nd2).mpr fun x=>?_
 rw [uz];constructor
 ·intro hx;have:=D.wM x (by rw [e];exact hx)
  exact this
 ·rintro ⟨hx,hb⟩;exact all _ x hx hb rfl
theorem qv:∀ {l k:Uq},l.Perm k->l.Pairwise (·<=·)->k.Pairwise (·<=·)->l=k
 | [],k,p,_,_=>(List.Perm.nil_eq p)
 | a::l,[],p,_,_=>by have:=p.length_eq;simp at this
 | a::l,b::k,p,h1,h2=>by
  have ha:a∈b::k:=p.mem_iff.mp RA;have hb:b∈a::l:=p.mem_iff.mpr RA;have e:a=b:=by
   have l1:b<=a:=by
    rcases RJ.mp ha with z | z
    ·omega
    ·exact (List.pairwise_cons.mp h2).1 a z
   have l2:a<=b:=by
    rcases RJ.mp hb with z | z
    ·omega
    ·exact (List.pairwise_cons.mp h1).1 b z
   omega
  subst e;rw [qv (List.perm_cons a |>.mp p) (List.pairwise_cons.mp h1).2 (List.pairwise_cons.mp h2).2]
def F9 (h:rising l):l.Pairwise (·<=·):=h.imp fun h=>Nat.le_of_lt h
def CW:aZ:=fun dd Q x=>∃ m es p n,dd=[tW m es,iD p,iD n]/\m<=60/\Tree m es/\aJ es p n/\Q [] (.ow false) (nD (pc m es p n))
def Lo:∀ dd Q x,CW dd Q x->jG (aT [false,false,false] Q x) (ini [false,false,false] dd++List.replicate 5 none):=by
 rintro _ Q x ⟨m,es,p,n,rfl,hm,T,hpn,q⟩;unfold jG;subst_eqs;refine ⟨by omega,by omega,by omega,?_⟩
 refine ⟨fun k E=>∃ (vis:Uq)(stk:UQ)(o5 o6:Uv),E=[some (.sh,tW m es),some (.sh,iD p),some (.sh,iD n),some (.ow false,nD vis),some (.ow false,.list (stk.map cV)),o5,o6,none]/\bM o5=true/\bM o6=true/\k=m - vis.length/\uK m es p n vis stk,⟨m,[],[(p,n)],none,none,rfl,rfl,rfl,rfl,uK.start T hpn⟩,?_⟩
 rintro k _ ⟨vis,stk,o5,o6,rfl,h5,h6,rfl,D⟩;simp_arith [List.isEmpty_map];rcases List.eq_nil_or_concat stk with rfl | ⟨stk,⟨l,h⟩,rfl⟩
 ·simp_arith [List.isEmpty_nil];have pm:=D.done T hpn;have hl:vis.length<=m:=by
   rw [pm.length_eq];exact oQ IB fun x hx=>(uz.mp hx).1
  refine AX (by omega) fun ms p1 s1=>?_
  rw [qv (p1.trans pm) s1 (F9 IB)];subst_eqs;exact q
 ·have ne:(stk++[(l,h)]).isEmpty=false:=by simp
  rw [List.concat_eq_append] at D ⊢;have e1:(List.map cV (stk++[(l,h)]))[(stk++[(l,h)]).length - 1]?=some (cV (l,h)):=by
   rw [Rw,RW];show (stk.map cV++[cV (l,h)])[stk.length + 1 - 1]?=_;rw [Nat.add_sub_cancel,Ti (by rw [RD];exact RE _),RD,Nat.sub_self]
   rfl
  have e2:(List.map cV (stk++[(l,h)])).dropLast=stk.map cV:=by rw [Rw];exact List.dropLast_concat
  have hhm:h < m/\bP es p n h:=D.wM h (by simp)
  have D2:=D.step T hpn;have hv:(vis++[h]).length<=m:=Gr.gw m _ (TU.mp D2.nd).1 fun x hx=>(D2.wM x (RM.mpr (.inl hx))).1
  rw [RW] at hv;have hv:vis.length + 1<=m:=hv;simp_arith [ne,e1,e2,h5,h6,LU,SV hhm.1];refine ⟨by omega,?_⟩
  have hst:stk.length + ((dJ es h).filter fun y=>decide (y≠l)).length<=m:=by
   have:=Gr.gw m _ (TU.mp D2.nd).2.1 fun x hx=>(D2.wM x (RM.mpr (.inr hx))).1
   rw [RD,RW,RD] at this;exact this
  refine g9 (fun y=>if decide (y≠l)=true then some (cV (h,y)) else none) rfl (fun y hy I hI=>?_) ?_ (by have:=T.gd.rC h;omega)
  ·simp only [dv,dw,dx,dy,dz,Nat.reduceBEq] at hI ⊢;split
   ·rename_i c;rw [if_pos c] at hI;exact ⟨by omega,hI _ rfl⟩
   ·rename_i c;rw [if_neg c] at hI;exact hI _ rfl
  ·rw [eV];refine ⟨rfl,OG rfl (by rw [RD,RD];omega) ⟨m - (vis++[h]).length,by rw [RW];show m - (vis.length + 1) < _;omega,vis++[h],_,some (.sh,iD l),some (.sh,iD h),?_,rfl,rfl,rfl,D2⟩⟩
   rw [AD,Rw,RT];rfl
def vz:aZ:=fun dd Q x=>∃ m es,dd=[wD m es]/\1<=m/\Q [] .sh (.bool (decide (es.length + 1=m)))
def K8:∀ dd Q x,vz dd Q x->qj (aT [false] Q x) (ini [false] dd++List.replicate 2 none):=by
 rintro _ Q x ⟨m,es,rfl,hm,q⟩;unfold qj;subst_eqs;have e:decide ((es.length:Int)=(m:Int) - 1)=decide (es.length + 1=m):=by
  by_cases c:es.length + 1=m
  ·rw [Rq c,Rq (by omega)]
  ·rw [S6 c,S6 (by omega)]
 rw [e];exact q
def vR:aZ:=fun dd Q x=>∃ m es,dd=[wD m es]/\1<=m/\(es.length + 1=m->Q [] .sh .none)/\(es.length + 1≠m->x "NoTree" .none)
def Mz:∀ dd Q x,vR dd Q x->iK vz (aT [false] Q x) (ini [false] dd++List.replicate 0 none):=by
 rintro _ Q x ⟨m,es,rfl,hm,q,r⟩;unfold iK;subst_eqs;refine ⟨m,es,rfl,hm,?_⟩;subst_eqs;split
 ·rename_i h;exact r h
 ·rename_i h;exact q (Uj h)
def BK:aZ:=fun dd Q x=>∃ m es p,dd=[wD m es,iD p]/\dF m es/\es.length + 1=m/\p < m/\Q [] (.ow false) (.list ((dJ es p).map fun n=>nD (pc m es p n)))
def Mv:∀ dd Q x,BK dd Q x->m6 vR vJ vd CW (aT [false,false] Q x) (ini [false,false] dd++List.replicate 2 none):=by
 rintro _ Q x ⟨m,es,p,rfl,W,ht,hp,q⟩;have hm:=W.le;have T:Tree m es:=⟨W.gd,W.cn,ht⟩;unfold m6;subst_eqs;refine ⟨m,es,rfl,W.pos,fun _=>?_,fun z=>absurd ht z⟩
 subst_eqs;refine ⟨m,es,p,rfl,fun _=>?_,fun z=>absurd ⟨by omega,by omega⟩ z⟩
 subst_eqs;refine ⟨m,es,rfl,W.le,W.gd,?_⟩;simp_arith [SV hp];refine f9 (fun n=>nD (pc m es p n)) rfl (fun n hn I hI=>?_) ?_ (by have:=W.gd.rC p;omega)
 ·subst_eqs;refine ⟨m,es,p,n,rfl,W.le,T,c9.mp hn,?_⟩;subst_eqs;exact hI _ rfl
 ·subst_eqs;exact q
def BE (m:Nat)(es:UQ)(ls:Uq) (p:Nat)(r:Uq):Prop:=∃ ns:Uq,ns.Perm (dJ es p)/\r=ns.map (cb es ls p)/\r.Pairwise (·<=·)
def CF:aZ:=fun dd Q x=>∃ m es ls p,dd=[wD m es,nD ls,iD p]/\dF m es/\es.length + 1=m/\cH m ls/\p < m/\∀ r,BE m es ls p r->Q [] (.ow false) (nD r)
def LL:∀ dd Q x,CF dd Q x->gR BK (aT [false,false,false] Q x) (ini [false,false,false] dd++List.replicate 2 none):=by
 rintro _ Q x ⟨m,es,ls,p,rfl,W,ht,L,hp,q⟩;have hm:=W.le;have hL:=L.len;have hnb:=W.gd.rC p;unfold gR;subst_eqs;refine ⟨m,es,p,rfl,W,ht,hp,?_⟩;subst_eqs;refine f9 (fun n=>iD (cb es ls p n)) rfl (fun n hn I hI=>?_) ?_ (by omega)
 ·subst_eqs;refine g9 (fun l=>if decide (ds es n l + 1=ds es p l)=true then some (iD l) else none) rfl (fun l hl J hJ=>?_) ?_ (by omega)
  ·have hin:decide (iD l∈(pc m es p n).map iD)=decide (ds es n l + 1=ds es p l):=by
    have:iD l∈(pc m es p n).map iD↔l∈pc m es p n:=⟨fun h=>by obtain ⟨y,hy,e⟩:=RI.mp h;rw [<- uG.mp e];exact hy,fun h=>RI.mpr ⟨l,h,rfl⟩⟩
    by_cases c:ds es n l + 1=ds es p l
    ·rw [Rq c,Rq (this.mpr (uz.mpr ⟨L.lt l hl,c⟩))]
    ·rw [S6 c,S6 fun z=>c (uz.mp (this.mp z)).2]
   have dli:((pc m es p n).all fun a=>dl 8 (iD a))=true:=by rw [RP];exact fun _ _=>rfl
   simp only [dv,dw,dx,dy,dz,Nat.reduceBEq,dli] at hJ ⊢;refine ⟨rfl,?_⟩;rw [decide_eq_decide] at hin;split
   ·rename_i c;rw [if_pos (hin.mp c)] at hJ;exact hJ _ rfl
   ·rename_i c;rw [if_neg fun z=>c (hin.mpr z)] at hJ
    exact hJ _ rfl
  ·rw [eV];subst_eqs;exact hI _ rfl
 ·subst_eqs;have e:(dJ es p).map (fun n=>iD (cb es ls p n))=((dJ es p).map (cb es ls p)).map iD:=by rw [RT];rfl
  rw [e];refine AX (by rw [RD];omega) fun r p1 s1=>?_
  obtain ⟨ns,h1,h2⟩:=jW _ p1;exact q r ⟨ns,h1,h2,s1⟩
section
variable {m:Nat}{es:UQ}{ls:Uq}
def oN {k:Str}(gd:Good m es):(av k m es).Nodup:=by
 unfold av;refine TU.mpr ⟨?_,?_,fun a ha b hb e=>?_⟩
 ·split
  ·exact Sq
  ·exact List.Pairwise.map _ (fun a b h e=>h (by cases e;rfl)) Sl
 ·split
  ·exact Sq
  ·exact List.Pairwise.map _ (fun a b h e=>h (by cases e;rfl)) gd.nd
 ·subst e;split at ha
  ·cases ha
  ·obtain ⟨x,_,rfl⟩:=RI.mp ha;split at hb
   ·cases hb
   ·obtain ⟨y,_,e⟩:=RI.mp hb;cases e
def Dm {ts:List Th}(nd:ts.Nodup){s:Nat}(h1:∃ t u,t∈ts/\u∈ts/\t≠u/\pt es ls t u=s)(h2:∀ t u,t∈ts->u∈ts->t≠u->s<=pt es ls t u):eK (ts.map (aq es ls)) (iD s):=by
 have get:∀ {i:Nat}{t:Th},ts[i]?=some t->(ts.map (aq es ls))[i]?=some (aq es ls t):=fun e=>by rw [RN,e];rfl
 refine .inr ⟨s,rfl,?_,fun n hn=>?_⟩
 ·obtain ⟨t,u,ht,hu,ne,e⟩:=h1;obtain ⟨i,hi⟩:=Si.mp ht;obtain ⟨j,hj⟩:=Si.mp hu;rcases UK i j with l | l | l
  ·exact jO.mpr ⟨i,j,_,_,l,get hi,get hj,by rw [nQ,e]⟩
  ·subst l;rw [hi] at hj;cases hj;exact absurd rfl ne
  ·exact jO.mpr ⟨j,i,_,_,l,get hj,get hi,by rw [nQ,q8,e]⟩
 ·obtain ⟨i,j,a,b,l,e1,e2,rfl⟩:=jO.mp hn;rw [RN] at e1 e2;obtain ⟨t,ht,rfl⟩:=SQ.mp e1;obtain ⟨u,hu,rfl⟩:=SQ.mp e2;rw [nQ];refine h2 t u (Rt ht) (Rt hu) fun e=>?_
  subst e;have hi:=aB ht;have hj:=aB hu;rw [RS hi] at ht;rw [RS hj] at hu;exact (T7.mp nd i j hi hj l) (by rw [Option.some.inj ht,Option.some.inj hu])
def str_none {ts:List Th}(h:ts.length < 2):eK (ts.map (aq es ls)) .none:=by
 refine .inl ⟨?_,rfl⟩;cases e:iX (ts.map (aq es ls)) with
 | nil=>rfl
 | cons n l =>
  have:n∈iX (ts.map (aq es ls)):=by rw [e];exact RA
  obtain ⟨i,j,a,b,l,e1,e2,_⟩:=jO.mp this;have:=aB e1;have:=aB e2;rw [RD] at *;omega
def zp {ts:List Th}(nd:ts.Nodup)(h:2<=ts.length):∃ t u,t∈ts/\u∈ts/\t≠u:=⟨ts[0],ts[1],UB _,UB _,T7.mp nd 0 1 (by omega) (by omega) (by omega)⟩
def rowOf (es:UQ)(ls:Uq) (p:Nat):Uq:=((dJ es p).map (cb es ls p)).mergeSort
def tR (p:Nat):BE m es ls p (rowOf es ls p):=by
 obtain ⟨ns,h1,h2⟩:=jW _ (List.mergeSort_perm ((dJ es p).map (cb es ls p)) (·<=·));refine ⟨ns,h1,h2,?_⟩;have:=List.pairwise_mergeSort (le:=fun a b:Nat=>decide (a<=b)) (fun a b c h1 h2=>by simp at *;omega) (fun a b=>by simp;omega) ((dJ es p).map (cb es ls p))
 exact this.imp fun h=>by simpa using h
def Mc {p:Nat}(h:BE m es ls p r):r=rowOf es ls p:=by
 obtain ⟨ns,h1,h2,h3⟩:=h;obtain ⟨ns',g1,g2,g3⟩:=tR (m:=m) (es:=es) (ls:=ls) p;rw [h2] at h3 ⊢;rw [g2] at g3 ⊢;exact qv ((h1.trans g1.symm).map _) h3 g3
def vI {p:Nat}:(rowOf es ls p).length=(dJ es p).length:=by
 obtain ⟨ns,h1,h2,_⟩:=tR (m:=0) (es:=es) (ls:=ls) p;rw [h2,RD,h1.length_eq]
def eF {l:Uq}{k:Nat}(h:k < l.length):l[k]?=some (l.getD k 0):=by
 rw [RS h,Sk,RS h];rfl
def MT (gd:Good m es){p:Nat}{x:Nat}(h:(rowOf es ls p)[0]?=some x):(∃ a,aJ es p a/\x=cb es ls p a)/\∀ a,aJ es p a->x<=cb es ls p a:=by
 obtain ⟨ns,h1,h2,h3⟩:=tR (m:=m) (es:=es) (ls:=ls) p;generalize rowOf es ls p=r at *;subst h2;rw [RN] at h;obtain ⟨a,ha,rfl⟩:=SQ.mp h;refine ⟨⟨a,c9.mp (h1.mem_iff.mp (Rt ha)),rfl⟩,fun b hb=>?_⟩
 obtain ⟨i,hi⟩:=Si.mp (h1.mem_iff.mpr (c9.mpr hb))
 by_cases c:i=0
 ·subst c;rw [ha] at hi;cases hi;exact RE _
 ·have e1:=RS (aB ha);have e2:=RS (aB hi);rw [ha] at e1;rw [hi] at e2;have:=T7.mp h3 0 i (by rw [RD];exact aB ha) (by rw [RD];exact aB hi) (by omega)
  rw [Tc,Tc,<- Option.some.inj e1,<- Option.some.inj e2] at this;exact this
def CC (gd:Good m es){p x y:Nat}(h:(rowOf es ls p)[0]?=some x)(g:(rowOf es ls p)[1]?=some y):(∃ a b,aJ es p a/\aJ es p b/\a≠b/\x + y=cb es ls p a + cb es ls p b)/\∀ a b,aJ es p a->aJ es p b->a≠b->x + y<=cb es ls p a + cb es ls p b:=by
 obtain ⟨ns,h1,h2,h3⟩:=tR (m:=m) (es:=es) (ls:=ls) p;generalize rowOf es ls p=r at *;subst h2;have nd:ns.Nodup:=h1.nodup_iff.mpr (gd.qC p);rw [RN] at h g;obtain ⟨a,ha,rfl⟩:=SQ.mp h;obtain ⟨b,hb,rfl⟩:=SQ.mp g;have e0:=Option.some.inj (ha.symm.trans (RS (aB ha)));have e1:=Option.some.inj (hb.symm.trans (RS (aB hb)));have le:∀ i j (hi:i < ns.length)(hj:j < ns.length),i<=j->cb es ls p ns[i]<=cb es ls p ns[j]:=fun i j hi hj l=>by
  by_cases c:i=j
  ·subst c;exact RE _
  ·have:=T7.mp h3 i j (by rw [RD];exact hi) (by rw [RD];exact hj) (by omega)
   rw [Tc,Tc] at this;exact this
 refine ⟨⟨a,b,c9.mp (h1.mem_iff.mp (Rt ha)),c9.mp (h1.mem_iff.mp (Rt hb)),?_,rfl⟩,fun c d hc hd ne=>?_⟩
 ·rw [e0,e1];exact T7.mp nd 0 1 (aB ha) (aB hb) (by omega)
 ·obtain ⟨i,hi⟩:=Si.mp (h1.mem_iff.mpr (c9.mpr hc));obtain ⟨j,hj⟩:=Si.mp (h1.mem_iff.mpr (c9.mpr hd));have f0:=Option.some.inj (hi.symm.trans (RS (aB hi)));have f1:=Option.some.inj (hj.symm.trans (RS (aB hj)));have nij:i≠j:=fun q=>by
   subst q;rw [hi] at hj;cases hj;exact ne rfl
  rw [e0,e1,f0,f1];rcases Nat.lt_or_gt_of_ne nij with l | l
  ·have:=le 0 i (aB ha) (aB hi) (by omega)
   have:=le 1 j (aB hb) (aB hj) (by omega)
   omega
  ·have:=le 0 j (aB ha) (aB hj) (by omega)
   have:=le 1 i (aB hb) (aB hi) (by omega)
   omega
def GW (T:Tree m es)(hl:∀ l∈ls,l < m){k:Str}(hk:k="places"\/k="ties"){t u:Th}(ht:t∈av k m es)(hu:u∈av k m es)(ne:t≠u):pt es ls t u=ls.length\/∃ w a b,aJ es w a/\aJ es w b/\a≠b/\cb es ls w a + cb es ls w b<=pt es ls t u:=by
 rcases hk with rfl | rfl
 ·have e:av "places" m es=(List.range m).map Sum.inl:=by
   unfold av;rw [if_neg (by decide),if_pos rfl,SN]
  rw [e] at ht hu;obtain ⟨x,hx,rfl⟩:=RI.mp ht;obtain ⟨y,hy,rfl⟩:=RI.mp hu;exact tZ T hl (Ro.mp hx) (Ro.mp hy) fun z=>ne (by rw [z])
 ·have e:av "ties" m es=es.map Sum.inr:=by
   unfold av;rw [if_pos rfl,if_neg (by decide),List.nil_append]
  rw [e] at ht hu;obtain ⟨x,hx,rfl⟩:=RI.mp ht;obtain ⟨y,hy,rfl⟩:=RI.mp hu;exact yT T hl hx hy fun z=>ne (by rw [z])
def KI (T:Tree m es)(hl:∀ l∈ls,l < m)(ht:t∈av "all" m es)(hu:u∈av "all" m es)(ne:t≠u):pt es ls t u=ls.length\/∃ w a,aJ es w a/\cb es ls w a<=pt es ls t u:=by
 have e:av "all" m es=(List.range m).map Sum.inl++es.map Sum.inr:=by
  unfold av;rw [if_neg (by decide),if_neg (by decide)]
 rw [e] at ht hu;rcases RM.mp ht with h | h <;> rcases RM.mp hu with g | g <;> obtain ⟨x,hx,rfl⟩:=RI.mp h <;> obtain ⟨y,hy,rfl⟩:=RI.mp g
 ·exact (tZ T hl (Ro.mp hx) (Ro.mp hy) fun z=>ne (by rw [z])).imp id fun ⟨w,a,b,h1,_,_,h4⟩=>⟨w,a,h1,by omega⟩
 ·exact .inr (wF T hl (Ro.mp hx) hy)
 ·rw [q8];exact .inr (wF T hl (Ro.mp hy) hx)
 ·exact (yT T hl hx hy fun z=>ne (by rw [z])).imp id fun ⟨w,a,b,h1,_,_,h4⟩=>⟨w,a,h1,by omega⟩
def JS (T:Tree m es)(m2:2<=m)(L:cH m ls){s:Nat}(h1:∃ p,p < m/\(rowOf es ls p)[0]?=some s)(h2:∀ p x,p < m->(rowOf es ls p)[0]?=some x->s<=x):eK ((av "all" m es).map (aq es ls)) (iD s):=by
 obtain ⟨p,hp,e⟩:=h1;obtain ⟨⟨a,ha,rfl⟩,_⟩:=MT T.gd e;have hall:av "all" m es=(List.range m).map Sum.inl++es.map Sum.inr:=by
  unfold av;rw [if_neg (by decide),if_neg (by decide)]
 have low:∀ t u,t∈av "all" m es->u∈av "all" m es->t≠u->cb es ls p a<=pt es ls t u:=fun t u ht hu ne=>by
  rcases KI T L.lt ht hu ne with z | ⟨w,b,hb,le⟩
  ·rw [z];exact Uo ..
  ·obtain ⟨hw,_⟩:=T.gd.cN hb;have hlen:0 < (rowOf es ls w).length:=by
    rw [vI];exact Um (c9.mpr hb)
   have h3:=h2 w _ hw (RS hlen);have h4:=(MT T.gd (RS hlen)).2 b hb;omega
 have mp:(Sum.inl p:Th)∈av "all" m es:=by rw [hall];exact RM.mpr (.inl (RI.mpr ⟨p,Ro.mpr hp,rfl⟩))
 have me:(Sum.inr (jw p a):Th)∈av "all" m es:=by rw [hall];exact RM.mpr (.inr (RI.mpr ⟨_,ou T.gd ha,rfl⟩))
 refine Dm (oN T.gd) ⟨_,_,mp,me,(by intro z;cases z),?_⟩ low
 have:=Ma T L.lt ha;have:=low _ _ mp me (by intro z;cases z)
 omega
def Dp (T:Tree m es){k:Str}(hk:k="places"\/k="ties"){w a b:Nat}(ha:aJ es w a)(hb:aJ es w b)(ne:a≠b)(L:∀ l∈ls,l < m):∃ t u,t∈av k m es/\u∈av k m es/\t≠u/\pt es ls t u<=cb es ls w a + cb es ls w b:=by
 have hwm:=T.gd.cN ha;have hbm:=T.gd.cN hb;rcases hk with rfl | rfl
 ·have e:av "places" m es=(List.range m).map Sum.inl:=by
   unfold av;rw [if_neg (by decide),if_pos rfl,SN]
  rw [e];exact ⟨.inl a,.inl b,RI.mpr ⟨a,Ro.mpr hwm.2,rfl⟩,RI.mpr ⟨b,Ro.mpr hbm.2,rfl⟩,fun z=>ne (by cases z;rfl),C8 T L ha hb⟩
 ·have e:av "ties" m es=es.map Sum.inr:=by
   unfold av;rw [if_pos rfl,if_neg (by decide),List.nil_append]
  rw [e];refine ⟨.inr (jw w a),.inr (jw w b),RI.mpr ⟨_,ou T.gd ha,rfl⟩,RI.mpr ⟨_,ou T.gd hb,rfl⟩,fun z=>ne ?_,JP T L ha hb⟩
  have z:jw w a=jw w b:=Sum.inr.inj z;have e1:min w a=min w b:=congrArg Prod.fst z;have e2:max w a=max w b:=congrArg Prod.snd z;omega
def yD (T:Tree m es)(L:cH m ls){k:Str}(hk:k="places"\/k="ties")(h0:2<=(av k m es).length){s:Nat}(h1:(∃ p x y,p < m/\(rowOf es ls p)[0]?=some x/\(rowOf es ls p)[1]?=some y/\s=x + y)\/((∀ p,p < m->(rowOf es ls p).length < 2)/\s=ls.length))(h2:∀ p x y,p < m->(rowOf es ls p)[0]?=some x->(rowOf es ls p)[1]?=some y->s<=x + y):eK ((av k m es).map (aq es ls)) (iD s):=by
 have two:∀ {w a b:Nat},aJ es w a->aJ es w b->a≠b->2<=(rowOf es ls w).length:=fun {w a b} ha hb ne=>by
  rw [vI];have:=Gr.sub_len' (l:=[a,b]) (by simp [ne]) (k:=dJ es w) fun x hx=>by
   rcases RJ.mp hx with rfl | hx
   ·exact c9.mpr ha
   ·rw [RH.mp hx];exact c9.mpr hb
  exact this
 have sl:s<=ls.length:=by
  rcases h1 with ⟨p,x,y,hp,e1,e2,rfl⟩ | ⟨_,rfl⟩
  ·obtain ⟨⟨a,b,ha,hb,ne,e⟩,_⟩:=CC T.gd e1 e2;rw [e];exact Mu T L.lt ha hb ne
  ·exact RE _
 have low:∀ t u,t∈av k m es->u∈av k m es->t≠u->s<=pt es ls t u:=fun t u ht hu ne=>by
  rcases GW T L.lt hk ht hu ne with z | ⟨w,a,b,ha,hb,nab,le⟩
  ·rw [z];exact sl
  ·obtain ⟨hw,_⟩:=T.gd.cN ha;have h3:=two ha hb nab;have g0:=RS (l:=rowOf es ls w) (i:=0) (by omega)
   have g1:=RS (l:=rowOf es ls w) (i:=1) (by omega)
   have:=h2 w _ _ hw g0 g1;have:=(CC T.gd g0 g1).2 a b ha hb nab;omega
 refine Dm (oN T.gd) ?_ low;rcases h1 with ⟨p,x,y,hp,e1,e2,rfl⟩ | ⟨no,rfl⟩
 ·obtain ⟨⟨a,b,ha,hb,ne,e⟩,_⟩:=CC T.gd e1 e2;obtain ⟨t,u,ht,hu,ntu,le⟩:=Dp (ls:=ls) T hk ha hb ne L.lt;refine ⟨t,u,ht,hu,ntu,?_⟩;have:=low t u ht hu ntu;omega
 ·obtain ⟨t,u,ht,hu,ntu⟩:=zp (oN T.gd) h0;refine ⟨t,u,ht,hu,ntu,?_⟩;have:=low t u ht hu ntu;have:=OZ (es:=es) (ls:=ls) (t:=t) (u:=u);omega
end
def xH (k:Str):Prop:=k="places"\/k="ties"\/k="all"
def Ck:aZ:=fun dd Q x=>∃ m es ls k,dd=[wD m es,nD ls,.str k]/\dF m es/\es.length + 1=m/\cH m ls/\xH k/\∀ d,eK ((av k m es).map (aq es ls)) d->Q [] .sh d
def K2:∀ dd Q x,Ck dd Q x->jb vR lS jh CF (aT [false,false,false] Q x) (ini [false,false,false] dd++List.replicate 2 none):=by
 rintro _ Q x ⟨m,es,ls,k,rfl,W,ht,L,hk,q⟩;have hm:=W.le;have hL:=L.len;have T:Tree m es:=⟨W.gd,W.cn,ht⟩;unfold jb;subst_eqs;refine ⟨m,es,rfl,W.pos,fun _=>?_,fun z=>absurd ht z⟩
 subst_eqs;refine uO L ?_;subst_eqs;refine ⟨m,es,k,rfl,W,?_⟩;subst_eqs;split
 ·rename_i h;exact q _ (str_none (by omega))
 rename_i h0;rw [if_pos (by omega)]
 refine c7 rfl (f9 (fun p=>nD (rowOf es ls p)) rfl (fun p hp I hI=>?_) ?_ (by rw [Rm];omega))
 ·subst_eqs;refine ⟨m,es,ls,p,rfl,W,ht,L,Ro.mp hp,fun r hr=>?_⟩
  rw [Mc hr];subst_eqs;exact hI _ rfl
 subst_eqs;have yK:2<=m->∀ p,p < m->0 < (rowOf es ls p).length:=fun m2 p hp=>by
  rw [vI];have ⟨y,hy,ne⟩:∃ y,y < m/\y≠p:=by
   by_cases c:p=0
   ·exact ⟨1,by omega,by omega⟩
   ·exact ⟨0,by omega,by omega⟩
  obtain ⟨n,hn,a,_⟩:=W.cn.pred W.gd hy hp (Ne.symm ne);exact Um (c9.mpr a)
 split
 ·rename_i hall;subst hall;have m2:2<=m:=by
   have e:(av "all" m es).length=m + es.length:=by
    unfold av;rw [if_neg (by decide),if_neg (by decide),RW,RD,RD,Rm]
   rw [e] at h0;omega
  refine f9 (fun p=>iD ((rowOf es ls p).getD 0 0)) rfl (fun p hp I hI=>?_) ?_ (by rw [Rm];omega)
  ·have hp:=Ro.mp hp;simp_arith [eF (yK m2 p hp)];exact hI _ rfl
  ·subst_eqs;have e:(List.range m).map (fun p=>iD ((rowOf es ls p).getD 0 0))=((List.range m).map fun p=>(rowOf es ls p).getD 0 0).map iD:=by rw [RT];rfl
   rw [e];refine BC (fun z=>?_) fun s hs le=>?_
   ·have:=congrArg List.length z;rw [RD,Rm] at this;simp at this;omega
   ·obtain ⟨p,hp,e1⟩:=RI.mp hs;have hp:=Ro.mp hp;refine q _ (JS T m2 L ⟨p,hp,by rw [<- e1];exact eF (yK m2 p hp)⟩ fun p' x hp' e2=>?_)
    have:=le _ (RI.mpr ⟨p',Ro.mpr hp',rfl⟩);rw [eF (yK m2 p' hp')] at e2;cases e2;exact this
 ·rename_i hall;have hk':k="places"\/k="ties":=by
   rcases hk with z | z | z
   ·exact .inl z
   ·exact .inr z
   ·exact absurd z hall
  refine g9 (fun p=>if decide (1 < (rowOf es ls p).length)=true then some (iD ((rowOf es ls p).getD 0 0 + (rowOf es ls p).getD 1 0)) else none) rfl (fun p hp I hI=>?_) ?_ (by rw [Rm];omega)
  ·simp only [dv,dw,dx,dy,dz,Nat.reduceBEq] at hI ⊢;split
   ·rename_i c;have c:1 < (rowOf es ls p).length:=by omega
    rw [if_pos c] at hI;rw [eF (by omega:0 < (rowOf es ls p).length),eF c]
    exact hI _ rfl
   ·rename_i c;rw [if_neg (by omega)] at hI
    exact hI _ rfl
  ·rw [eV];subst_eqs;have e:((List.range m).filter fun p=>decide (1 < (rowOf es ls p).length)).map (fun p=>iD ((rowOf es ls p).getD 0 0 + (rowOf es ls p).getD 1 0))=(((List.range m).filter fun p=>decide (1 < (rowOf es ls p).length)).map fun p=>(rowOf es ls p).getD 0 0 + (rowOf es ls p).getD 1 0).map iD:=by rw [RT];rfl
   rw [e];have mem:∀ p,p∈(List.range m).filter (fun p=>decide (1 < (rowOf es ls p).length))↔p < m/\1 < (rowOf es ls p).length:=fun p=>by rw [S5,Ro,SJ]
   have h0':2<=(av k m es).length:=by omega
   refine AH (fun z=>?_) fun s hs le=>?_
   ·refine q _ (yD T L hk' h0' (.inr ⟨fun p hp=>?_,rfl⟩) fun p x y hp e1 e2=>?_)
    ·rw [Ui] at z;rcases SG (rowOf es ls p).length 2 with c | c
     ·exact c
     ·have:=(mem p).mpr ⟨hp,c⟩;rw [z] at this;exact absurd this Rv
    ·rw [Ui] at z;have:=(mem p).mpr ⟨hp,by have:=aB e2;omega⟩
     rw [z] at this;exact absurd this Rv
   ·obtain ⟨p,hp,e1⟩:=RI.mp hs;obtain ⟨hp,c⟩:=(mem p).mp hp;refine q _ (yD T L hk' h0' (.inl ⟨p,_,_,hp,eF (by omega),eF c,e1.symm⟩) fun p' x y hp' e2 e3=>?_)
    have c':=aB e3;have:=le _ (RI.mpr ⟨p',(mem p').mpr ⟨hp',c'⟩,rfl⟩);rw [eF (by omega:0 < (rowOf es ls p').length)] at e2
    rw [eF c'] at e3;cases e2;cases e3;exact this
end PB
namespace Dv
open PySem L2
def jk (ps:UQ):TH:=ps.map fun e=>(cV e,.bool true)
abbrev k8 (ps:UQ):PyData:=.dict ((.none,.none)::jk ps)
def jP (ps:UQ)(e:Nat×Nat):UQ:=if e∈ps then ps else ps++[e]
theorem vK {e:Nat×Nat}:∀ {ps:UQ},((jk ps).any fun kv=>decide (kv.1=cV e))=decide (e∈ps)
 | []=>by simp [jk]
 | p::ps=>by
  have ih:=vK (e:=e) (ps:=ps);unfold jk at ih ⊢;rw [RZ,TJ,ih]
  by_cases h:p=e
  ·subst h;simp
  ·have:¬ (cV p=cV e):=fun z=>h (Kv.mp z)
   rw [S6 this,Bool.false_or];congr 1;refine propext ⟨fun z=>RG _ z,fun z=>(RJ.mp z).resolve_left fun q=>h q.symm⟩
def JY {ps:UQ}{e:Nat×Nat}:putD (jk ps) (cV e) (.bool true)=jk (jP ps e):=by
 unfold putD jP;rw [vK]
 by_cases h:e∈ps
 ·rw [if_pos (by simpa using h),if_pos h]
  unfold jk;rw [RT];refine Sm fun p hp=>?_
  show (if cV p=cV e then (cV p,PyData.bool true) else (cV p,PyData.bool true))=_
  rw [ite_self]
 ·rw [if_neg (by simpa using h),if_neg h]
  unfold jk;rw [Rw];rfl
def AA {ps:UQ}{e:Nat×Nat}:(dS (jk ps) (cV e)).isSome=decide (e∈ps):=by
 rw [<- vK];unfold dS;rw [Option.isSome_map,List.isSome_find?]
def ID {ps:UQ}{a b:Nat}{P:Ux}:iC false [.tuple [iD a,iD b],k8 ps] P=P .sh (.bool (decide ((a,b)∈ps))):=by
 show (([iD a,iD b].all mQ=true)/\P .sh (.bool (dS (jk ps) (cV (a,b))).isSome))=_;rw [AA];exact propext ⟨fun h=>h.2,fun h=>⟨rfl,h⟩⟩
def FG {ps:UQ}{a b:Nat}{P:Ux}:iC true [.tuple [iD a,iD b],k8 ps] P=P .sh (.bool !(decide ((a,b)∈ps))):=by
 show (([iD a,iD b].all mQ=true)/\P .sh (.bool !(dS (jk ps) (cV (a,b))).isSome))=_;rw [AA];exact propext ⟨fun h=>h.2,fun h=>⟨rfl,h⟩⟩
def Gn {ps:UQ}:(jk ps).map (·.1)=ps.map cV:=by unfold jk;rw [RT];rfl
def AE {ps:UQ}{P:Ux}:n6 [k8 ps] P=P (.ow false) (.list (ps.map cV)):=by
 show P (.ow false) (.list ((jk ps).map (·.1)))=_;rw [Gn]
def fJ {ps:UQ}{e f:Nat×Nat}:f∈jP ps e↔f∈ps\/f=e:=by
 unfold jP;split
 ·rename_i h;exact ⟨.inl,fun z=>z.elim id fun q=>q ▸ h⟩
 ·rw [RM,RH]
def Bl {ps:UQ}{e:Nat×Nat}(h:ps.Nodup):(jP ps e).Nodup:=by
 unfold jP;split
 ·exact h
 ·rename_i c;exact TU.mpr ⟨h,S7.mpr ⟨Rv,Sq⟩,fun x hx y hy z=>by cases RH.mp hy;exact c (z ▸ hx)⟩
def vB {ps:UQ}{a b:Nat}:putD (jk ps) (.tuple [iD a,iD b]) (.bool true)=jk (jP ps (a,b)):=JY (e:=(a,b))
def Ak {ps:UQ}:(jk ps).length=ps.length:=by unfold jk;exact RD ..
def dd:type_of% @vB/\type_of% @Ak/\type_of% @ID/\type_of% @FG/\type_of% @AE/\(∀ {i:Int},mQ (.int i)=true):=⟨@vB,@Ak,@ID,@FG,@AE,rfl⟩
def IF {α:Type}{l:List α}{enc:α->PyData}{tg:Tg}{b:DS}{D:jt}{E1:En}(I:Nat->En->Prop)(h0:I 0 E1)(hs:∀ (J:Uz) i a E,l[i]?=some a->(∀ E',I (i + 1) E'->J E')->I i E->∃ E2,cM tg (enc a) E=some E2/\b { D with nx:=J } E2)(he:∀ E,I l.length E->D.nx E):wH (l.map enc) tg b D E1:=oU I h0 (fun i a E ha hi=>hs (I (i + 1)) i a E ha (fun _ h=>h) hi) he
def xA {n:Nat}{enc:Nat->PyData}{tg:Tg}{b:DS}{D:jt}{E1:En}(I:Nat->En->Prop)(h0:I 0 E1)(hs:∀ (J:Uz) i E,i < n->(∀ E',I (i + 1) E'->J E')->I i E->∃ E2,cM tg (enc i) E=some E2/\b { D with nx:=J } E2)(he:∀ E,I n E->D.nx E):wH ((List.range n).map enc) tg b D E1:=qH I h0 (fun i E ha hi=>hs (I (i + 1)) i E ha (fun _ h=>h) hi) he
def Ow {α:Type}{l:List α}{enc:α->PyData}{cs:Uq}{tg:Tg}{c:DT}{r:DC}{E1:En}{Q:Ut}(E0:En)(I:Nat->Ub->En->Prop)(h0:bD cs E1=some E0)(h1:I 0 [] E0)(hs:∀ (J:Ub->En->Prop) i a ys E,l[i]?=some a->(∀ ys' E',I (i + 1) ys' E'->J ys' E')->I i ys E->∃ E2,cM tg (enc a) E=some E2/\c xF E2 fun E3 b=>if b=true then r xF ys E3 J else J ys E3)
  (he:∀ ys E,I l.length ys E->∃ E2,bD cs E=some E2/\Q E2 (.ow false) (.list ys)):rY cs (l.map enc) tg c r E1 Q:=xu E0 I h0 h1 (fun i a ys E ha hi=>hs (I (i + 1)) i a ys E ha (fun _ _ h=>h) hi) he
end Dv
namespace L2
section
variable {α β:Type}
theorem Bh (c:Uq)(x:α):∀ gs:List (List Nat×List α),(∃ g∈c6 c x gs,g.1=c/\x∈g.2)/\∀ g∈gs,∃ g'∈c6 c x gs,g'.1=g.1/\∀ y∈g.2,y∈g'.2
 | []=>⟨⟨_,RA,rfl,RA⟩,fun g hg=>(nomatch hg)⟩
 | (d,xs)::gs=>by
  obtain ⟨⟨g0,h1,h2,h3⟩,h4⟩:=Bh c x gs
  by_cases e:d=c
  ·have e2:c6 c x ((d,xs)::gs)=(d,xs++[x])::gs:=if_pos e;rw [e2];refine ⟨⟨_,RA,e,RM.mpr (.inr RA)⟩,fun g hg=>?_⟩
   rcases RJ.mp hg with rfl | hg
   ·exact ⟨_,RA,rfl,fun y hy=>RM.mpr (.inl hy)⟩
   ·exact ⟨g,RG _ hg,rfl,fun y hy=>hy⟩
  ·have e2:c6 c x ((d,xs)::gs)=(d,xs)::c6 c x gs:=if_neg e;rw [e2];refine ⟨⟨g0,RG _ h1,h2,h3⟩,fun g hg=>?_⟩
   rcases RJ.mp hg with rfl | hg
   ·exact ⟨_,RA,rfl,fun y hy=>hy⟩
   ·obtain ⟨g',h5,h6⟩:=h4 g hg;exact ⟨g',RG _ h5,h6⟩
theorem AN (c:Uq)(x:α):∀ gs:List (List Nat×List α),∀ g∈c6 c x gs,∀ y∈g.2,(g.1=c/\y=x)\/∃ g'∈gs,g'.1=g.1/\y∈g'.2
 | [],g,hg,y,hy=>by
  cases RH.mp hg;exact .inl ⟨rfl,RH.mp hy⟩
 | (d,xs)::gs,g,hg,y,hy=>by
  by_cases e:d=c
  ·have e2:c6 c x ((d,xs)::gs)=(d,xs++[x])::gs:=if_pos e;rw [e2] at hg;rcases RJ.mp hg with rfl | hg
   ·rcases RM.mp hy with hy | hy
    ·exact .inr ⟨_,RA,rfl,hy⟩
    ·exact .inl ⟨e,RH.mp hy⟩
   ·exact .inr ⟨g,RG _ hg,rfl,hy⟩
  ·have e2:c6 c x ((d,xs)::gs)=(d,xs)::c6 c x gs:=if_neg e;rw [e2] at hg;rcases RJ.mp hg with rfl | hg
   ·exact .inr ⟨_,RA,rfl,hy⟩
   ·rcases AN c x gs g hg y hy with z | ⟨g',h1,h2⟩
    ·exact .inl z
    ·exact .inr ⟨g',RG _ h1,h2⟩
structure GC (l:List (List Nat×α))(gs:List (List Nat×List α)):Prop where
 nd:(gs.map (·.1)).Nodup
 of:∀ g∈gs,∀ x∈g.2,(g.1,x)∈l
 all:∀ q∈l,∃ g∈gs,g.1=q.1/\q.2∈g.2
theorem Al (l:List (List Nat×α)):∀ n,GC (l.take n) (iG (l.take n))
 | 0=>by
  rw [List.take_zero];exact ⟨.nil,fun _ h=>(nomatch h),fun _ h=>(nomatch h)⟩
 | n + 1=>by
  have ih:=Al l n;rw [List.take_succ];cases e:l[n]? with
  | none =>
   rw [Option.toList_none,SN];exact ih
  | some q =>
   rw [Option.toList_some,mS];obtain ⟨h1,h2⟩:=Bh q.1 q.2 (iG (l.take n));refine ⟨(wW q.1 q.2 _ ih.nd).1,fun g hg x hx=>?_,fun p hp=>?_⟩
   ·rcases AN q.1 q.2 _ g hg x hx with ⟨e1,e2⟩ | ⟨g',h3,h4,h5⟩
    ·rw [e1,e2];exact RM.mpr (.inr RA)
    ·rw [<- h4];exact RM.mpr (.inl (ih.of g' h3 x h5))
   ·rcases RM.mp hp with hp | hp
    ·obtain ⟨g,h3,h4,h5⟩:=ih.all p hp;obtain ⟨g',h6,h7,h8⟩:=h2 g h3;exact ⟨g',h6,h7.trans h4,h8 _ h5⟩
    ·cases RH.mp hp;exact h1
def gc (l:List (List Nat×α)):GC l (iG l):=by
 have:=Al l l.length;rwa [Sd] at this
def oq (f:α->Uq)(ts:List α):List (List α):=((iG ((ts.map f).zip ts)).filter fun g=>decide (1 < g.2.length)).map (·.2)
def lg {f:α->Uq}{ts:List α}{q:List Nat×α}:q∈(ts.map f).zip ts↔q.1=f q.2/\q.2∈ts:=by
 induction ts with
 | nil=>simp
 | cons t ts ih =>
  rw [RZ,List.zip_cons_cons,RJ,ih,RJ];constructor
  ·rintro (rfl | ⟨h1,h2⟩)
   ·exact ⟨rfl,.inl rfl⟩
   ·exact ⟨h1,.inr h2⟩
  ·rintro ⟨h1,h2 | h2⟩
   ·exact .inl (Prod.ext (by rw [h1,h2]) h2)
   ·exact .inr ⟨h1,h2⟩
def zp {r:List α}(ha:a∈r)(hb:b∈r)(ne:a≠b):1 < r.length:=by
 cases r with
 | nil=>cases ha
 | cons x r =>
  cases r with
  | nil=>exact absurd ((RH.mp ha).trans (RH.mp hb).symm) ne
  | cons y r=>exact Nat.succ_lt_succ (Nat.succ_pos _)
def zM {f:α->Uq}{r:List α}(h:r∈oq f ts):(∀ x∈r,x∈ts)/\1 < r.length/\∀ x∈r,∀ y∈r,f x=f y:=by
 obtain ⟨g,hg,rfl⟩:=RI.mp h;obtain ⟨hg,l⟩:=S5.mp hg;have c:=(gc ((ts.map f).zip ts)).of g hg;refine ⟨fun x hx=>(lg.mp (c x hx)).2,Rn l,fun x hx y hy=>?_⟩
 rw [<- (lg.mp (c x hx)).1,<- (lg.mp (c y hy)).1]
def KJ {f:α->Uq}(ha:a∈ts)(hb:b∈ts)(ne:a≠b)(e:f a=f b):∃ r∈oq f ts,∀ x∈ts,f x=f a->x∈r:=by
 have c:=gc ((ts.map f).zip ts);obtain ⟨g,hg,h1,h2⟩:=c.all (f a,a) (lg.mpr ⟨rfl,ha⟩);have all:∀ x∈ts,f x=f a->x∈g.2:=fun x hx ex=>by
  obtain ⟨g',hg',h3,h4⟩:=c.all (f x,x) (lg.mpr ⟨rfl,hx⟩);have eg:g'=g:=by
   have n:=c.nd;obtain ⟨i,li,ei⟩:=List.getElem_of_mem hg;obtain ⟨j,lj,ej⟩:=List.getElem_of_mem hg';have pw:=T7.mp n;have key:g'.1=g.1:=by rw [h3,h1,ex]
   rcases UK i j with l | l | l
   ·have:=pw i j (by rw [RD];exact li) (by rw [RD];exact lj) l
    rw [Tc,Tc,ei,ej] at this;exact absurd key.symm this
   ·subst l;rw [<- ei,<- ej]
   ·have:=pw j i (by rw [RD];exact lj) (by rw [RD];exact li) l
    rw [Tc,Tc,ei,ej] at this;exact absurd key this
  rw [<- eg];exact h4
 exact ⟨g.2,RI.mpr ⟨g,S5.mpr ⟨hg,Rq (zp (all a ha rfl) (all b hb e.symm) ne)⟩,rfl⟩,all⟩
def K1 (ha:a∈ts)(hb:b∈ts)(ne:a≠b):(∃ r∈oq f ts,a∈r/\b∈r)↔f a=f b:=by
 constructor
 ·rintro ⟨r,hr,h1,h2⟩;exact (zM hr).2.2 a h1 b h2
 ·intro e;obtain ⟨r,hr,all⟩:=KJ ha hb ne e;exact ⟨r,hr,all a ha rfl,all b hb e.symm⟩
end
end L2
namespace PB
open PySem L2 Dv Gr
def Km:Cv x E Q=Q E (.st false) (.dict [(.none,.none)]):=rfl
def LO {p:Bool}:Kd.pin (.st p)=p:=rfl
def zN (g:List Nat×List Th):PyData×PyData:=(.tuple (g.1.map iD),.list (g.2.map cz))
theorem Be:∀ {a b:Uq},a.map iD=b.map iD->a=b
 | [],[],_=>rfl
 | [],_::_,h=>by cases h
 | _::_,[],h=>by cases h
 | x::a,y::b,h=>by
  rw [RZ,RZ,TX] at h;rw [uG.mp h.1,Be h.2]
theorem yl (c:Uq)(t:Th):∀ gs:List (List Nat×List Th),kJ (gs.map zN) (.tuple (c.map iD)) (cz t)=(c6 c t gs).map zN
 | []=>rfl
 | (d,xs)::gs=>by
  rw [RZ];show kJ ((PyData.tuple (d.map iD),PyData.list (xs.map cz))::gs.map zN) _ _=_;unfold kJ c6
  by_cases e:d=c
  ·rw [if_pos (by rw [e]),if_pos e,RZ]
   show (PyData.tuple (d.map iD),PyData.list (xs.map cz++[cz t]))::_=_;unfold zN;rw [Rw];rfl
  ·rw [if_neg (fun z=>e (Be (PyData.tuple.inj z))),if_neg e,RZ,yl c t gs]
   rfl
def Lu (es:UQ)(ls:Uq)(ts:List Th):PyData:=.list ((oq (aq es ls) ts).map fun r=>.list (r.map cz))
def Ce:aZ:=fun dd Q x=>∃ m es ls k,dd=[wD m es,nD ls,.str k]/\dF m es/\cH m ls/\Q [] (.ow false) (Lu es ls (av k m es))
def Lr:∀ dd Q x,Ce dd Q x->pM lS jh qJ (aT [false,false,false] Q x) (ini [false,false,false] dd++List.replicate 5 none):=by
 rintro _ Q x ⟨m,es,ls,k,rfl,W,L,q⟩;have hm:=W.le;have hL:=L.len;have hlen:=iR (k:=k) W;unfold pM;subst_eqs;refine uO L ?_;subst_eqs;refine ⟨m,es,k,rfl,W,?_⟩;simp_arith [Km,LO];refine ⟨m,es,ls,av k m es,rfl,W,L.lt,by omega,mq W.gd,hlen,?_⟩
 subst_eqs;have ez:∀ ts:List Th,ts.zip ts=ts.map fun t=>(t,t):=fun ts=>by
  induction ts with
  | nil=>rfl
  | cons a ts ih=>rw [List.zip_cons_cons,ih];rfl
 rw [ez,RT];generalize av k m es=ts at q hlen ⊢;refine IF (fun i E=>∃ (o5 o6:Uv),E=[some (.sh,wD m es),some (.sh,nD ls),some (.sh,.str k),some (.sh,.list (ts.map cz)),some (.st false,.dict ((.none,.none)::(iG (((ts.map (aq es ls)).zip ts).take i)).map zN)),o5,o6,none]/\bM o5=true/\bM o6=true) ⟨none,none,rfl,rfl,rfl⟩ ?_ ?_
 ·rintro J i t _ hi hJ ⟨o5,o6,rfl,h5,h6⟩;simp_arith [h5,h6,Function.comp];have li:=aB hi;obtain ⟨gl,gq⟩:=sR i ((ts.map (aq es ls)).zip ts);have et:((ts.map (aq es ls)).zip ts).take (i + 1)=((ts.map (aq es ls)).zip ts).take i++[(aq es ls t,t)]:=by
   rw [List.take_succ,List.getElem?_zip_eq_some (z:=(aq es ls t,t)) |>.mpr ⟨by rw [RN,hi];rfl,hi⟩]
   rfl
  rw [et,mS] at hJ;generalize iG (((ts.map (aq es ls)).zip ts).take i)=gs at gl gq hJ ⊢;refine ⟨gs.map zN,.sh,(aq es ls t).map iD,.sh,cz t,_,rfl,rfl,rfl,?_,rfl,by decide,rfl,?_,?_,?_⟩
  ·rw [List.all_map];exact RP.mpr fun _ _=>rfl
  ·rw [RD];exact Nat.lt_of_le_of_lt (show _<=2000 by omega) (by decide)
  ·rw [List.all_map];refine RP.mpr fun g hg=>Rq ?_
   show (g.2.map cz).length < sizeLine;rw [RD];exact Nat.lt_of_le_of_lt (show _<=2000 by have:=gq g hg;omega) (by decide)
  ·rw [yl];exact hJ _ ⟨_,_,rfl,rfl,rfl⟩
 ·rintro _ ⟨o5,o6,rfl,h5,h6⟩;have hz:((ts.map (aq es ls)).zip ts).length=ts.length:=by rw [List.length_zip,RD,Nat.min_self]
  rw [show ts.length=((ts.map (aq es ls)).zip ts).length from hz.symm,Sd]
  subst_eqs;obtain ⟨gl,gq⟩:=sR ((ts.map (aq es ls)).zip ts).length ((ts.map (aq es ls)).zip ts);rw [Sd,hz] at gl;have q2:Q [] (.ow false) (.list (((iG ((ts.map (aq es ls)).zip ts)).filter fun g=>decide (1 < g.2.length)).map fun g=>.list (g.2.map cz))):=by
   unfold Lu oq at q;rw [RT] at q;exact q
  clear q gq;generalize iG ((ts.map (aq es ls)).zip ts)=gs at gl q2 ⊢;refine ⟨gs.map zN,rfl,?_⟩;subst_eqs;rw [RT];refine g9 (fun g=>if decide (1 < g.2.length)=true then some (.list (g.2.map cz)) else none) rfl (fun g hg I hI=>?_) ?_ (by omega)
  ·show ∃ E2,cM (.nm 7) (.list (g.2.map cz)) _=some E2/\_;simp only [dv,dw,dx,dy,dz,Nat.reduceBEq] at hI ⊢;split
   ·rename_i c;rw [if_pos (by omega)] at hI
    exact hI _ rfl
   ·rename_i c;rw [if_neg (by omega)] at hI
    exact hI _ rfl
  ·rw [eV];subst_eqs;exact q2
def CJ:aZ:=fun dd Q x=>∃ m es ls k,dd=[wD m es,nD ls,.str k]/\dF m es/\cH m ls/\Q [] .sh (.bool (decide (oq (aq es ls) (av k m es)=[])))
def Mp:∀ dd Q x,CJ dd Q x->pS Ce (aT [false,false,false] Q x) (ini [false,false,false] dd++List.replicate 0 none):=by
 rintro _ Q x ⟨m,es,ls,k,rfl,W,L,q⟩;unfold pS;subst_eqs;refine ⟨m,es,ls,k,rfl,W,L,?_⟩;unfold Lu;subst_eqs;have e:(!!(List.map (fun r=>PyData.list (List.map cz r)) (oq (aq es ls) (av k m es))).isEmpty)=decide (oq (aq es ls) (av k m es)=[]):=by
  rw [Bool.not_not,List.isEmpty_map];cases oq (aq es ls) (av k m es) <;> rfl
 rw [e];exact q
end PB
namespace PB
open PySem L2 Dv
def iA:DS:=aC (aS 2 (ah eX [.ev (ah (lT false true) [.pk 0,.pk 1])])) (aC (fM (wk (ah (lT true true) [.pk 0,.pk 1,.ev (dC (.int 63))])) (.tp [3,4]) (fH 2 (ah i8 [.pk 3,.pk 1]) (ah dH [.ev (ah jg [.ev (ah bN [.pk 2,.ev (ah i8 [.pk 3,.pk 1])]),.ev (dC (.int 31))]),.pk 4]))) (mX 2))
def jo:DS:=aC (aS 2 (dC (.int 0))) (qR (cE (bG (ah nK [.ev (ah cU [.pk 0]),.ev (dC (.int 0))])) (aS 2 (ah dH [.ev (ah bN [.pk 0,.ev (ah i8 [.pk 1,.ev (ah cU [.pk 0])])]),.ev (ah x6 [.pk 1,.ev (ah cU [.pk 0])])])) (cR)) (aC (aS 3 (dC (.int 0))) (qR (cE (bG (p8 (ah yJ [.pk 2,.ev (dC (.int 0))]) (ah FO [.pk 2,.ev (ah HV [.ev (dC (.int 10)),.ev (dC (.int 18))])]))) (aS 3 (ah yC [.pk 2])) (cR)) (bH (ah f6 [.pk 3,.ev (ah i8 [.ev (ah dH [.ev (ah jg [.ev (ah i8 [.pk 2,.ev (dC (.int 2147483629))]),.ev (dC (.int 69621))]),.ev (ah jg [.ev (ah jg [.ev (dC (.int 40009)),.ev (ah dH [.pk 1,.ev (dC (.int 1))])]),.ev (ah dH [.pk 1,.ev (dC (.int 3))])])]),.ev (dC (.int 2147483629))])])))))
def i9:DS:=aC (cE (bG (ah nK [.ev (ah bN [.pk 0,.ev (dC (.int 0))]),.ev (dC (.int 0))])) (aC (aS 2 (ah i8 [.ev (ah bN [.pk 0,.ev (dC (.int 0))]),.pk 1])) (aC (fH 0 (dC (.int 0)) (ah x6 [.ev (ah bN [.pk 0,.ev (dC (.int 0))]),.pk 1])) (mX 2))) (cR)) (aC (fH 0 (dC (.int 1)) (ah i8 [.ev (ah dH [.ev (ah jg [.ev (ah bN [.pk 0,.ev (dC (.int 1))]),.ev (dC (.int 48271))]),.ev (dC (.int 12820163))]),.ev (dC (.int 2147483647))])) (bH (ah i8 [.ev (ah x6 [.ev (ah i8 [.ev (ah jg [.ev (ah i8 [.ev (ah jg [.ev (ah bN [.pk 0,.ev (dC (.int 1))]),.ev (ah bN [.pk 0,.ev (dC (.int 1))])]),.ev (dC (.int 2147483629))]),.ev (dC (.int 69621))]),.ev (dC (.int 2147483587))]),.ev (dC (.int 8))]),.pk 1])))
def ji (sp_law_take:aZ):DS:=aC (aS 3 (ah eX [.pk 1])) (bH (br [4] (jy kQ [.pk 2]) (.nm 4) (dR) (bL sizeLine (uU vo 3 [aA sp_law_take [true,false] [.pk 0,.ev (ah cU [.pk 3])]]))))
def gS (sp_law_some:aZ):DS:=aC (aS 3 (aA sp_law_some [true,false,false] [.pk 0,.ev (ah lA [.pk 1]),.pk 1])) (bH (ah gz [.pk 1,.ev (ah nP [.ev (ah tU [.ev (br [4,5] (iE (aX 2)) (.tp [4,5]) (dR) (bL sizeLine (ah gz [.ev (ah mH [.ev (ah bN [.pk 3,.pk 4]),.ev (ah bN [.pk 3,.pk 5])]),.ev (ah oY [.ev (ah bN [.pk 3,.pk 4]),.ev (ah bN [.pk 3,.pk 5])])])))])])]))
def iw (sp_law_take:aZ):DS:=aC (aS 2 (aA sp_law_take [true,false] [.pk 0,.ev (dC (.int 6))])) (bH (br [3] (jy kQ [.pk 1]) (.nm 3) (bG (ah yJ [.ev (aA sp_law_take [true,false] [.pk 0,.ev (dC (.int 6))]),.ev (ah bN [.ev (ah f6 [.ev (dC (.int 0)),.ev (dC (.int 1)),.ev (dC (.int 2)),.ev (dC (.int 3)),.ev (dC (.int 5)),.ev (dC (.int 6))]),.pk 2])])) (bL sizeLine (aX 3))))
def jE (sp_law_take sp_law_named:aZ):DS:=aC (aS 2 (ah dH [.ev (dC (.int 1)),.ev (aA sp_law_take [true,false] [.pk 0,.pk 1])])) (aC (aS 3 (aA sp_law_take [true,false] [.pk 0,.ev (dC (.int 5))])) (aC (aS 4 (GF)) (aC (fM (jy DX [.ev (dC (.int 1)),.pk 2]) (.nm 5) (aC (aS 6 (aA sp_law_take [true,false] [.pk 0,.pk 5])) (qR (cE (bG (ah jv [.pk 3,.ev (dC (.int 2))])) (aS 6 (ah nJ [.pk 5,.ev (dC (.int 1))])) (cR)) (qR (cE (bG (kE (ah jv [.pk 3,.ev (dC (.int 4))]) (ah nK [.pk 5,.ev (dC (.int 1))]))) (fM (jy kQ [.pk 5]) (.nm 7) (cE (bG (ah (iC false) [.ev (ah gz [.ev (ah mH [.pk 7,.pk 6]),.ev (ah oY [.pk 7,.pk 6])]),.pk 4])) (fH 4 (ah gz [.pk 7,.pk 5]) (dC (.bool true))) (cR))) (cR)) (qR (cE (bG (ah jv [.pk 3,.ev (dC (.int 3))])) (fM (jy kQ [.pk 5]) (.nm 7) (fH 4 (ah gz [.pk 7,.pk 5]) (dC (.bool true)))) (cR)) (cE (bG (p8 (ah yJ [.pk 3,.ev (dC (.int 3))]) (p8 (ah jv [.pk 5,.ev (dC (.int 1))]) (ah jv [.ev (aA sp_law_take [true,false] [.pk 0,.ev (dC (.int 2))]),.ev (dC (.int 0))])))) (fH 4 (ah gz [.pk 6,.pk 5]) (dC (.bool true))) (cR))))))) (qR (cE (bG (kE (ah jv [.pk 3,.ev (dC (.int 2))]) (kE (ah nK [.pk 2,.ev (dC (.int 2))]) (ah nK [.ev (aA sp_law_take [true,false] [.pk 0,.ev (dC (.int 3))]),.ev (dC (.int 0))])))) (fH 4 (ah gz [.ev (dC (.int 0)),.ev (ah nJ [.pk 2,.ev (dC (.int 1))])]) (dC (.bool true))) (cR)) (aC (fM (jy kQ [.ev (ah jg [.ev (aA sp_law_take [true,false] [.pk 0,.ev (dC (.int 7))]),.ev (ah oG [.ev (kE (ah jv [.pk 3,.ev (dC (.int 1))]) (ah nK [.pk 2,.ev (dC (.int 1))]))])])]) (.nm 5) (aC (aS 8 (aA sp_law_take [true,false] [.pk 0,.pk 2])) (aC (aS 9 (ah i8 [.ev (ah dH [.ev (ah dH [.pk 8,.ev (dC (.int 1))]),.ev (aA sp_law_take [true,false] [.pk 0,.ev (ah nJ [.pk 2,.ev (dC (.int 1))])])]),.pk 2])) (fH 4 (ah gz [.ev (ah mH [.pk 8,.pk 9]),.ev (ah oY [.pk 8,.pk 9])]) (dC (.bool true)))))) (bH (aA sp_law_named [true,false,false] [.pk 0,.pk 2,.ev (ah n6 [.pk 4])])))))))
def fD (sp_things_of sp_parters_of:aZ):DS:=aC (aS 3 (aA sp_things_of [false,false] [.pk 0,.pk 2])) (aC (aS 4 (dC .none)) (aC (fM (jy kQ [.ev (ah cU [.pk 3])]) (.nm 5) (fM (jy kQ [.pk 5]) (.nm 6) (aC (aS 7 (ah cU [.ev (br [8] (iE (aA sp_parters_of [false,false,false] [.pk 0,.ev (ah bN [.pk 3,.pk 5]),.ev (ah bN [.pk 3,.pk 6])])) (.nm 8) (bG (ah (iC false) [.pk 8,.pk 1])) (bL sizeLine (aX 8)))])) (cE (bG (p8 (ah (cZ false) [.pk 4,.ev (dC .none)]) (ah yJ [.pk 7,.pk 4]))) (aS 4 (aX 7)) (cR))))) (mX 4)))
def iB (sp_strength_of sp_law_by_parters sp_is_tree sp_tree_strength sp_is_known sp_most_strength:aZ):DS:=aC (aS 3 (aA sp_strength_of [false,false,false] [.pk 0,.ev (ah eX [.pk 1]),.pk 2])) (aC (cE (bG (ah iY [.pk 3,.ev (aA sp_law_by_parters [false,false,false] [.pk 0,.pk 1,.pk 2])])) (bH (dC (.bool false))) (cR)) (aC (cE (bG (kE (aA sp_is_tree [false] [.pk 0]) (ah iY [.ev (aA sp_tree_strength [false,false,false] [.pk 0,.ev (ah eX [.pk 1]),.pk 2]),.pk 3]))) (bH (dC (.bool false))) (cR)) (aC (cE (bG (ah iY [.ev (aA sp_is_known [false,false,false] [.pk 0,.ev (ah eX [.pk 1]),.pk 2]),.ev (p8 (ah (cZ false) [.pk 3,.ev (dC .none)]) (ah nK [.pk 3,.ev (dC (.int 0))]))])) (bH (dC (.bool false))) (cR)) (aC (cE (bG (ah (cZ false) [.pk 3,.ev (dC .none)])) (bH (ah (cZ false) [.ev (aA sp_most_strength [false,false] [.pk 0,.pk 2]),.ev (dC .none)])) (cR)) (aC (aS 4 (br [5] (iE (aX 1)) (.nm 5) (dR) (bL sizeLine (aA sp_strength_of [false,false,false] [.pk 0,.ev (br [6] (iE (aX 1)) (.nm 6) (bG (ah iY [.pk 6,.pk 5])) (bL sizeLine (aX 6))),.pk 2])))) (aC (cE (bG (p8 (kE (ah nK [.pk 3,.ev (dC (.int 0))]) (ah iY [.ev (ah ug [.pk 4]),.ev (ah nJ [.pk 3,.ev (dC (.int 1))])])) (pe (ah vh [.ev (br [5] (iE (aX 4)) (.nm 5) (dR) (bL sizeLine (ah Ax [.pk 5,.pk 3])))])))) (bH (dC (.bool false))) (cR)) (bH (ah FO [.ev (aA sp_most_strength [false,false] [.pk 0,.pk 2]),.pk 3]))))))))
def fW (sp_law_take sp_fitting_things:aZ):DS:=aC (aS 4 (br [9] (iE (aX 2)) (.nm 9) (dR) (bL sizeLine (aA sp_law_take [true,false] [.pk 0,.ev (dC (.int 4))])))) (aC (aS 5 (aA sp_law_take [true,false] [.pk 0,.ev (dC (.int 4))])) (aC (aS 6 (aA sp_fitting_things [false,false,false,false,false] [.pk 1,.ev (ah eX [.pk 2]),.pk 3,.ev (ah eX [.pk 4]),.pk 5])) (aC (aS 7 (ah f6 [.ev (aA sp_fitting_things [false,false,false,false,false] [.pk 1,.ev (ah eX [.pk 2]),.pk 3,.ev (ah eX [.pk 4]),.ev (ah dH [.pk 5,.ev (dC (.int 1))])])])) (aC (fM (jy kQ [.ev (ah mH [.ev (dC (.int 3)),.ev (ah cU [.pk 2])])]) (.nm 8) (dM (uU fT 7 [aA sp_fitting_things [false,false,false,false,false] [.pk 1,.ev (ah eX [.pk 2]),.pk 3,.ev (ah dH [.ev (ah dH [.ev (ah (lT false true) [.pk 4,.pk 8]),.ev (ah f6 [.ev (dC .none)])]),.ev (ah (lT true false) [.pk 4,.ev (ah dH [.pk 8,.ev (dC (.int 1))])])]),.pk 5]]))) (bH (ah vh [.ev (br [9] (iE (aX 7)) (.nm 9) (dR) (bL sizeLine (ah vh [.ev (br [10] (iE (aX 6)) (.nm 10) (dR) (bL sizeLine (ah (iC false) [.pk 10,.pk 9])))])))]))))))
def pQ (sp_law_cells sp_law_pool sp_law_web sp_law_looks sp_law_right sp_law_more_fit:aZ):DS:=aC (aS 1 (aA sp_law_cells [false,false] [.pk 0,.ev (dC (.int 3))])) (aC (fM (jy kQ [.ev (ah oY [.ev (dC (.int 1)),.ev (ah cU [.pk 1])])]) (.nm 2) (aC (aS 3 (aA sp_law_pool [false,false] [.pk 1,.pk 2])) (aC (aS 4 (aA sp_law_web [true,false] [.pk 3,.ev (dC (.int 7))])) (aC (aS 5 (aA sp_law_looks [true,false] [.pk 3,.ev (ah bN [.pk 4,.ev (dC (.int 0))])])) (fM (iE (ah f6 [.ev (dC (.str "places")),.ev (dC (.str "ties")),.ev (dC (.str "all"))])) (.nm 6) (cE (bG (p8 (pe (aA sp_law_right [false,false,false] [.pk 4,.pk 5,.pk 6])) (pe (aA sp_law_more_fit [true,false,false,false] [.pk 3,.pk 4,.pk 5,.pk 6])))) (bH (dC (.bool false))) (cR))))))) (bH (dC (.bool true))))
abbrev dW (a b:Int):PyData:=.list [.int a,.int b]
def ir:aZ:=fun ds Q x=>∃ (a b:Int) (m:Nat),ds=[dW a b,iD m]/\0 < m/\m < 2 ^ 200/\0<=b/\b < 2147483647/\∀ (r:Nat) a' b',r < m->0<=b'->b' < 2147483647->Q [dW a' b'] .sh (iD r)
def JB:∀ ds Q x,ir ds Q x->i9 (aT [true,false] Q x) (ini [true,false] ds++List.replicate 1 none):=by
 rintro _ Q x ⟨a,b,m,rfl,h1,h2,h3,h4,q⟩;unfold i9
 try bv_omega
 try simp only [dv,dw,dx]
 have hm:(0:Int) < m:=by omega
 have r0:∀ z:Int,∃ r:Nat,r < m/\z % (m:Int)=(r:Int):=fun z=>by
  have e1:=Int.emod_nonneg z (by omega:(m:Int)≠0)
  have e2:=Int.emod_lt_of_pos z hm;exact ⟨(z % m).toNat,by omega,by omega⟩
 split
 ·obtain ⟨r,hr,e⟩:=r0 a;refine ⟨hm,⟨hm,?_⟩,?_⟩
  ·have:(m:Int) < ((2 ^ 200:Nat):Int):=Int.ofNat_lt.mpr h2;have:((2 ^ 200:Nat):Int) < 115792089237316195423570985008687907853269984665640564039457584007913129639936:=by decide
   omega
  ·rw [e];exact q r _ _ hr h3 h4
 ·have c1:0<=(b * 48271 + 12820163) % 2147483647:=Int.emod_nonneg _ (by decide)
  have c2:(b * 48271 + 12820163) % 2147483647 < 2147483647:=Int.emod_lt_of_pos _ (by decide)
  generalize (b * 48271 + 12820163) % 2147483647=y at *;have c3:0<=y * y % 2147483629:=Int.emod_nonneg _ (by decide)
  have c4:y * y % 2147483629 < 2147483629:=Int.emod_lt_of_pos _ (by decide)
  refine ⟨.inr (by clear q r0 c3 c4;omega),by decide,.inl (by clear q r0 c3 c4;omega),by decide,.inr (by clear q r0 c1 c2;omega),by decide,⟨by decide,by decide⟩,hm,?_⟩
  obtain ⟨r,hr,e⟩:=r0 (y * y % 2147483629 * 69621 % 2147483587 / 8);rw [e];exact q r _ _ hr c1 c2
def xE:aZ:=fun ds Q x=>∃ (cs:Ur) (k:Nat),ds=[.list (cs.map .int),iD k]/\cs.length<=10/\k<=10/\∀ a b:Int,0<=b->b < 2147483647->Q [] (.ow false) (dW a b)
def Kr:∀ ds Q x,xE ds Q x->jo (aT [false,false] Q x) (ini [false,false] ds++List.replicate 2 none):=by
 rintro _ Q x ⟨cs,k,rfl,h1,h2,q⟩;unfold jo
 try bv_omega
 try simp only [dv,dw,dx]
 refine ⟨fun E=>∃ cell:Int,E=[some (.sh,.list (cs.map .int)),some (.sh,iD k),some (.sh,.int cell),none],?_,?_⟩
 ·try bv_omega
  try simp only [dv,dw,dx]
  split
  ·rename_i h;rw [RD] at h ⊢;have hl:0 < cs.length:=by omega
   refine ⟨h,?_⟩;rw [<- Int.natCast_emod,qA,RS (Nat.mod_lt _ hl)];exact ⟨⟨h,by omega⟩,_,rfl⟩
  ·exact ⟨0,rfl⟩
 ·rintro _ ⟨cell,rfl⟩
  try bv_omega
  try simp only [dv,dw,dx]
  refine J0 ?_
  try bv_omega
  try simp only [dv,dw,dx]
  have e1:=Int.emod_nonneg cell (by decide:(2147483629:Int)≠0)
  have e2:=Int.emod_lt_of_pos cell (by decide:(0:Int) < 2147483629)
  have a1:kB (cell % 2147483629) 69621:=.inr (by clear q;omega)
  clear e1 e2;have a2:kB 40009 ((k:Int) + 1):=.inl (by clear q a1;omega)
  have a3:kB (40009 * ((k:Int) + 1)) ((k:Int) + 3):=.inr (by clear q a1 a2;omega)
  have e3:=Int.emod_nonneg (cell % 2147483629 * 69621 + 40009 * ((k:Int) + 1) * (k + 3)) (by decide:(2147483629:Int)≠0)
  have e4:=Int.emod_lt_of_pos (cell % 2147483629 * 69621 + 40009 * ((k:Int) + 1) * (k + 3)) (by decide:(0:Int) < 2147483629)
  have fin:∀ z:Int,0 < (2147483629:Int)/\kB (cell % 2147483629) 69621/\kB 40009 ((k:Int) + 1)/\kB (40009 * ((k:Int) + 1)) ((k:Int) + 3)/\0 < (2147483629:Int)/\0 + 1 + 1<=16777216/\Q [] (Kd.ow false) (PyData.list [PyData.int z,PyData.int ((cell % 2147483629 * 69621 + 40009 * ((k:Int) + 1) * ((k:Int) + 3)) % 2147483629)]):=fun z=>⟨by decide,a1,a2,a3,by decide,by decide,q _ _ e3 (Int.lt_trans e4 (by decide))⟩
  split
  ·exact fin _
  ·refine ⟨⟨by decide,by decide,by decide⟩,?_⟩
   split
   ·exact fin _
   ·exact fin _
def uR:aZ:=fun ds Q x=>∃ (ns:Ur) (m:Nat),ds=[.list (ns.map .int),iD m]/\0 < m/\m<=10/\∀ cs:Ur,cs.length<=m->Q [] (.ow false) (.list (cs.map .int))
def Hw:∀ ds Q x,uR ds Q x->iA (aT [false,false] Q x) (ini [false,false] ds++List.replicate 3 none):=by
 rintro _ Q x ⟨ns,m,rfl,h0,h1,q⟩;unfold iA
 try bv_omega
 try simp only [dv,dw,dx,dy,zU,RD,show (63:Int)=((63:Nat):Int) from rfl,yr,sJ]
 have hm:(0:Int) < m:=by omega
 refine oU (fun i E=>∃ (cs:Ur)(a b:Uv),E=[some (.sh,.list (ns.map .int)),some (.sh,iD m),some (.ow false,.list (cs.map .int)),a,b]/\bM a=true/\bM b=true/\cs.length=min m ns.length) ?_ ?_ ?_
 ·exact ⟨ns.take m,none,none,rfl,rfl,rfl,Sj⟩
 ·rintro i ⟨d,k⟩ E hi ⟨cs,a,b,rfl,ha,hb,hl⟩;have hi:=aB hi;rw [List.length_zipIdx,Sy,Sj] at hi;have hk:k % m < cs.length:=by have:=Nat.mod_lt k h0;omega
  try bv_omega
  try simp only [dv,dw,dx,ha,hb,dz]
  refine ⟨h0,c7 (RS hk) ⟨.inr (by omega),h0,vQ hk ⟨cs.set (k % m) (cs[k % m] * 31 + d),some (.sh,iD k),some (.sh,.int d),by rw [List.map_set],rfl,rfl,by rw [SH];exact hl⟩⟩⟩
 ·rintro _ ⟨cs,a,b,rfl,ha,hb,hl⟩
  try bv_omega
  try simp only [dv,dw,dx]
  exact q cs (by omega)
def xq:aZ:=fun ds Q x=>∃ (a b:Int)(ns:Uq) (k:Nat),ds=[dW a b,nD ns,iD k]/\k<=ns.length/\ns.length<=1000/\0<=b/\b < 2147483647/\∀ (ms rest:Uq) a' b',ms.length=k->(ms++rest).Perm ns->0<=b'->b' < 2147483647->Q [dW a' b'] (.ow false) (nD ms)
theorem uA:∀ (rs:Uq){j:Nat}(h:j < rs.length),([rs[j]]++rs.eraseIdx j).Perm rs
 | [],_,h=>by cases h
 | r::rs,0,_=>by rw [List.eraseIdx_cons_zero];exact List.Perm.refl _
 | r::rs,j + 1,h=>by
  rw [List.eraseIdx_cons_succ];have ih:=uA rs (j:=j) (by rw [Ru] at h;omega)
  exact (List.Perm.swap _ _ _).trans (ih.cons _)
theorem wA {f:Nat->PyData}:∀ {rs:Uq}{j:Nat},(rs.map f).eraseIdx j=(rs.eraseIdx j).map f
 | [],_=>rfl
 | r::rs,0=>rfl
 | r::rs,j + 1=>by
  rw [RZ,List.eraseIdx_cons_succ,List.eraseIdx_cons_succ,RZ,wA]
def Js {r n:Nat}(h:r < n):seqIndex? (r:Int) n=some r:=by
 unfold seqIndex?;simp;omega
def JT:∀ ds Q x,xq ds Q x->ji ir (aT [true,false,false] Q x) (ini [true,false,false] ds++List.replicate 2 none):=by
 rintro _ Q x ⟨a,b,ns,k,rfl,h0,h1,h2,h3,q⟩;unfold ji;subst_eqs;rw [if_pos (by omega)]
 refine c7 rfl ?_;refine xu _ (fun i ys E=>∃ (a b:Int)(ms rest:Uq)(o:Uv),ys=ms.map iD/\E=[some (.ow true,dW a b),some (.sh,nD ns),some (.sh,iD k),some (.ow false,nD rest),o]/\bM o=true/\ms.length=i/\(ms++rest).Perm ns/\0<=b/\b < 2147483647) rfl ⟨a,b,[],ns,_,rfl,rfl,rfl,rfl,List.Perm.refl _,h2,h3⟩ ?_ ?_
 ·rintro i j ys E hi ⟨a,b,ms,rest,o,rfl,rfl,ho,hm,hp,h2,h3⟩;have hi:=aB hi;rw [Rm] at hi;have hl:=hp.length_eq;rw [RW] at hl;have hr:0 < rest.length:=by omega
  try bv_omega
  try simp only [dv,dw,dx,ho,dz]
  refine ⟨a,b,rest.length,rfl,hr,by omega,h2,h3,fun r a' b' hr' h2' h3'=>?_⟩
  try bv_omega
  try simp only [dv,dw,dx,dz]
  refine ⟨⟨by omega,by omega⟩,r,iD rest[r],Js hr',by rw [RN,RS hr'];rfl,by omega,a',b',ms++[rest[r]],rest.eraseIdx r,some (.sh,iD j),by rw [Rw];rfl,by rw [wA],rfl,by rw [RW,hm];rfl,?_,h2',h3'⟩
  rw [S0];exact (T4 ms (uA rest hr')).trans hp
 ·rintro ys E ⟨a,b,ms,rest,o,rfl,rfl,ho,hm,hp,h2,h3⟩
  try bv_omega
  try simp only [dv,dw,dx,ho,dz]
  rw [Rm] at hm;exact q ms rest _ _ hm hp h2 h3
def zH {ms:Uq}{m:Nat}(pm:ms.Perm (List.range m)){a:Nat}(ha:a < m):ms[a]?=some (ms.getD a 0)/\ms.getD a 0 < m:=by
 have h:a < ms.length:=by rw [pm.length_eq,Rm];exact ha
 have e:ms.getD a 0=ms[a]:=by rw [Sk,RS h];rfl
 rw [e];exact ⟨RS h,Ro.mp (pm.mem_iff.mp (UB h))⟩
def qD:aZ:=fun ds Q x=>∃ (a b:Int) (m:Nat)(ps:UQ),ds=[dW a b,iD m,.list (ps.map cV)]/\1<=m/\m<=60/\Gr.Good m ps/\Gr.dg m ps/\ps.length<=1000/\0<=b/\b < 2147483647/\∀ es a' b',dF m es->es.length=ps.length->0<=b'->b' < 2147483647->Q [dW a' b'] .sh (wD m es)
def Gw:∀ ds Q x,qD ds Q x->gS xq (aT [true,false,false] Q x) (ini [true,false,false] ds++List.replicate 3 none):=by
 rintro _ Q x ⟨a,b,m,ps,rfl,h0,h1,gd,cn,few,h2,h3,q⟩;unfold gS;subst_eqs;refine ⟨⟨by omega,by omega⟩,⟨a,b,List.range m,m,rfl,by rw [Rm];exact RE _,by rw [Rm];omega,h2,h3,fun ms rest a' b' hm hp h2 h3=>?_⟩⟩
 have pm:ms.Perm (List.range m):=by
  have:=hp.length_eq;rw [RW,hm,Rm] at this;have e:rest=[]:=List.eq_nil_of_length_eq_zero (by omega)
  rw [e,SN] at hp;exact hp
 subst_eqs;refine f9 (fun e=>cV (Gr.vY ms e)) rfl (fun e he I hI=>?_) ?_ (by omega)
 ·have hl:=gd.lt e he;have g1:=zH pm (by omega:e.1 < m)
  have g2:=zH pm hl.2;simp_arith [g1.1,g2.1];exact ⟨by omega,hI _ rfl⟩
 ·subst_eqs;have e:ps.map (fun e=>cV (Gr.vY ms e))=(ps.map (Gr.vY ms)).map cV:=by rw [RT];rfl
  rw [e];refine Ko (by rw [RD];exact few) fun qs pq=>?_
  subst_eqs;refine ⟨by omega,q qs _ _ ⟨h0,h1,?_,?_⟩ ?_ h2 h3⟩
  ·exact Gr.Good.perm pq (Gr.Cr pm gd)
  ·exact Gr.Em pq (Gr.Cz pm cn)
  ·rw [pq.length_eq,RD]
def uV:aZ:=fun ds Q x=>∃ (a b:Int) (m:Nat),ds=[dW a b,iD m]/\m<=60/\0<=b/\b < 2147483647/\∀ ls a' b',cH m ls->0<=b'->b' < 2147483647->Q [dW a' b'] (.ow false) (nD ls)
def HE:∀ ds Q x,uV ds Q x->iw ir (aT [true,false] Q x) (ini [true,false] ds++List.replicate 2 none):=by
 rintro _ Q x ⟨a,b,m,rfl,h1,h2,h3,q⟩;unfold iw;subst_eqs;refine ⟨a,b,6,rfl,by omega,by omega,h2,h3,fun pt a b hpt h2 h3=>?_⟩
 subst_eqs;rw [if_pos (by omega)]
 refine c7 rfl ?_;refine xu _ (fun i ys E=>∃ (a b:Int)(ls:Uq)(o:Uv),ys=ls.map iD/\E=[some (.ow true,dW a b),some (.sh,iD m),some (.sh,iD pt),o]/\bM o=true/\rising ls/\(∀ l∈ls,l < i)/\0<=b/\b < 2147483647) rfl ⟨a,b,[],none,rfl,rfl,rfl,List.Pairwise.nil,(fun _ h=>absurd h Rv),h2,h3⟩ ?_ ?_
 ·rintro i j ys E hi ⟨a,b,ls,o,rfl,rfl,ho,hr,hl,h2,h3⟩;have hi':=aB hi;rw [Rm] at hi';rw [SV hi'] at hi;cases hi;simp_arith [ho];refine ⟨a,b,6,rfl,by omega,by omega,h2,h3,fun r a b hr' h2 h3=>?_⟩
  simp_arith [ho,Du];refine ⟨by omega,?_⟩
  rw [show [PyData.int 0,PyData.int 1,PyData.int 2,PyData.int 3,PyData.int 5,PyData.int 6]=[0,1,2,3,5,6].map iD from rfl,RN,tX]
  have hlt:pt < [0,1,2,3,5,6].length:=hpt;refine c7 (RS hlt) ?_;subst_eqs;split
  ·refine ⟨?_,a,b,ls++[i],_,by rw [Rw];rfl,rfl,rfl,?_,?_,h2,h3⟩
   ·have:=oQ hr hl;omega
   ·exact List.pairwise_append.mpr ⟨hr,List.pairwise_singleton ..,fun x hx y hy=>by cases RH.mp hy;exact hl x hx⟩
   ·intro l hl';rcases RM.mp hl' with h | h
    ·have:=hl l h;omega
    ·cases RH.mp h;omega
  ·exact ⟨a,b,ls,_,rfl,rfl,rfl,hr,(fun l h=>by have:=hl l h;omega),h2,h3⟩
 ·rintro ys E ⟨a,b,ls,o,rfl,rfl,ho,hr,hl,h2,h3⟩;simp_arith [ho];exact q ls _ _ ⟨hr,fun l h=>by have:=hl l h;rw [Rm] at this;exact this⟩ h2 h3
structure Tt (i:Nat)(ps:UQ):Prop where
 nd:ps.Nodup
 lt:∀ e∈ps,e.1 < e.2/\e.2<=i
 up:∀ k,0 < k->k<=i->∃ p,p < k/\(p,k)∈ps
def Tt.good {i:Nat}(h:Tt i ps):Gr.Good (i + 1) ps:=⟨fun e he=>by have:=h.lt e he;omega,h.nd⟩
def Tt.conn {i:Nat}(h:Tt i ps):Gr.dg (i + 1) ps:=Gr.Ky fun k h0 hk=>h.up k h0 (by omega)
def Tt.few {i:Nat}(h:Tt i ps)(hi:i<=40):ps.length<=1000:=by
 have:=Gr.tB h.good;have:=Nat.mul_le_mul (by omega:i + 1<=41) (by omega:i + 1<=41)
 omega
structure Tu (i:Nat)(ps qs:UQ):Prop where
 nd:qs.Nodup
 lt:∀ e∈qs,e∈ps\/(e.2=i + 1/\e.1<=i)
 sub:∀ e∈ps,e∈qs
def Tu.add {i p:Nat}(h:Tu i ps qs)(hp:p<=i):Tu i ps (jP qs (p,i + 1)):=by
 refine ⟨Bl h.nd,fun e he=>?_,fun e he=>fJ.mpr (.inl (h.sub e he))⟩
 rcases fJ.mp he with z | rfl
 ·exact h.lt e z
 ·exact .inr ⟨rfl,hp⟩
def Tu.few {i:Nat}(h:Tu i ps qs)(t:Tt i ps)(hi:i<=40):qs.length < 16777216:=by
 have g:Gr.Good (i + 2) qs:=⟨fun e he=>by
  rcases h.lt e he with z | z
  ·have:=t.lt e z;omega
  ·omega,h.nd⟩
 have:=Gr.tB g;have:=Nat.mul_le_mul (by omega:i + 2<=42) (by omega:i + 2<=42)
 omega
def Tu.done {i:Nat}(h:Tu i ps qs)(t:Tt i ps)(hq:∃ q,q<=i/\(q,i + 1)∈qs):Tt (i + 1) qs:=by
 refine ⟨h.nd,fun e he=>?_,fun k h0 h1=>?_⟩
 ·rcases h.lt e he with z | z
  ·have:=t.lt e z;omega
  ·omega
 ·by_cases c:k=i + 1
  ·obtain ⟨q,l,m⟩:=hq;exact ⟨q,by omega,c ▸ m⟩
  ·obtain ⟨p,l,m⟩:=t.up k h0 (by omega)
   exact ⟨p,l,h.sub _ m⟩
def GB {i p:Nat}(h:Tt i ps)(i1:0 < i)(hp:p<=i):∃ q,q<=i/\(min q p,max q p)∈ps:=by
 by_cases c:p=0
 ·obtain ⟨q,hq,m⟩:=h.up 1 (by omega) (by omega)
  obtain rfl:q=0:=by omega
  refine ⟨1,by omega,?_⟩
  rw [c];exact m
 ·obtain ⟨q,hq,m⟩:=h.up p (by omega) (by omega)
  refine ⟨q,by omega,?_⟩
  rw [TY (by omega),Nat.max_eq_right (by omega)]
  exact m
def L3 {x y m:Nat}(x1:x < m)(y1:y < m - 1):(x + 1 + y) % m≠x:=by
 by_cases c:x + 1 + y < m
 ·rw [Nat.mod_eq_of_lt c];omega
 ·have e:x + 1 + y=(x + 1 + y - m) + m:=by omega
  rw [e,Nat.add_mod_right,Nat.mod_eq_of_lt (by omega)]
  omega
def Tt.add {i a b:Nat}(h:Tt i ps)(hab:a < b)(hb:b<=i):Tt i (jP ps (a,b)):=by
 refine ⟨Bl h.nd,fun e he=>?_,fun k h0 h1=>?_⟩
 ·rcases fJ.mp he with z | rfl
  ·exact h.lt e z
  ·exact ⟨hab,hb⟩
 ·obtain ⟨p,l,m⟩:=h.up k h0 h1;exact ⟨p,l,fJ.mpr (.inl m)⟩
def BX:aZ:=fun ds Q x=>∃ (a b:Int) (mo:Nat),ds=[dW a b,iD mo]/\0 < mo/\mo<=24/\0<=b/\b < 2147483647/\∀ m es a' b',m<=mo->dF m es->es.length<=1000->0<=b'->b' < 2147483647->Q [dW a' b'] .sh (wD m es)
def M5:∀ ds Q x,BX ds Q x->jE ir qD (aT [true,false] Q x) (ini [true,false] ds++List.replicate 8 none):=by
 rintro _ Q x ⟨a,b,mo,rfl,h0,h1,h2,h3,q⟩;unfold jE;simp_arith [dd];refine ⟨a,b,mo,rfl,h0,by omega,h2,h3,fun r a b hr h2 h3=>?_⟩
 simp_arith [dd];refine ⟨a,b,5,rfl,by omega,by omega,h2,h3,fun sh a b hsh h2 h3=>?_⟩
 have e1:(1:Int) + (r:Int)=((r + 1:Nat):Int):=by omega
 simp_arith [dd,e1];refine .inr ?_;simp_arith [dd,e1];rw [if_pos (by omega)]
 refine c7 rfl ?_;have e2:(((r + 1:Nat):Int) - 1).toNat=r:=by omega
 rw [e2];refine qH (fun i E=>∃ (a b:Int)(ps:UQ)(o5 o6 o7:Uv),E=[some (.ow true,dW a b),some (.sh,iD mo),some (.sh,iD (r + 1)),some (.sh,iD sh),some (.dt false,k8 ps),o5,o6,o7,none,none]/\bM o5=true/\bM o6=true/\bM o7=true/\Tt i ps/\0<=b/\b < 2147483647) ?_ ?_ ?_
 ·exact ⟨a,b,[],none,none,none,rfl,rfl,rfl,rfl,⟨Sq,fun e he=>absurd he Rv,fun k h0 h1=>by omega⟩,h2,h3⟩
 ·rintro i _ hi ⟨a,b,ps,o5,o6,o7,rfl,ho5,ho6,ho7,tt,h2,h3⟩;simp_arith [dd,ho5];refine ⟨a,b,i + 1,rfl,by omega,by omega,h2,h3,fun p a b hp h2 h3=>?_⟩
  simp_arith [dd,ho6];refine ⟨fun E=>∃ p:Nat,p<=i/\E=[some (.ow true,dW a b),some (.sh,iD mo),some (.sh,iD (r + 1)),some (.sh,iD sh),some (.dt false,k8 ps),some (.sh,iD (i + 1)),some (.sh,iD p),o7,none,none],?_,?_⟩
  ·have e3:((i + 1:Nat):Int) - 1=(i:Int):=by omega
   simp_arith [dd,e3];split
   ·exact ⟨i,RE _,rfl⟩
   ·exact ⟨p,by omega,rfl⟩
  rintro _ ⟨p,hp,rfl⟩;refine ⟨fun E=>∃ (qs:UQ)(o7:Uv),E=[some (.ow true,dW a b),some (.sh,iD mo),some (.sh,iD (r + 1)),some (.sh,iD sh),some (.dt false,k8 qs),some (.sh,iD (i + 1)),some (.sh,iD p),o7,none,none]/\bM o7=true/\Tu i ps qs/\(sh=4->0 < i->∃ q,q<=i/\(q,i + 1)∈qs),?_,?_⟩
  ·simp_arith [dd];have fin:∀ qs o7,bM o7=true->Tu i ps qs->(sh=4->0 < i->∃ q,q<=i/\(q,i + 1)∈qs)->∃ (qs':UQ)(o:Uv),[some (Kd.ow true,dW a b),some (.sh,iD mo),some (.sh,iD (r + 1)),some (.sh,iD sh),some (.dt false,k8 qs),some (.sh,iD (i + 1)),some (.sh,iD p),o7,none,none]=[some (.ow true,dW a b),some (.sh,iD mo),some (.sh,iD (r + 1)),some (.sh,iD sh),some (.dt false,k8 qs'),some (.sh,iD (i + 1)),some (.sh,iD p),o,none,none]/\bM o=true/\Tu i ps qs'/\(sh=4->0 < i->∃ q,q<=i/\(q,i + 1)∈qs'):=fun qs o h1 h2 h3=>⟨qs,o,rfl,h1,h2,h3⟩
   have t0:Tu i ps ps:=⟨tt.nd,fun e he=>.inl he,fun e he=>he⟩
   split
   ·split
    ·rw [if_pos (by omega)]
     refine c7 rfl (qH (fun j E=>∃ (qs:UQ)(o7:Uv),E=[some (.ow true,dW a b),some (.sh,iD mo),some (.sh,iD (r + 1)),some (.sh,iD sh),some (.dt false,k8 qs),some (.sh,iD (i + 1)),some (.sh,iD p),o7,none,none]/\bM o7=true/\Tu i ps qs/\∀ q,q < j->(min q p,max q p)∈ps->(q,i + 1)∈qs) ⟨ps,o7,rfl,ho7,t0,fun q hq=>by omega⟩ ?_ ?_)
     ·rintro j _ hj ⟨qs,o7,rfl,ho7,tu,lk⟩;simp_arith [dd,ho7];refine ⟨by omega,?_⟩
      have hin:(min j p,max j p)∈qs↔(min j p,max j p)∈ps:=⟨fun h=>(tu.lt _ h).resolve_right fun z=>by have:=z.1;simp only at this;omega,tu.sub _⟩
      split
      ·refine ⟨by omega,tu.few tt (by omega),jP qs (j,i + 1),some (.sh,iD j),rfl,rfl,tu.add (by omega),fun q hq m=>?_⟩
       by_cases c:q=j
       ·exact fJ.mpr (.inr (by rw [c]))
       ·exact fJ.mpr (.inl (lk q (by omega) m))
      ·rename_i nin;refine ⟨qs,some (.sh,iD j),rfl,rfl,tu,fun q hq m=>?_⟩
       by_cases c:q=j
       ·exact absurd (hin.mpr (c ▸ m)) nin
       ·exact lk q (by omega) m
     ·rintro _ ⟨qs,o7,rfl,ho7,tu,lk⟩;refine fin qs o7 ho7 tu fun _ i0=>?_
      obtain ⟨q,hq,m⟩:=GB tt i0 hp;exact ⟨q,hq,lk q (by omega) m⟩
    ·exact fin ps o7 ho7 t0 fun _ _=>by omega
   ·exact fin ps o7 ho7 t0 fun _ _=>by omega
  rintro _ ⟨qs,o7,rfl,ho7,tu,h4⟩;refine ⟨fun E=>∃ (qs:UQ)(o7:Uv),E=[some (.ow true,dW a b),some (.sh,iD mo),some (.sh,iD (r + 1)),some (.sh,iD sh),some (.dt false,k8 qs),some (.sh,iD (i + 1)),some (.sh,iD p),o7,none,none]/\bM o7=true/\Tu i ps qs/\(sh=4->0 < i->∃ q,q<=i/\(q,i + 1)∈qs)/\(sh=3->∃ q,q<=i/\(q,i + 1)∈qs),?_,?_⟩
  ·simp_arith [dd];split
   ·rw [if_pos (by omega)]
    refine c7 rfl (qH (fun j E=>∃ (qs:UQ)(o7:Uv),E=[some (.ow true,dW a b),some (.sh,iD mo),some (.sh,iD (r + 1)),some (.sh,iD sh),some (.dt false,k8 qs),some (.sh,iD (i + 1)),some (.sh,iD p),o7,none,none]/\bM o7=true/\Tu i ps qs/\(sh=4->0 < i->∃ q,q<=i/\(q,i + 1)∈qs)/\(0 < j->∃ q,q<=i/\(q,i + 1)∈qs)) ⟨qs,o7,rfl,ho7,tu,h4,by omega⟩ ?_ ?_)
    ·rintro j _ hj ⟨qs,o7,rfl,ho7,tu,h4,lk⟩;simp_arith [dd,ho7];exact ⟨by omega,tu.few tt (by omega),jP qs (j,i + 1),some (.sh,iD j),rfl,rfl,tu.add (by omega),fun z0 z1=>let ⟨q,hq,m⟩:=h4 z0 z1;⟨q,hq,fJ.mpr (.inl m)⟩,fun _=>⟨j,by omega,fJ.mpr (.inr rfl)⟩⟩
    ·rintro _ ⟨qs,o7,rfl,ho7,tu,h4,lk⟩;exact ⟨qs,o7,rfl,ho7,tu,h4,fun _=>lk (by omega)⟩
   ·exact ⟨qs,o7,rfl,ho7,tu,h4,fun _=>by omega⟩
  rintro _ ⟨qs,o7,rfl,ho7,tu,h4,h5⟩;have put:∀ a b:Int,0<=b->b < 2147483647->0 + 1 + 1<=16777216/\qs.length < 16777216/\∃ (a' b':Int)(ps':UQ)(o5 o6 o7':Uv),[some (Kd.ow true,dW a b),some (Kd.sh,iD mo),some (Kd.sh,iD (r + 1)),some (Kd.sh,iD sh),some (Kd.dt false,PyData.dict ((PyData.none,PyData.none)::jk (jP qs (p,i + 1)))),some (Kd.sh,iD (i + 1)),some (Kd.sh,iD p),o7,none,none]=[some (Kd.ow true,dW a' b'),some (Kd.sh,iD mo),some (Kd.sh,iD (r + 1)),some (Kd.sh,iD sh),some (Kd.dt false,k8 ps'),o5,o6,o7',none,none]/\bM o5=true/\bM o6=true/\bM o7'=true/\Tt (i + 1) ps'/\0<=b'/\b' < 2147483647:=fun a b h2 h3=>⟨by omega,tu.few tt (by omega),a,b,jP qs (p,i + 1),some (.sh,iD (i + 1)),some (.sh,iD p),o7,rfl,rfl,rfl,ho7,(tu.add hp).done tt ⟨p,hp,fJ.mpr (.inr rfl)⟩,h2,h3⟩
  simp_arith [dd];split
  ·exact put a b h2 h3
  ·split
   ·exact put a b h2 h3
   ·refine ⟨a,b,2,rfl,by omega,by omega,h2,h3,fun t a b ht h2 h3=>?_⟩
    simp_arith [dd];split
    ·exact put a b h2 h3
    ·refine ⟨a,b,qs,_,_,o7,rfl,rfl,rfl,ho7,tu.done tt ?_,h2,h3⟩;rcases (by omega:sh=3\/sh=4) with z | z
     ·exact h5 z
     ·exact h4 z (by omega)
 ·rintro _ ⟨a,b,ps,o5,o6,o7,rfl,ho5,ho6,ho7,tt,h2,h3⟩;refine ⟨fun E=>∃ (a b:Int)(ps:UQ),E=[some (.ow true,dW a b),some (.sh,iD mo),some (.sh,iD (r + 1)),some (.sh,iD sh),some (.dt false,k8 ps),o5,o6,o7,none,none]/\Tt r ps/\0<=b/\b < 2147483647,?_,?_⟩
  ·have e3:((r + 1:Nat):Int) - 1=(r:Int):=by omega
   simp_arith [dd,e3];split
   ·split
    ·refine ⟨a,b,3,rfl,by omega,by omega,h2,h3,fun t a b ht h2 h3=>?_⟩
     simp_arith [dd,e3];split
     ·have hf:=tt.few (by omega)
      rw [show PyData.tuple [PyData.int 0,PyData.int (r:Int)]=.tuple [iD 0,iD r] from rfl,vB]
      exact ⟨by omega,by omega,a,b,_,rfl,tt.add (by omega) (by omega),h2,h3⟩
     ·exact ⟨a,b,_,rfl,tt,h2,h3⟩
    ·exact ⟨a,b,_,rfl,tt,h2,h3⟩
   ·exact ⟨a,b,_,rfl,tt,h2,h3⟩
  rintro _ ⟨a,b,ps,rfl,tt,h2,h3⟩;simp_arith [dd];refine ⟨a,b,7,rfl,by omega,by omega,h2,h3,fun t a b ht h2 h3=>?_⟩
  have loop:∀ n:Nat,(0 < n->0 < r)->wH (List.map iD (List.range n)) (Tg.nm 5) (aC (aS 8 (aA ir [true,false] [.pk 0,.pk 2])) (aC (aS 9 (ah i8 [.ev (ah dH [.ev (ah dH [.pk 8,.ev (dC (.int 1))]),.ev (aA ir [true,false] [.pk 0,.ev (ah Dv.nJ [.pk 2,.ev (dC (.int 1))])])]),.pk 2])) (fH 4 (ah Dv.gz [.ev (ah mH [.pk 8,.pk 9]),.ev (ah oY [.pk 8,.pk 9])]) (dC (.bool true))))) { nx:=bH (aA qD [true,false,false] [Arg.pk 0,Arg.pk 2,Arg.ev (ah n6 [Arg.pk 4])]) (aT [true,false] Q x),rt:=(aT [true,false] Q x).rt,xc:=x } [some (Kd.ow true,dW a b),some (Kd.sh,iD mo),some (Kd.sh,iD (r + 1)),some (Kd.sh,iD sh),some (Kd.dt false,k8 ps),o5,o6,o7,none,none]:=by
   intro n hn;refine qH (fun _ E=>∃ (a b:Int)(ps:UQ)(o5 o8 o9:Uv),E=[some (.ow true,dW a b),some (.sh,iD mo),some (.sh,iD (r + 1)),some (.sh,iD sh),some (.dt false,k8 ps),o5,o6,o7,o8,o9]/\bM o5=true/\bM o8=true/\bM o9=true/\Tt r ps/\0<=b/\b < 2147483647) ⟨a,b,ps,o5,none,none,rfl,ho5,rfl,rfl,tt,h2,h3⟩ ?_ ?_
   ·rintro j _ hj ⟨a,b,ps,o5,o8,o9,rfl,ho5,ho8,ho9,tt,h2,h3⟩;have r0:=hn (by omega)
    simp_arith [dd,ho5];refine ⟨a,b,r + 1,rfl,by omega,by omega,h2,h3,fun u a b hu h2 h3=>?_⟩
    have e3:((r + 1:Nat):Int) - 1=(r:Int):=by omega
    simp_arith [dd,ho8,e3];refine ⟨a,b,r,rfl,by omega,by omega,h2,h3,fun v a b hv h2 h3=>?_⟩
    have e4:(u:Int) + 1 + (v:Int)=((u + 1 + v:Nat):Int):=by omega
    simp_arith [dd,ho9,e4];have ne:=L3 (x:=u) (y:=v) (m:=r + 1) hu (by omega)
    have lt:=Nat.mod_lt (u + 1 + v) (by omega:0 < r + 1)
    have hf:=tt.few (by omega)
    exact ⟨by omega,by omega,by omega,a,b,_,_,_,_,rfl,rfl,rfl,rfl,tt.add (by omega) (by omega),h2,h3⟩
   ·rintro _ ⟨a,b,ps,o5,o8,o9,rfl,ho5,ho8,ho9,tt,h2,h3⟩;simp_arith [dd];refine ⟨a,b,r + 1,ps,rfl,by omega,by omega,tt.good,tt.conn,tt.few (by omega),h2,h3,fun es a' b' W hl h2 h3=>?_⟩
    simp_arith [dd];exact q _ es _ _ (by omega) W (by rw [hl];exact tt.few (by omega)) h2 h3
  simp_arith [dd];split
  ·refine ⟨.inl (by omega),?_⟩
   by_cases c:1 < ((r + 1:Nat):Int)
   ·simp only [c,dw,Int.mul_one,dz];rw [if_pos (by omega)]
    exact c7 rfl (loop t fun _=>by omega)
   ·simp only [c,dw,Int.mul_zero,dz];exact loop 0 fun z=>by omega
  ·refine ⟨.inl (by omega),?_⟩
   simp only [Int.mul_zero];exact loop 0 fun z=>by omega
def DV:dl 8 (cz t)=true:=by cases t <;> rfl
end PB
namespace PB
open PySem L2 Dv Gr
def Mn (S:Nat->Prop)(d:PyData):Prop:=((∀ n,¬ S n)/\d=.none)\/∃ s:Nat,d=iD s/\S s/\∀ n,S n->s<=n
def Mn.congr {S T:Nat->Prop}(h:∀ n,S n↔T n)(m:Mn S d):Mn T d:=by
 rcases m with ⟨n,rfl⟩ | ⟨s,rfl,h1,h2⟩
 ·exact .inl ⟨fun k z=>n k ((h k).mpr z),rfl⟩
 ·exact .inr ⟨s,rfl,(h s).mp h1,fun k z=>h2 k ((h k).mpr z)⟩
def Mn.first {S:Nat->Prop}{u:Nat}(h:∀ n,¬ S n):Mn (fun n=>S n\/n=u) (iD u):=.inr ⟨u,rfl,.inr rfl,fun n z=>z.elim (fun y=>absurd y (h n)) fun y=>TM y.symm⟩
def Mn.less {S:Nat->Prop}{s u:Nat}(h:∀ n,S n->s<=n)(l:u < s):Mn (fun n=>S n\/n=u) (iD u):=.inr ⟨u,rfl,.inr rfl,fun n z=>z.elim (fun y=>by have:=h n y;omega) fun y=>TM y.symm⟩
def Mn.keep {S:Nat->Prop}{s u:Nat}(hs:S s)(h:∀ n,S n->s<=n)(l:¬ u < s):Mn (fun n=>S n\/n=u) (iD s):=.inr ⟨s,rfl,.inl hs,fun n z=>z.elim (h n) fun y=>by omega⟩
def Cs (cs:UJ) (k n:Nat):Prop:=∃ (i j:Nat)(a b:Uq),i < j/\j < k/\cs[i]?=some a/\cs[j]?=some b/\n=j8 a b
def BH:aZ:=fun dd Q x=>∃ m es,dd=[wD m es]/\dF m es/\Q [] (.ow false) (.list ((List.range m).map fun p=>tY m es p))
def Lp:∀ dd Q x,BH dd Q x->oW vE (aT [false] Q x) (ini [false] dd++List.replicate 1 none):=by
 rintro _ Q x ⟨m,es,rfl,W,q⟩;have hm:=W.le;unfold oW;subst_eqs;rw [if_pos (by omega)]
 refine c7 rfl (f9 (fun p=>tY m es p) rfl (fun p hp I hI=>?_) ?_ (by rw [Rm];omega))
 ·have hp:=Ro.mp hp;subst_eqs;refine ⟨m,es,p,rfl,W,fun k e hk=>?_,fun z=>absurd ⟨by omega,by omega⟩ z⟩
  have e:p=k:=by omega
  subst e;subst_eqs;exact hI _ rfl
 ·subst_eqs;exact q
def F8 (m:Nat)(es:UQ)(t u:Th):Uq:=(List.range m).filter fun p=>decide (td es p t≠td es p u)
def Cp:aZ:=fun dd Q x=>∃ m es t u,dd=[.list ((List.range m).map fun p=>tY m es p),cz t,cz u]/\m<=60/\TV m t/\TV m u/\Q [] (.ow false) (nD (F8 m es t u))
def K5:∀ dd Q x,Cp dd Q x->lD vD (aT [false,false,false] Q x) (ini [false,false,false] dd++List.replicate 2 none):=by
 rintro _ Q x ⟨m,es,t,u,rfl,hm,ht,hu,q⟩;unfold lD;subst_eqs;have ez:(List.range m).zipIdx=(List.range m).map fun p=>(p,p):=by
  refine Ss fun i=>?_
  rw [List.getElem?_zipIdx,RN];rcases SG i m with h | h
  ·rw [SV h];simp
  ·rw [S4 (by rw [Rm];exact h)]
   rfl
 rw [ez,RT];refine g9 (fun p=>if decide (td es p t≠td es p u)=true then some (iD p) else none) rfl (fun p hp I hI=>?_) ?_ (by rw [Rm];omega)
 ·simp_arith [Function.comp];refine ⟨m,es,p,t,rfl,ht,?_⟩;subst_eqs;refine ⟨m,es,p,u,rfl,hu,?_⟩;simp only [dv,dw,dx,dy,dz,Nat.reduceBEq] at hI ⊢;split
  ·rename_i c;rw [if_pos c] at hI;exact hI _ rfl
  ·rename_i c;rw [if_neg c] at hI;exact hI _ rfl
 ·rw [eV];subst_eqs;exact q
def B0:aZ:=fun dd Q x=>∃ m es k t u,dd=[wD m es,cz t,cz u]/\dF m es/\t∈av k m es/\u∈av k m es/\Q [] (.ow false) (nD (F8 m es t u))
def Nc:∀ dd Q x,B0 dd Q x->l8 yN Cp BH (aT [false,false,false] Q x) (ini [false,false,false] dd++List.replicate 0 none):=by
 rintro _ Q x ⟨m,es,k,t,u,rfl,W,ht,hu,q⟩;unfold l8;subst_eqs;refine Fw ht ?_;subst_eqs;refine Fw hu ?_;subst_eqs;refine ⟨m,es,rfl,W,?_⟩;subst_eqs;refine ⟨m,es,t,u,rfl,W.le,mq W.gd t ht,mq W.gd u hu,?_⟩;subst_eqs;exact q
def Cm:aZ:=fun dd Q x=>∃ m es k,dd=[wD m es,.str k]/\dF m es/\∀ d,eK ((av k m es).map (aq es (List.range m))) d->Q [] .sh d
def FP (m:Nat):cH m (List.range m):=⟨List.pairwise_lt_range,fun p hp=>Ro.mp hp⟩
def LC:∀ dd Q x,Cm dd Q x->jm uZ jh (aT [false,false] Q x) (ini [false,false] dd++List.replicate 0 none):=by
 rintro _ Q x ⟨m,es,k,rfl,W,q⟩;unfold jm;subst_eqs;refine ⟨m,es,"places",rfl,W,?_⟩;have e:(PyData.list ((av "places" m es).map cz))=nD (List.range m):=by
  unfold av;rw [if_neg (by decide),if_pos rfl,SN,RT]
  rfl
 rw [e];subst_eqs;refine ⟨m,es,List.range m,k,rfl,W,FP m,fun d hd=>?_⟩
 have lfd:lf d=true:=by rcases hd with ⟨_,rfl⟩ | ⟨s,rfl,_⟩ <;> rfl
 simp_arith [lfd];exact q d hd
def Nu {m:Nat}(L:cH m ls):((F8 m es t u).filter fun p=>decide (p∈ls)).length=pt es ls t u:=by
 unfold F8 pt;rw [List.filter_filter];refine List.Perm.length_eq ((List.perm_ext_iff_of_nodup ?_ ?_).mpr fun a=>?_)
 ·exact Sl.sublist T8
 ·exact (L.up.imp fun h=>RQ h).sublist T8
 ·rw [S5,S5,Ro,RK,SJ,SJ];constructor
  ·rintro ⟨_,h1,h2⟩;exact ⟨h1,h2⟩
  ·rintro ⟨h1,h2⟩;exact ⟨L.lt a h1,h1,h2⟩
def BY:aZ:=fun dd Q x=>∃ m es ls k,dd=[wD m es,nD ls,.str k]/\dF m es/\cH m ls/\∀ d,eK ((av k m es).map (aq es ls)) d->Q [] .sh d
def Mi:∀ dd Q x,BY dd Q x->fD jh B0 (aT [false,false,false] Q x) (ini [false,false,false] dd++List.replicate 6 none):=by
 rintro _ Q x ⟨m,es,ls,k,rfl,W,L,q⟩;have hm:=W.le;have hlen:=iR (k:=k) W;unfold fD;subst_eqs;refine ⟨m,es,k,rfl,W,?_⟩;subst_eqs;have hmem:∀ (i:Nat) t,(av k m es)[i]?=some t->t∈av k m es:=fun i t h=>Rt h
 generalize hts:av k m es=ts at q hlen hmem ⊢;rw [if_pos (by omega)]
 refine c7 rfl ?_;have gc:∀ (i:Nat) t,ts[i]?=some t->(ts.map (aq es ls))[i]?=some (aq es ls t):=fun i t h=>by rw [RN,h];rfl
 have lft:∀ t:Th,lf (cz t)=true:=fun t=>by cases t <;> rfl
 have dli:(ls.all fun a=>dl 8 (iD a))=true:=by rw [RP];exact fun _ _=>rfl
 refine xA (fun k' E=>∃ (d:PyData)(o5 o6 o7:Uv),E=[some (.sh,wD m es),some (.sh,nD ls),some (.sh,.str k),some (.ow false,.list (ts.map cz)),some (.sh,d),o5,o6,o7,none]/\bM o5=true/\bM o6=true/\bM o7=true/\Mn (Cs (ts.map (aq es ls)) k') d) ⟨.none,none,none,none,rfl,rfl,rfl,rfl,.inl ⟨fun n ⟨i,j,a,b,l,l',_⟩=>by omega,rfl⟩⟩ ?_ ?_
 ·rintro J i _ hi hJ ⟨d,o5,o6,o7,rfl,h5,h6,h7,M⟩;simp_arith [h5];have gi:ts[i]?=some ts[i]:=RS hi;generalize ts[i]=u at gi;have gk:=gc i u gi;rw [if_pos ⟨by omega,by omega⟩]
  refine c7 rfl ?_;refine xA (fun t E=>∃ (d:PyData)(o6 o7:Uv),E=[some (.sh,wD m es),some (.sh,nD ls),some (.sh,.str k),some (.ow false,.list (ts.map cz)),some (.sh,d),some (.sh,iD i),o6,o7,none]/\bM o6=true/\bM o7=true/\Mn (fun n=>Cs (ts.map (aq es ls)) i n\/∃ j a,j < t/\(ts.map (aq es ls))[j]?=some a/\n=j8 a (aq es ls u)) d) ⟨d,o6,o7,rfl,h6,h7,M.congr fun n=>⟨.inl,fun z=>z.elim id fun ⟨i,a,l,_⟩=>by omega⟩⟩ ?_ ?_
  ·rintro J t _ ht hJ ⟨d,o6,o7,rfl,h6,h7,M⟩;have gj:ts[t]?=some ts[t]:=RS (by omega)
   generalize ts[t]=v at gj;have ta:=gc t v gj;have M':∀ {d':PyData},Mn (fun n=>(Cs (ts.map (aq es ls)) i n\/∃ j a,j < t/\(ts.map (aq es ls))[j]?=some a/\n=j8 a (aq es ls u))\/n=j8 (aq es ls v) (aq es ls u)) d'->Mn (fun n=>Cs (ts.map (aq es ls)) i n\/∃ j a,j < t + 1/\(ts.map (aq es ls))[j]?=some a/\n=j8 a (aq es ls u)) d':=fun m=>m.congr fun n=>by
    constructor
    ·rintro ((z | ⟨i,a',l,e,r⟩) | rfl)
     ·exact .inl z
     ·exact .inr ⟨i,a',by omega,e,r⟩
     ·exact .inr ⟨t,_,by omega,ta,rfl⟩
    ·rintro (z | ⟨i,a',l,e,r⟩)
     ·exact .inl (.inl z)
     ·by_cases c:i=t
      ·subst c;rw [ta] at e;cases e;exact .inr r
      ·exact .inl (.inr ⟨i,a',by omega,e,r⟩)
   simp_arith [h6,gi,gj,lft];refine ⟨m,es,k,u,v,rfl,W,hts ▸ hmem _ _ gi,hts ▸ hmem _ _ gj,?_⟩;subst_eqs;refine g9 (fun p=>if decide (p∈ls)=true then some (iD p) else none) rfl (fun p hp I hI=>?_) ?_ ?_
   ·simp only [dv,dw,dx,dy,dz,Nat.reduceBEq,dli] at hI ⊢;have hin:iD p∈List.map iD ls↔p∈ls:=⟨fun h=>by obtain ⟨y,hy,e⟩:=RI.mp h;rw [<- uG.mp e];exact hy,fun h=>RI.mpr ⟨p,h,rfl⟩⟩
    refine ⟨rfl,?_⟩;split
    ·rename_i c;rw [if_pos (hin.mp c)] at hI;exact hI _ rfl
    ·rename_i c;rw [if_neg fun z=>c (hin.mpr z)] at hI
     exact hI _ rfl
   ·rw [eV];subst_eqs;rw [Nu L,q8,<- nQ];refine ⟨h7,?_⟩;rcases M with ⟨no,rfl⟩ | ⟨s,rfl,m1,m2⟩
    ·subst_eqs;exact hJ _ ⟨_,_,_,rfl,rfl,rfl,M' (Mn.first no)⟩
    ·subst_eqs;split
     ·rename_i c;exact hJ _ ⟨_,_,_,rfl,rfl,rfl,M' (Mn.less m2 (by omega))⟩
     ·rename_i c;exact hJ _ ⟨_,_,_,rfl,rfl,rfl,M' (Mn.keep m1 m2 (by omega))⟩
   ·unfold F8;exact Rz (Uo ..) (by rw [Rm];omega)
  ·rintro _ ⟨d,o6,o7,rfl,h6,h7,M⟩;refine hJ _ ⟨d,_,o6,o7,rfl,rfl,h6,h7,M.congr fun n=>?_⟩
   constructor
   ·rintro (⟨i',j,a,b,l,l',r⟩ | ⟨j,a,l,e,r⟩)
    ·exact ⟨i',j,a,b,l,by omega,r⟩
    ·exact ⟨j,i,a,_,by omega,by omega,e,gk,r⟩
   ·rintro ⟨i',j,a,b',l,l',e1,e2,r⟩
    by_cases c:j=i
    ·subst c;rw [gk] at e2;cases e2;exact .inr ⟨i',a,by omega,e1,r⟩
    ·exact .inl ⟨i',j,a,b',l,by omega,e1,e2,r⟩
 ·rintro _ ⟨d,o5,o6,o7,rfl,h5,h6,h7,M⟩;subst_eqs;have key:∀ n,Cs (ts.map (aq es ls)) ts.length n↔n∈iX (ts.map (aq es ls)):=fun n=>by
   rw [jO];constructor
   ·rintro ⟨i,j,a,b,l,l',r⟩;exact ⟨i,j,a,b,l,r⟩
   ·rintro ⟨i,j,a,b,l,e1,e2,r⟩;exact ⟨i,j,a,b,l,by have:=aB e2;rwa [RD] at this,e1,e2,r⟩
  rcases M with ⟨no,rfl⟩ | ⟨s,rfl,m1,m2⟩
  ·exact q _ (.inl ⟨List.eq_nil_iff_forall_not_mem.mpr fun n z=>no n ((key n).mpr z),rfl⟩)
  ·exact q _ (.inr ⟨s,rfl,(key s).mp m1,fun n z=>m2 n ((key n).mpr z)⟩)
def Rj {a b:Ub}{P:Ux}:iY [.tuple a,.tuple b] P=((dl 8 (.tuple a)=true/\dl 8 (.tuple b)=true)/\P .sh (.bool !(decide (PyData.tuple a=.tuple b)))):=rfl
def eK.one (h:eK cs d)(g:eK cs d'):d=d':=by
 rcases h with ⟨e,rfl⟩ | ⟨s,rfl,h1,h2⟩
 ·rcases g with ⟨_,rfl⟩ | ⟨s,rfl,h1,_⟩
  ·rfl
  ·rw [e] at h1;exact absurd h1 Rv
 ·rcases g with ⟨e,rfl⟩ | ⟨s',rfl,g1,g2⟩
  ·rw [e] at h1;exact absurd h1 Rv
  ·have:=h2 _ g1;have:=g2 _ h1;rw [show s=s' by omega]
def Iu:iY [.none,.none] P=P .sh (.bool false):=rfl
def M7 (h:eK cs d):lf d=true:=by
 rcases h with ⟨_,rfl⟩ | ⟨s,rfl,_⟩ <;> rfl
def Pr (ts:List Th)(t u:Th):Prop:=∃ i j:Nat,i < j/\ts[i]?=some t/\ts[j]?=some u
section
variable {es:UQ}{ls:Uq}{ts:List Th}
def jB {n:Nat}:n∈iX (ts.map (aq es ls))↔∃ t u,Pr ts t u/\pt es ls t u=n:=by
 rw [jO];constructor
 ·rintro ⟨i,j,a,b,l,e1,e2,rfl⟩;rw [RN] at e1 e2;obtain ⟨t,h1,rfl⟩:=SQ.mp e1;obtain ⟨u,h2,rfl⟩:=SQ.mp e2;exact ⟨t,u,⟨i,j,l,h1,h2⟩,nQ.symm⟩
 ·rintro ⟨t,u,⟨i,j,l,h1,h2⟩,rfl⟩;exact ⟨i,j,_,_,l,by rw [RN,h1];rfl,by rw [RN,h2];rfl,nQ.symm⟩
def yz:eK (ts.map (aq es ls)) d↔((∀ t u,¬ Pr ts t u)/\d=.none)\/∃ s:Nat,d=iD s/\(∃ t u,Pr ts t u/\pt es ls t u=s)/\∀ t u,Pr ts t u->s<=pt es ls t u:=by
 unfold eK;constructor
 ·rintro (⟨e,rfl⟩ | ⟨s,rfl,h1,h2⟩)
  ·refine .inl ⟨fun t u p=>?_,rfl⟩
   have:=jB.mpr ⟨t,u,p,(rfl:pt es ls t u=_)⟩;rw [e] at this;exact absurd this Rv
  ·exact .inr ⟨s,rfl,jB.mp h1,fun t u p=>h2 _ (jB.mpr ⟨t,u,p,rfl⟩)⟩
 ·rintro (⟨e,rfl⟩ | ⟨s,rfl,h1,h2⟩)
  ·refine .inl ⟨List.eq_nil_iff_forall_not_mem.mpr fun n z=>?_,rfl⟩
   obtain ⟨t,u,p,_⟩:=jB.mp z;exact e t u p
  ·refine .inr ⟨s,rfl,jB.mpr h1,fun n z=>?_⟩
   obtain ⟨t,u,p,rfl⟩:=jB.mp z;exact h2 t u p
def Bf {t u:Th}:pt es ls t u=0↔aq es ls t=aq es ls u:=by
 unfold pt aq;rw [List.length_eq_zero_iff,List.filter_eq_nil_iff];constructor
 ·intro h;refine Sm fun l hl=>?_
  have:=h l hl
  simpa using this
 ·intro h l hl;have:=List.map_inj_left.mp h l hl
  simpa using this
def Bu (n:ls'.Nodup)(h:∀ l∈ls',l∈ls):pt es ls' t u<=pt es ls t u:=by
 unfold pt;refine Gr.sub_len' (n.sublist T8) fun x hx=>?_
 obtain ⟨h1,h2⟩:=S5.mp hx;exact S5.mpr ⟨h x h1,h2⟩
def Bp {l:Nat}(n:ls.Nodup):pt es ls t u<=pt es (ls.filter fun o=>decide (¬ o=l)) t u + 1/\(l∈ls->td es l t≠td es l u->pt es ls t u=pt es (ls.filter fun o=>decide (¬ o=l)) t u + 1):=by
 unfold pt;have e:(ls.filter fun o=>decide (¬ o=l)).filter (fun l=>decide (td es l t≠td es l u))=(ls.filter fun l=>decide (td es l t≠td es l u)).erase l:=by
  rw [(n.sublist T8).erase_eq_filter,List.filter_filter,List.filter_filter];refine List.filter_congr fun o _=>?_
  rw [Bool.and_comm];congr 1
  by_cases c:o=l
  ·subst c;simp
  ·simp [c]
 rw [e];constructor
 ·rw [List.length_erase];split <;> omega
 ·intro h1 h2;have m:l∈ls.filter fun l=>decide (td es l t≠td es l u):=S5.mpr ⟨h1,Rq h2⟩
  rw [List.length_erase_of_mem m];have:=Um m;omega
def Ny (h:0 < pt es ls t u):∃ l∈ls,td es l t≠td es l u:=by
 obtain ⟨l,hl⟩:=List.exists_mem_of_length_pos h;obtain ⟨h1,h2⟩:=S5.mp hl;exact ⟨l,h1,Rn h2⟩
end
theorem yM {α:Type}(c:Uq)(x:α):∀ (gs:List (List Nat×List α)) g,g∈c6 c x gs->g∈gs\/g.2=[x]\/∃ g'∈gs,g.2=g'.2++[x]
 | [],g,h=>by
  cases RH.mp h;exact .inr (.inl rfl)
 | (d,xs)::gs,g,h=>by
  unfold c6 at h;split at h
  ·rcases RJ.mp h with rfl | h
   ·exact .inr (.inr ⟨_,RA,rfl⟩)
   ·exact .inl (RG _ h)
  ·rcases RJ.mp h with rfl | h
   ·exact .inl RA
   ·rcases yM c x gs g h with z | z | ⟨g',z,e⟩
    ·exact .inl (RG _ z)
    ·exact .inr (.inl z)
    ·exact .inr (.inr ⟨g',RG _ z,e⟩)
theorem pF {α:Type}(l:List (List Nat×α)):∀ n,∀ g∈iG (l.take n),g.2.Sublist ((l.take n).map (·.2))
 | 0,g,h=>by rw [List.take_zero] at h;exact absurd h Rv
 | n + 1,g,h=>by
  rw [List.take_succ] at h ⊢;rcases e:l[n]? with _ | q
  ·rw [e,Option.toList_none,SN] at h;rw [Option.toList_none,SN];exact pF l n g h
  ·rw [e,Option.toList_some,mS] at h;rw [Option.toList_some,Rw];rcases yM _ _ _ g h with z | z | ⟨g',z,e⟩
   ·exact (pF l n g z).trans (List.sublist_append_left _ _)
   ·rw [z];exact List.sublist_append_right _ _
   ·rw [e];exact (pF l n g' z).append (List.Sublist.refl _)
def NL {α:Type}{f:α->Uq}{ts:List α}(nd:ts.Nodup){r:List α}(h:r∈oq f ts):r.Nodup:=by
 obtain ⟨g,hg,rfl⟩:=RI.mp h;have hg:=(S5.mp hg).1;have:=pF ((ts.map f).zip ts) ((ts.map f).zip ts).length g (by rw [Sd];exact hg)
 rw [Sd] at this;have e:((ts.map f).zip ts).map (·.2)=ts:=List.map_snd_zip (by rw [RD];exact RE _)
 rw [e] at this;exact nd.sublist this
def Of {ts:List Th}{t u:Th}(ht:t∈ts)(hu:u∈ts)(ne:t≠u):Pr ts t u\/Pr ts u t:=by
 obtain ⟨i,hi⟩:=Si.mp ht;obtain ⟨j,hj⟩:=Si.mp hu;rcases UK i j with l | l | l
 ·exact .inl ⟨i,j,l,hi,hj⟩
 ·subst l;rw [hi] at hj;cases hj;exact absurd rfl ne
 ·exact .inr ⟨j,i,l,hj,hi⟩
def Oj {ts:List Th}(nd:ts.Nodup){t u:Th}(h:Pr ts t u):t≠u:=by
 obtain ⟨i,j,l,e1,e2⟩:=h;intro e;subst e;have hi:=aB e1;have hj:=aB e2;rw [RS hi] at e1;rw [RS hj] at e2;exact (T7.mp nd i j hi hj l) (by rw [Option.some.inj e1,Option.some.inj e2])
def L4 {ts:List Th}{t u:Th}(h:Pr ts t u):t∈ts/\u∈ts:=by
 obtain ⟨i,j,l,e1,e2⟩:=h;exact ⟨Rt e1,Rt e2⟩
def M3 {es:UQ}{ls:Uq}{ts:List Th}(nd:ts.Nodup):oq (aq es ls) ts=[]↔∀ t u,Pr ts t u->0 < pt es ls t u:=by
 constructor
 ·intro h t u p;rcases Nat.eq_zero_or_pos (pt es ls t u) with z | z
  ·obtain ⟨ht,hu⟩:=L4 p;obtain ⟨r,hr,_⟩:=(K1 ht hu (Oj nd p)).mpr (Bf.mp z);rw [h] at hr;exact absurd hr Rv
  ·exact z
 ·intro h;refine List.eq_nil_iff_forall_not_mem.mpr fun r hr=>?_
  obtain ⟨h1,h2,h3⟩:=zM hr;have hn:=NL nd hr
  match r,h1,h2,h3,hn with
  | a::b::r,h1,h2,h3,hn =>
   have ne:a≠b:=fun z=>(S7.mp hn).1 (z ▸ RA)
   have ha:a∈a::b::r:=RA;have hb:b∈a::b::r:=RG _ RA;have ec:=Bf.mpr (h3 a ha b hb);rcases Of (h1 a ha) (h1 b hb) ne with p | p
   ·have:=h a b p;omega
   ·have:=h b a p;rw [q8] at this;omega
def Im {a b:Bool}:iY [.bool a,.bool b] P=P .sh (.bool !(decide (a=b))):=rfl
theorem zf:∀ {l:Uq},l≠[]->∃ s∈l,∀ n∈l,s<=n
 | [],h=>absurd rfl h
 | [a],_=>⟨a,RA,fun n h=>TM (RH.mp h).symm⟩
 | a::b::l,_=>by
  obtain ⟨s,h1,h2⟩:=zf (l:=b::l) (List.cons_ne_nil _ _)
  by_cases c:a<=s
  ·exact ⟨a,RA,fun n hn=>by
    rcases RJ.mp hn with rfl | hn
    ·exact RE _
    ·have:=h2 n hn;omega⟩
  ·exact ⟨s,RG _ h1,fun n hn=>by
    rcases RJ.mp hn with rfl | hn
    ·omega
    ·exact h2 n hn⟩
def yY (p0:Pr ts t0 u0)(ls:Uq):∃ s:Nat,eK (ts.map (aq es ls)) (iD s):=by
 have ne:iX (ts.map (aq es ls))≠[]:=fun z=>by
  have:=jB.mpr ⟨t0,u0,p0,(rfl:pt es ls t0 u0=_)⟩;rw [z] at this;exact absurd this Rv
 obtain ⟨s,h1,h2⟩:=zf ne;exact ⟨s,.inr ⟨s,rfl,h1,h2⟩⟩
def qW {s:Nat}(h:eK (ts.map (aq es ls)) (iD s)):(∃ t u,Pr ts t u/\pt es ls t u=s)/\∀ t u,Pr ts t u->s<=pt es ls t u:=by
 rcases yz.mp h with ⟨_,e⟩ | ⟨s',e,h1,h2⟩
 ·cases e
 ·have:s=s':=uG.mp e;subst this;exact ⟨h1,h2⟩
def xx:aZ:=fun dd Q x=>∃ m es ls k,dd=[wD m es,nD ls,.str k]/\dF m es/\cH m ls/\xH k/\Q [] .sh (.bool true)
def Jt:∀ dd Q x,xx dd Q x->iB uZ BY vz Ck CJ Cm (aT [false,false,false] Q x) (ini [false,false,false] dd++List.replicate 4 none):=by
 rintro _ Q x ⟨m,es,ls,k,rfl,W,L,hk,q⟩;have hm:=W.le;have hL:=L.len;have hlen:=iR (k:=k) W;have nd:=oN (k:=k) W.gd;have ln:ls.Nodup:=L.up.imp fun h=>RQ h
 unfold iB;subst_eqs;refine ⟨m,es,ls,k,rfl,W,L,fun d hd=>?_⟩
 have lfd:=M7 hd;simp_arith [lfd];refine ⟨m,es,ls,k,rfl,W,L,fun d' hd'=>?_⟩
 obtain rfl:=hd.one hd';have s1:=yz.mp hd;have kn:=M3 (es:=es) (ls:=ls) nd;simp_arith [lfd];rcases s1 with ⟨no,rfl⟩ | ⟨s,rfl,⟨t0,u0,p0,e0⟩,low⟩
 ·have kn':oq (aq es ls) (av k m es)=[]:=kn.mpr fun t u p=>absurd p (no t u)
  rw [Iu];subst_eqs;refine ⟨m,es,rfl,W.pos,?_⟩;subst_eqs;split
  case' isTrue ht =>
   refine ⟨m,es,ls,k,rfl,W,ht,L,hk,fun d2 hd2=>?_⟩
   obtain rfl:=hd.one hd2;subst_eqs;rw [Iu];subst_eqs
  all_goals
   refine ⟨m,es,ls,k,rfl,W,L,?_⟩;simp_arith [kn',Im,decide_true,Bool.not_true];refine ⟨m,es,k,rfl,W,fun d2 hd2=>?_⟩
   rcases yz.mp hd2 with ⟨_,rfl⟩ | ⟨_,_,⟨t,u,p,_⟩,_⟩
   ·subst_eqs;exact q
   ·exact absurd p (no t u)
 ·have ek:oq (aq es ls) (av k m es)=[]↔0 < s:=by
   rw [kn];constructor
   ·intro h;have:=h t0 u0 p0;omega
   ·intro h t u p;have:=low t u p;omega
  have ⟨fw,hfw⟩:∃ fw:Nat->Nat,∀ l,eK ((av k m es).map (aq es (ls.filter fun o=>decide (¬ o=l)))) (iD (fw l)):=⟨fun l=>(yY p0 _).choose,fun l=>(yY p0 _).choose_spec⟩
  have fle:∀ l,fw l<=s:=fun l=>by
   have:=(qW (hfw l)).2 t0 u0 p0;have:=Bu (es:=es) (ls:=ls) (ls':=ls.filter fun o=>decide (¬ o=l)) (t:=t0) (u:=u0) (ln.sublist T8) fun x hx=>(S5.mp hx).1
   omega
  have fge:∀ l,s<=fw l + 1:=fun l=>by
   obtain ⟨⟨t,u,p,e⟩,_⟩:=qW (hfw l);have:=low t u p;have:=(Bp (es:=es) (ls:=ls) (l:=l) (t:=t) (u:=u) ln).1;omega
  have fone:0 < s->∃ l∈ls,fw l + 1=s:=fun h=>by
   obtain ⟨l,hl,ne⟩:=Ny (es:=es) (ls:=ls) (t:=t0) (u:=u0) (by omega)
   refine ⟨l,hl,?_⟩;have h1:=(Bp (es:=es) (ls:=ls) (l:=l) (t:=t0) (u:=u0) ln).2 hl ne;have h2:=(qW (hfw l)).2 t0 u0 p0;have:=fge l;omega
  subst_eqs;refine ⟨m,es,rfl,W.pos,?_⟩;subst_eqs;split
  case' isTrue ht =>
   refine ⟨m,es,ls,k,rfl,W,ht,L,hk,fun d2 hd2=>?_⟩
   obtain rfl:=hd.one hd2;subst_eqs
  all_goals
   refine ⟨m,es,ls,k,rfl,W,L,?_⟩;simp_arith [Im,ek,decide_true,Bool.not_true];refine f9 (fun l=>iD (fw l)) rfl (fun l hl I hI=>?_) ?_ (by omega)
   ·subst_eqs;refine g9 (fun o=>if decide (¬ o=l)=true then some (iD o) else none) rfl (fun o ho I2 hI2=>?_) ?_ (by omega)
    ·simp only [dv,dw,dx,dy,dz,Nat.reduceBEq] at hI2 ⊢;split
     ·rename_i c;rw [if_pos c] at hI2;exact hI2 _ rfl
     ·rename_i c;rw [if_neg c] at hI2;exact hI2 _ rfl
    ·rw [eV];subst_eqs;refine ⟨m,es,ls.filter fun o=>decide (¬ o=l),k,rfl,W,⟨L.up.sublist T8,fun p hp=>L.lt p (S5.mp hp).1⟩,fun d2 hd2=>?_⟩
     obtain rfl:=(hfw l).one hd2;subst_eqs;exact hI _ rfl
   ·subst_eqs;have eL:List.map (fun l=>iD (fw l)) ls=(ls.map fw).map iD:=by rw [RT];rfl
    rw [eL];split
    case' isTrue hs =>
     obtain ⟨l1,hl1,e1⟩:=fone hs;refine BC (fun z=>?_) fun M hM lo=>?_
     ·rw [Ui] at z;rw [z] at hl1;exact absurd hl1 Rv
     have eM:(M:Int)=(s:Int) - 1:=by
      have a1:=lo _ (RI.mpr ⟨l1,hl1,rfl⟩);obtain ⟨l2,hl2,e2⟩:=RI.mp hM;have:=fge l2;omega
     rw [if_pos (show flat Kd.sh (iD M)=true from rfl)]
     refine c7 rfl ?_;simp_arith [eM,decide_true,Bool.not_true]
    all_goals
     refine f9 (fun _=>PyData.bool true) rfl (fun f hf I hI=>?_) ?_ (by rw [RD];omega)
     ·obtain ⟨l2,hl2,rfl⟩:=RI.mp hf;have:=fle l2;subst_eqs;rw [Rq (by omega)]
      exact hI _ rfl
     ·subst_eqs;rw [show List.map (fun _=>PyData.bool true) (List.map fw ls)=((List.map fw ls).map fun _=>true).map PyData.bool by rw [RT,RT,RT];rfl]
      refine zG ?_;have ea:((List.map fw ls).map fun _=>true).all id=true:=RP.mpr fun b hb=>by
       obtain ⟨_,_,rfl⟩:=RI.mp hb;rfl
      rw [ea];subst_eqs;refine ⟨m,es,k,rfl,W,fun d2 hd2=>?_⟩
      obtain ⟨s2,hs2⟩:=yY (es:=es) p0 (List.range m);obtain rfl:=hs2.one hd2;have le2:s<=s2:=by
       obtain ⟨⟨t,u,p,e⟩,_⟩:=qW hs2;have:=low t u p;have:=Bu (es:=es) (ls:=List.range m) (ls':=ls) (t:=t) (u:=u) ln fun x hx=>Ro.mpr (L.lt x hx)
       omega
      subst_eqs;rw [Rq le2];exact q
end PB
namespace PB
open PySem L2 Dv
def Le {ts:List Th}:(ts.all fun t=>dl 8 (cz t))=true:=by rw [RP];exact fun _ _=>DV
end PB
namespace PB
open PySem L2 Dv Gr
theorem xK:∀ {a:Uq}{h:List (Option Int)} (k:Nat),jq a (h.take k++[none]++h.drop (k + 1))<=jq a h
 | [],h,k=>by unfold jq;exact S8 _
 | x::a,[],k=>by
  rw [List.take_nil,List.drop_nil];show uJ x none + jq a []<=0;cases a <;> exact RE _
 | x::a,y::h,0=>by
  show uJ x none + jq a h<=uJ x y + jq a h;show 0 + jq a h<=_;omega
 | x::a,y::h,k + 1=>by
  have:=xK (a:=a) (h:=h) k;show uJ x y + jq a (h.take k++[none]++h.drop (k + 1))<=uJ x y + jq a h;omega
def CU:aZ:=fun ds Q x=>∃ (a b:Int),∃ m es ls k,ds=[dW a b,wD m es,nD ls,.str k]/\dF m es/\cH m ls/\0<=b/\b < 2147483647/\∀ a' b',0<=b'->b' < 2147483647->Q [dW a' b'] .sh (.bool true)
def MA:∀ ds Q x,CU ds Q x->fW ir CS (aT [true,false,false,false] Q x) (ini [true,false,false,false] ds++List.replicate 7 none):=by
 rintro _ Q x ⟨a,b,m,es,ls,k,rfl,W,L,h2,h3,q⟩;have hm:=W.le;have hlen:=iR (k:=k) W;have hL:=L.len;unfold fW;subst_eqs;refine Ow _ (fun i ys E=>∃ (a b:Int)(hs:Ur)(o9:Uv),E=[some (.ow true,dW a b),some (.sh,wD m es),some (.sh,nD ls),some (.sh,.str k),none,none,none,none,none,o9,none]/\ys=hs.map .int/\hs.length=i/\bM o9=true/\0<=b/\b < 2147483647) rfl ⟨a,b,[],none,rfl,rfl,rfl,rfl,h2,h3⟩ ?_ ?_
 ·rintro J i l ys _ hi hJ ⟨a,b,hs,o9,rfl,rfl,hl,h9,h2,h3⟩;have li:=aB hi;simp_arith [h9];refine ⟨a,b,4,rfl,by omega,by omega,h2,h3,fun r a b _ h2 h3=>?_⟩
  subst_eqs;exact ⟨by omega,hJ _ _ ⟨a,b,hs++[(r:Int)],_,rfl,by rw [Rw];rfl,by rw [RW,hl];rfl,rfl,h2,h3⟩⟩
 ·rintro ys _ ⟨a,b,hs,o9,rfl,rfl,hl,h9,h2,h3⟩;simp_arith [h9];refine ⟨a,b,4,rfl,by omega,by omega,h2,h3,fun lies a b _ h2 h3=>?_⟩
  subst_eqs;have eh:∀ l:Ur,l.map PyData.int=(l.map some).map aD:=fun l=>by rw [RT];rfl
  refine ⟨m,es,ls,k,hs.map some,lies,by rw [<- eh],W,L,by rw [RD];exact hl,?_⟩
  subst_eqs;refine ⟨m,es,ls,k,hs.map some,(lies:Int) + 1,by rw [<- eh],W,L,by rw [RD];exact hl,?_⟩
  subst_eqs;generalize hfs:(av k m es).filter (fun t=>decide (jq (aq es ls t) (List.map some hs)<=lies))=fs
  have hin:∀ t∈fs,t∈av k m es/\jq (aq es ls t) (List.map some hs)<=lies:=fun t ht=>by
   rw [<- hfs] at ht;obtain ⟨h1,h2⟩:=S5.mp ht;exact ⟨h1,Rn h2⟩
  have hfl:fs.length<=1860:=by rw [<- hfs];exact Rz (Uo ..) hlen
  have e3:(if (ls.length:Int) < 3 then (ls.length:Int) else 3)=((min 3 ls.length:Nat):Int):=by split <;> omega
  rw [e3,if_pos ⟨by omega,by omega⟩]
  refine ⟨by omega,c7 rfl ?_⟩
  rw [Tj];refine xA (fun i E=>∃ (gs:List (List Th))(k4:Kd)(o8:Uv),E=[some (.ow true,dW a b),some (.sh,wD m es),some (.sh,nD ls),some (.sh,.str k),some (k4,.list (hs.map .int)),some (.sh,iD lies),some (.ow false,.list (fs.map cz)),some (.ow false,.list (gs.map fun g=>.list (g.map cz))),o8,none,none]/\(k4=.ow false\/k4=.sh)/\bM o8=true/\gs.length=i + 1/\(∀ g∈gs,∀ t∈fs,t∈g)) ⟨[_],_,none,rfl,.inl rfl,rfl,rfl,fun g hg t ht=>?_⟩ ?_ ?_
  ·rw [RH.mp hg];obtain ⟨h1,h2⟩:=hin t ht;exact S5.mpr ⟨h1,Rq (by omega)⟩
  ·rintro J i _ hi hJ ⟨gs,k4,o8,rfl,hk4,h8,hg,hsub⟩;have rd4:k4.rd=true:=by rcases hk4 with rfl | rfl <;> rfl
   have e1:(i:Int) + 1=((i + 1:Nat):Int):=rfl;simp_arith [h8,rd4,e1];have hhl:hs.length<=60:=by omega
   have ht:=List.length_take_le i hs;have hd:(hs.drop (i + 1)).length<=hs.length:=by rw [Sy];omega
   refine ⟨by omega,by omega,by rw [RW,RD];simp only [Ru,List.length_nil];omega,?_⟩
   have ed:List.map PyData.int (List.take i hs)++[PyData.none]++List.map PyData.int (List.drop (i + 1) hs)=((hs.map some).take i++[none]++(hs.map some).drop (i + 1)).map aD:=by
    rw [Rw,Rw,<- List.map_take,<- List.map_drop,<- eh,<- eh];rfl
   refine ⟨m,es,ls,k,(hs.map some).take i++[none]++(hs.map some).drop (i + 1),(lies:Int),by rw [ed],W,L,?_,?_⟩
   ·rw [RW,RW,Sj,Sy,RD];simp only [Ru,List.length_nil];omega
   subst_eqs;refine ⟨by omega,hJ _ ⟨gs++[(av k m es).filter fun t=>decide (jq (aq es ls t) ((hs.map some).take i++[none]++(hs.map some).drop (i + 1))<=lies)],k4,some (.sh,iD i),?_,hk4,rfl,by rw [RW,hg];rfl,fun g hgm t ht=>?_⟩⟩
   ·rw [Rw];rfl
   ·rcases RM.mp hgm with z | z
    ·exact hsub g z t ht
    ·rw [RH.mp z];obtain ⟨h1,h2⟩:=hin t ht;have:=xK (a:=aq es ls t) (h:=hs.map some) i;exact S5.mpr ⟨h1,Rq (by omega)⟩
  ·rintro _ ⟨gs,k4,o8,rfl,hk4,h8,hg,hsub⟩;subst_eqs;refine vM (fun E=>∃ k6:Kd,E=[some (.ow true,dW a b),some (.sh,wD m es),some (.sh,nD ls),some (.sh,.str k),some (k4,.list (hs.map .int)),some (.sh,iD lies),some (k6,.list (fs.map cz)),some (.sh,.list (gs.map fun g=>.list (g.map cz))),o8,none,none]/\k6.fz=true) (fun _=>.bool true) rfl ⟨_,rfl,rfl⟩ ?_ ?_ (by omega)
   ·rintro g hgm _ ⟨k6,rfl,h6⟩ I hI;simp_arith [h6];refine f9 (fun _=>.bool true) rfl (fun t ht I2 hI2=>?_) ?_ (by omega)
    ·have in2:cz t∈g.map cz:=RI.mpr ⟨t,hsub g hgm t ht,rfl⟩;simp_arith [in2,DV,Le,decide_true];exact hI2 _ rfl
    ·subst_eqs;rw [show List.map (fun _=>PyData.bool true) fs=(fs.map fun _=>true).map PyData.bool by rw [RT];rfl]
     refine zG ?_;rw [RP.mpr fun b hb=>by obtain ⟨_,_,rfl⟩:=RI.mp hb;rfl]
     subst_eqs;exact hI _ _ rfl ⟨.sh,rfl,rfl⟩
   ·rintro _ ⟨k6,rfl,h6⟩;subst_eqs;rw [show List.map (fun _=>PyData.bool true) gs=(gs.map fun _=>true).map PyData.bool by rw [RT];rfl]
    refine zG ?_;rw [RP.mpr fun b hb=>by obtain ⟨_,_,rfl⟩:=RI.mp hb;rfl]
    exact q a b h2 h3
def Hr:∀ ds Q x,u9 ds Q x->pQ uR xE BX uV xx CU (aT [false] Q x) (ini [false] ds++List.replicate 6 none):=by
 rintro _ Q x ⟨ns,rfl,hn,q⟩;unfold pQ;subst_eqs;refine ⟨ns,3,rfl,by omega,by omega,fun cs hcs=>?_⟩
 subst_eqs;have e1:(if (cs.length:Int) > 1 then (cs.length:Int) else 1)=((max 1 cs.length:Nat):Int):=by split <;> omega
 rw [e1,if_pos (by omega)]
 refine c7 rfl ?_;simp only [dz];refine xA (fun i E=>∃ o2 o3 o4 o5 o6:Uv,E=[some (.sh,.list (ns.map .int)),some (.ow false,.list (cs.map .int)),o2,o3,o4,o5,o6]/\bM o2=true/\bM o3=true/\bM o4=true/\bM o5=true/\bM o6=true) ⟨none,none,none,none,none,rfl,rfl,rfl,rfl,rfl,rfl⟩ ?_ ?_
 ·rintro J k _ hk hJ ⟨o2,o3,o4,o5,o6,rfl,h2,h3,h4,h5,h6⟩;simp_arith [h2];refine ⟨cs,k,rfl,by omega,by omega,fun a b b0 b1=>?_⟩
  simp_arith [h3];refine ⟨a,b,7,rfl,by omega,by omega,b0,b1,fun m es a b hm8 W _ b0 b1=>?_⟩
  simp_arith [h4];refine ⟨a,b,m,rfl,W.le,b0,b1,fun ls a b L b0 b1=>?_⟩
  simp_arith [h5];refine ⟨by omega,?_⟩
  rw [show [PyData.str "places",PyData.str "ties",PyData.str "all"]=([("places":Str),"ties","all"]:Us).map PyData.str from rfl]
  refine IF (fun i E=>∃ (a b:Int)(k5:Kd)(o6:Uv),E=[some (.sh,.list (ns.map .int)),some (.ow false,.list (cs.map .int)),some (.sh,iD k),some (.ow false,dW a b),some (.sh,wD m es),some (k5,nD ls),o6]/\(k5=.ow false\/k5=.sh)/\bM o6=true/\0<=b/\b < 2147483647) ⟨a,b,_,o6,rfl,.inl rfl,h6,b0,b1⟩ ?_ ?_
  ·rintro J i kd _ hi hJ ⟨a,b,k5,o6,rfl,hk5,h6,b0,b1⟩;have hk:xH kd:=by
    have:=Rt hi;simp only [RJ,Rv,or_false] at this;exact this
   have rd5:k5.rd=true:=by rcases hk5 with rfl | rfl <;> rfl
   simp_arith [h6,rd5];refine ⟨m,es,ls,kd,rfl,W,L,hk,?_⟩;simp_arith [rd5];refine ⟨a,b,m,es,ls,kd,rfl,W,L,b0,b1,fun a b b0 b1=>?_⟩
   subst_eqs;exact hJ _ ⟨a,b,k5,_,rfl,hk5,rfl,b0,b1⟩
  ·rintro _ ⟨a,b,k5,o6,rfl,hk5,h6,b0,b1⟩;exact hJ _ ⟨_,_,_,_,_,rfl,rfl,rfl,rfl,by rcases hk5 with rfl | rfl <;> rfl,h6⟩
 ·rintro _ ⟨o2,o3,o4,o5,o6,rfl,h2,h3,h4,h5,h6⟩;subst_eqs;exact q
end PB
namespace Ly
open PySem L2 PySem.W Dv PB
def top (i:Nat):Stmt:=PySem.Challenge.pw_farhail_k46_whole_strengths_by_parters.main.body.getD i (.Pass ⟨0,0,0,0⟩)
structure Txt (K:Frag)(mg:UE):Prop where
 abs:mg "abs"=none
 all:mg "all"=none
 enumerate:mg "enumerate"=none
 int:mg "int"=none
 isinstance:mg "isinstance"=none
 len:mg "len"=none
 list:mg "list"=none
 max:mg "max"=none
 min:mg "min"=none
 range:mg "range"=none
 sorted:mg "sorted"=none
 tuple:mg "tuple"=none
 zip:mg "zip"=none
 JK:∃ C,mg "NoLooks"=some (.ref C)/\f7 K C uh "ValueError.__new__" none=true
 Jq:∃ C,mg "NoPlace"=some (.ref C)/\f7 K C uh "ValueError.__new__" none=true
 Kw:∃ C,mg "NoThing"=some (.ref C)/\f7 K C uh "ValueError.__new__" none=true
 M8:∃ C,mg "NoTree"=some (.ref C)/\f7 K C uh "ValueError.__new__" none=true
 HJ:∃ C,mg "NotHeard"=some (.ref C)/\f7 K C uh "ValueError.__new__" none=true
 kit:zg K ["int"]=true
 ns:∃ h:Heap,K.In h/\h.Ns mainGlobals mg
def QZ:∀ {us:Ug},us.length=1->∃ a0,us=[a0]
 | [a0],_=>⟨_,rfl⟩
def Q9:∀ {us:Ug},us.length=2->∃ a0 a1,us=[a0,a1]
 | [a0,a1],_=>⟨_,_,rfl⟩
def Q7:∀ {us:Ug},us.length=3->∃ a0 a1 a2,us=[a0,a1,a2]
 | [a0,a1,a2],_=>⟨_,_,_,rfl⟩
def QS:∀ {us:Ug},us.length=4->∃ a0 a1 a2 a3,us=[a0,a1,a2,a3]
 | [a0,a1,a2,a3],_=>⟨_,_,_,_,rfl⟩
def Ra:∀ {us:Ug},us.length=5->∃ a0 a1 a2 a3 a4,us=[a0,a1,a2,a3,a4]
 | [a0,a1,a2,a3,a4],_=>⟨_,_,_,_,_,rfl⟩
local macro_rules | `(tactic| ac_nf) => `(tactic| (intro _ _ _ _ _ _ us hl; first | (obtain ⟨_, e⟩ := QZ hl; subst e; rfl) | (obtain ⟨_, _, e⟩ := Q9 hl; subst e; rfl) | (obtain ⟨_, _, _, e⟩ := Q7 hl; subst e; rfl) | (obtain ⟨_, _, _, _, e⟩ := QS hl; subst e; rfl) | (obtain ⟨_, _, _, _, _, e⟩ := Ra hl; subst e; rfl)))
section
variable (P:Program)(w:World)(K:Frag)(mg:UE)(base:Heap)
abbrev qO:Prop:=bU P w K mg base 1 "_law_cells" ["script","many"] (cy mg K [false,false] uR)
abbrev sr:Prop:=bU P w K mg base 1 "_law_pool" ["cells","k"] (cy mg K [false,false] xE)
abbrev ie:Prop:=bU P w K mg base 1 "_law_take" ["pool","many"] (cy mg K [true,false] ir)
abbrev sf:Prop:=bU P w K mg base 2 "_law_some" ["pool","menu","many"] (cy mg K [true,false,false] xq)
abbrev qe:Prop:=bU P w K mg base 3 "_law_named" ["pool","many","ties"] (cy mg K [true,false,false] qD)
abbrev uP:Prop:=bU P w K mg base 4 "_law_web" ["pool","most"] (cy mg K [true,false] BX)
abbrev qE:Prop:=bU P w K mg base 2 "_law_looks" ["pool","many"] (cy mg K [true,false] uV)
abbrev qg:Prop:=bU P w K mg base 1 "are_looks" ["web","looks"] (cy mg K [false,false] Ca)
abbrev cO:Prop:=bU P w K mg base 2 "refuse_wrong_looks" ["web","looks"] (cy mg K [false,false] lS)
abbrev gB:Prop:=bU P w K mg base 1 "refuse_no_place" ["web","place"] (cy mg K [false,false] vJ)
abbrev gg:Prop:=bU P w K mg base 1 "neighbour_lists" ["web"] (cy mg K [false] vd)
abbrev mL:Prop:=bU P w K mg base 2 "fars_or_none" ["web","place"] (cy mg K [false,false] CK)
abbrev lV:Prop:=bU P w K mg base 3 "fars_from" ["web","place"] (cy mg K [false,false] vE)
abbrev pW:Prop:=bU P w K mg base 1 "nearer_end" ["fars","tie"] (cy mg K [false,false] CL)
abbrev lN:Prop:=bU P w K mg base 2 "thing_far" ["fars","thing"] (cy mg K [false,false] vD)
abbrev jV:Prop:=bU P w K mg base 4 "codes_of" ["web","looks","things"] (cy mg K [false,false,false] qJ)
abbrev d9:Prop:=bU P w K mg base 1 "things_of" ["web","kind"] (cy mg K [false,false] jh)
abbrev mV:Prop:=bU P w K mg base 1 "unlike_count" ["code","other"] (cy mg K [false,false] B8)
abbrev jA:Prop:=bU P w K mg base 5 "strength_of" ["web","looks","kind"] (cy mg K [false,false,false] uZ)
abbrev rQ:Prop:=bU P w K mg base 1 "is_thing" ["web","thing"] (cy mg K [false,false] Ct)
abbrev ki:Prop:=bU P w K mg base 2 "refuse_no_thing" ["web","thing"] (cy mg K [false,false] yN)
abbrev qa:Prop:=bU P w K mg base 3 "parters_by" ["rows","one","other"] (cy mg K [false,false,false] Cp)
abbrev rO:Prop:=bU P w K mg base 4 "far_rows" ["web"] (cy mg K [false] BH)
abbrev qd:Prop:=bU P w K mg base 5 "parters_of" ["web","one","other"] (cy mg K [false,false,false] B0)
abbrev kT:Prop:=bU P w K mg base 6 "_law_by_parters" ["web","looks","kind"] (cy mg K [false,false,false] BY)
abbrev pG:Prop:=bU P w K mg base 1 "is_tree" ["web"] (cy mg K [false] vz)
abbrev rM:Prop:=bU P w K mg base 5 "likes_by" ["web","looks","kind"] (cy mg K [false,false,false] Ce)
abbrev rL:Prop:=bU P w K mg base 6 "is_known" ["web","looks","kind"] (cy mg K [false,false,false] CJ)
abbrev lu:Prop:=bU P w K mg base 6 "most_strength" ["web","kind"] (cy mg K [false,false] Cm)
abbrev gK:Prop:=bU P w K mg base 2 "refuse_no_tree" ["web"] (cy mg K [false] vR)
abbrev mW:Prop:=bU P w K mg base 1 "piece_behind" ["lists","place","neighbour"] (cy mg K [false,false,false] CW)
abbrev qy:Prop:=bU P w K mg base 3 "pieces_at" ["web","place"] (cy mg K [false,false] BK)
abbrev j9:Prop:=bU P w K mg base 4 "looks_in_pieces" ["web","looks","place"] (cy mg K [false,false,false] CF)
abbrev lC:Prop:=bU P w K mg base 5 "tree_strength" ["web","looks","kind"] (cy mg K [false,false,false] Ck)
abbrev qM:Prop:=bU P w K mg base 7 "_law_right" ["web","looks","kind"] (cy mg K [false,false,false] xx)
abbrev n5:Prop:=bU P w K mg base 1 "wrong_count" ["code","heard"] (cy mg K [false,false] x8)
abbrev kO:Prop:=bU P w K mg base 5 "fitting_things" ["web","looks","kind","heard","lies"] (cy mg K [false,false,false,false,false] CS)
abbrev m5:Prop:=bU P w K mg base 6 "_law_more_fit" ["pool","web","looks","kind"] (cy mg K [true,false,false,false] CU)
end
section
variable {P:Program}{w:World}{K:Frag}{mg:UE}{base:Heap}
abbrev lF:Stmt:=top 40
def mj:aH ["script","many","cells","k","cell"] ["script","many"] (ay lF):=by ac_rfl
def yI (T:Txt K mg)(r:Rec K "_law_cells" lF):qO P w K mg base :=
 aU T.ns r (by ac_nf) fun F=>bx (m:=3) F mj rfl (by decide) (d:=iA) (fun cdv A outer s H Ex hr=>have hu:=hr.units;ai (bI 2 mj.nd (i6 T.list (aE (Eg (aP 0 (aP 1 a0))) a0))) (ai (iL SK mj.nd (G9 T.enumerate (Lz (aP 0 (aP 1 (aE (xI) a0))))) (gT (gC 3 (gC 4 g0))) (ak (nh 2 hu (gu (aE (oR (aE (dB hu (aP 2 (aE (l7 (aP 3 (aP 1 a0))) a0))) (aE (xI) a0))) (aP 4 a0))) (l7 (aP 3 (aP 1 a0)))))) (ak (uN 2)))) PB.Hw
abbrev nq:Stmt:=top 41
def ig:aH ["cells","k","cell","rest"] ["cells","k"] (ay nq):=by ac_rfl
def Af (T:Txt K mg)(r:Rec K "_law_pool" nq):sr P w K mg base :=
 aU T.ns r (by ac_nf) fun F=>bx (m:=2) F ig rfl (by decide) (d:=jo) (fun cdv A outer s H Ex hr=>have hu:=hr.units;ai (bI 2 ig.nd (xI)) (nY (fB (bE.st (wo (aE (fX T.len (aP 0 a0)) (aE (xI) a0)))) (ak (bI 2 ig.nd (gu (aE (dB hu (aP 0 (aE (l7 (aP 1 (aE (fX T.len (aP 0 a0)) a0))) a0))) (aE (Ho (aP 1 (aE (fX T.len (aP 0 a0)) a0))) a0))))) (bV)) (ai (bI 3 ig.nd (xI)) (nY (fB (bE.st (kj.pY (nW (FT (aP 2 (aE (xI) a0))) (fU (Q0 (aP 2 (aE (Qn (aE (xI) (aE (xI) a0))) a0))))))) (ak (bI 3 ig.nd (Qs T.abs (aP 2 a0)))) (bV)) (ak (bQ (jR (aP 3 (aE (l7 (aE (gu (aE (oR (aE (l7 (aP 2 (aE (xI) a0))) (aE (xI) a0))) (aE (oR (aE (oR (aE (xI) (aE (gu (aP 1 (aE (xI) a0))) a0))) (aE (gu (aP 1 (aE (xI) a0))) a0))) a0))) (aE (xI) a0))) a0))))))))) PB.Kr
abbrev m9:Stmt:=top 42
def sd:aH ["pool","many","found"] ["pool","many"] (ay m9):=by ac_rfl
def z8 (T:Txt K mg)(r:Rec K "_law_take" m9):ie P w K mg base :=
 aU T.ns r (by ac_nf) fun F=>bx (m:=1) F sd rfl (by decide) (d:=i9) (fun cdv A outer s H Ex hr=>have hu:=hr.units;ai (fB (bE.st (wo (aE (dB hu (aP 0 (aE (xI) a0))) (aE (xI) a0)))) (ai (bI 2 sd.nd (l7 (aE (dB hu (aP 0 (aE (xI) a0))) (aP 1 a0)))) (ai (nh 0 hu (Ho (aE (dB hu (aP 0 (aE (xI) a0))) (aP 1 a0))) (xI)) (ak (uN 2)))) (bV)) (ai (nh 0 hu (l7 (aE (gu (aE (oR (aE (dB hu (aP 0 (aE (xI) a0))) (aE (xI) a0))) (aE (xI) a0))) (aE (xI) a0))) (xI)) (ak (bQ (l7 (aE (Ho (aE (l7 (aE (oR (aE (l7 (aE (oR (aE (dB hu (aP 0 (aE (xI) a0))) (aE (dB hu (aP 0 (aE (xI) a0))) a0))) (aE (xI) a0))) (aE (xI) a0))) (aE (xI) a0))) (aE (xI) a0))) (aP 1 a0))))))) PB.JB
abbrev ng:Stmt:=top 43
def rS:aH ["pool","menu","many","rest"] ["pool","menu","many"] (ay ng):=by ac_rfl
def z4 (T:Txt K mg)(h0:ie P w K mg base)(r:Rec K "_law_some" ng):sf P w K mg base :=
 aU T.ns r (by ac_nf) fun F=>bx (m:=2) F rS rfl (by decide) (d:=ji ir) (fun cdv A outer s H Ex hr=>ai (bI 3 rS.nd (i6 T.list (aP 1 a0))) (ak (bQ (eZ (vs:=["k"]) (NB:=["k","rest","pool"]) (ix:=[3,0]) (by rfl) (pX T.range (aP 2 a0)) (fun _ _ _ _=>gN 0) (fun _ _ _ _=>.nil) (fun _ _ _ _ _=>cA (xM 1 A7 AK PySem.F.slot_list_pop PySem.F.type_list_pop (eC (aF h0 gD hr (aP 2 (aE (fX T.len (aP 1 a0)) a0))) e0))))))) PB.JT
abbrev lz:Stmt:=top 44
def qz:aH ["pool","many","ties","names"] ["pool","many","ties"] (ay lz):=by ac_rfl
def zw (T:Txt K mg)(h0:sf P w K mg base)(r:Rec K "_law_named" lz):qe P w K mg base :=
 aU T.ns r (by ac_nf) fun F=>bx (m:=3) F qz rfl (by decide) (d:=gS xq) (fun cdv A outer s H Ex hr=>have hu:=hr.units;ai (bI 3 qz.nd (aF h0 aK hr (aP 0 (aE (EU T.list T.range (aP 1 a0)) (aP 1 a0))))) (ak (bQ (m8 (aP 1 (aE (LK T.tuple (aE (MM T.sorted (aE (eZ (vs:=["a","b"]) (NB:=["a","b","names"]) (ix:=[3]) (by rfl) (d8 (xV 2)) (fun _ _ _ _=>gT (gC 0 (gC 1 g0))) (fun _ _ _ _=>.nil) (fun _ _ _ _ _=>cA (m8 (aE (zE T.min (aE (dB hu (aP 2 (aP 0 a0))) (aE (dB hu (aP 2 (aP 1 a0))) a0))) (aE (Cu T.max (aE (dB hu (aP 2 (aP 0 a0))) (aE (dB hu (aP 2 (aP 1 a0))) a0))) a0))))) a0)) a0)) a0)))))) PB.Gw
abbrev oH:Stmt:=top 45
def cK:aH ["pool","most","many","shape","ties","k","ahead","place","one","other"] ["pool","most"] (ay oH):=by ac_rfl
def CP (T:Txt K mg)(h0:ie P w K mg base)(h1:qe P w K mg base)(r:Rec K "_law_web" oH):uP P w K mg base :=
 aU T.ns r (by ac_nf) fun F=>bx (m:=8) F cK rfl (by decide) (d:=jE ir qD) (fun cdv A outer s H Ex hr=>have hu:=hr.units;ai (bI 2 cK.nd (gu (aE (xI) (aE (aF h0 aK hr (aP 0 (aP 1 a0))) a0)))) (ai (bI 3 cK.nd (aF h0 aK hr (aP 0 (aE (xI) a0)))) (ai (bI 4 cK.nd (P9)) (ai (iL SK cK.nd (QO T.range (aE (xI) (aP 2 a0))) (gN 5) (ai (bI 6 cK.nd (aF h0 aK hr (aP 0 (aP 5 a0)))) (nY (fB (bE.st (uS hu (aP 3 (aE (xI) a0)))) (ak (bI 6 cK.nd (zK (aP 5 (aE (xI) a0))))) (bV)) (nY (fB (bE.st (kj.pY (k7 (uS hu (aP 3 (aE (xI) a0))) (fU (wo (aP 5 (aE (xI) a0))))))) (ak (iL SK cK.nd (pX T.range (aP 5 a0)) (gN 7) (ak (fB (bE.st (NI hu (aE (m8 (aE (zE T.min (aP 7 (aP 6 a0))) (aE (Cu T.max (aP 7 (aP 6 a0))) a0))) (aP 4 a0)))) (ak (nh 4 hu (xB) (m8 (aP 7 (aP 5 a0))))) (bV))))) (bV)) (nY (fB (bE.st (uS hu (aP 3 (aE (xI) a0)))) (ak (iL SK cK.nd (pX T.range (aP 5 a0)) (gN 7) (ak (nh 4 hu (xB) (m8 (aP 7 (aP 5 a0))))))) (bV)) (ak (fB (bE.st (kj.pY (nW (FT (aP 3 (aE (xI) a0))) (nW (uS hu (aP 5 (aE (xI) a0))) (fU (uS hu (aE (aF h0 aK hr (aP 0 (aE (xI) a0))) (aE (xI) a0)))))))) (ak (nh 4 hu (xB) (m8 (aP 6 (aP 5 a0))))) (bV)))))))) (nY (fB (bE.st (kj.pY (k7 (uS hu (aP 3 (aE (xI) a0))) (k7 (wo (aP 2 (aE (xI) a0))) (fU (wo (aE (aF h0 aK hr (aP 0 (aE (xI) a0))) (aE (xI) a0)))))))) (ak (nh 4 hu (xB) (m8 (aE (xI) (aE (zK (aP 2 (aE (xI) a0))) a0))))) (bV)) (ai (iL SK cK.nd (pX T.range (aE (oR (aE (aF h0 aK hr (aP 0 (aE (xI) a0))) (aE (QC T.int (aE (Ll (Pg hu (aP 3 (aE (xI) a0))) (Di (Pk (aP 2 (aE (xI) a0))))) a0)) a0))) a0)) (gN 5) (ai (bI 8 cK.nd (aF h0 aK hr (aP 0 (aP 2 a0)))) (ai (bI 9 cK.nd (l7 (aE (gu (aE (gu (aP 8 (aE (xI) a0))) (aE (aF h0 aK hr (aP 0 (aE (zK (aP 2 (aE (xI) a0))) a0))) a0))) (aP 2 a0)))) (ak (nh 4 hu (xB) (m8 (aE (zE T.min (aP 8 (aP 9 a0))) (aE (Cu T.max (aP 8 (aP 9 a0))) a0)))))))) (ak (bQ (aF h1 aK hr (aP 0 (aP 2 (aE (Mw T.list (aP 4 a0)) a0)))))))))))) PB.M5
abbrev mw:Stmt:=top 46
def qF:aH ["pool","many","part"] ["pool","many"] (ay mw):=by ac_rfl
def zV (T:Txt K mg)(h0:ie P w K mg base)(r:Rec K "_law_looks" mw):qE P w K mg base :=
 aU T.ns r (by ac_nf) fun F=>bx (m:=2) F qF rfl (by decide) (d:=iw ir) (fun cdv A outer s H Ex hr=>have hu:=hr.units;ai (bI 2 qF.nd (aF h0 aK hr (aP 0 (aE (xI) a0)))) (ak (bQ (eZ (vs:=["place"]) (NB:=["place","pool","part"]) (ix:=[0,2]) (by rfl) (pX T.range (aP 1 a0)) (fun _ _ _ _=>gN 0) (fun _ _ _ _=>.one (bE.st (FT (aE (aF h0 gD hr (aP 1 (aE (xI) a0))) (aE (dB hu (aE (jR (aE (xI) (aE (xI) (aE (xI) (aE (xI) (aE (xI) (aE (xI) a0))))))) (aP 2 a0))) a0))))) (fun _ _ _ _ _=>cA (xV 0)))))) PB.HE
abbrev mz:Stmt:=top 15
def jl:aH ["web","looks","last","look"] ["web","looks"] (ay mz):=by ac_rfl
def zB (T:Txt K mg)(r:Rec K "are_looks" mz):qg P w K mg base :=
 aU T.ns r (by ac_nf) fun F=>bx (m:=2) F jl rfl (by decide) (d:=m7) (fun cdv A outer s H Ex hr=>have hu:=hr.units;ai (bI 2 jl.nd (Qw (aE (xI) a0))) (ai (iL SK jl.nd (d8 (xV 1)) (gN 3) (ai (fB (zO (bE.st (wc uT uT rfl (xV 2) (xV 3) (dB hu (aP 0 (aE (xI) a0)))))) (ak (bQ (xB))) (bV)) (ak (bI 2 jl.nd (xV 3))))) (ak (bQ (xB))))) PB.Nf
abbrev fu:Stmt:=top 16
def nV:aH ["web","looks"] ["web","looks"] (ay fu):=by ac_rfl
def oF (T:Txt K mg)(h0:qg P w K mg base)(r:Rec K "refuse_wrong_looks" fu):cO P w K mg base :=
 aU T.ns r (by ac_nf) fun F=>bx (m:=0) F nV rfl (by decide) (d:=fK Ca) (fun cdv A outer s H Ex hr=>ak (fB (zO (bE.st (uI (aF h0 aK hr (aP 0 (aP 1 a0)))))) (ak (oj T.JK)) (bV))) PB.LB
abbrev gh:Stmt:=top 10
def qp:aH ["web","place"] ["web","place"] (ay gh):=by ac_rfl
def qV (T:Txt K mg)(r:Rec K "refuse_no_place" gh):gB P w K mg base :=
 aU T.ns r (by ac_nf) fun F=>bx (m:=0) F qp rfl (by decide) (d:=gP) (fun cdv A outer s H Ex hr=>have hu:=hr.units;ak (fB (zO (bE.st (wc xo uT rfl (xI) (xV 1) (dB hu (aP 0 (aE (xI) a0)))))) (ak (oj T.Jq)) (bV))) PB.Ln
abbrev gm:Stmt:=top 8
def eO:aH ["web","many","ties","lists","one","other"] ["web"] (ay gm):=by ac_rfl
def qx (T:Txt K mg)(r:Rec K "neighbour_lists" gm):gg P w K mg base :=
 aU T.ns r (by ac_nf) fun F=>bx (m:=6) F eO rfl (by decide) (d:=gZ) (fun cdv A outer s H Ex hr=>ai (CV eO.nd (gC 1 (gC 2 g0)) (xV 0)) (ai (Qz (j:=3) eO.nd (vs:=["place"]) (NB:=["place"]) (ix:=[]) (by rfl) (pX T.range (aP 1 a0)) (fun _ _ _ _=>gN 0) (fun _ _ _ _=>.nil) (fun _ _ _ _=>jR a0)) (ai (iL SK eO.nd (d8 (xV 2)) (gT (gC 4 (gC 5 g0))) (ai (eY (Po 3 5 iO jf UH UI (xV 4))) (ak (eY (Po 3 4 iO jf UH UI (xV 5)))))) (ak (uN 3))))) PB.Nb
abbrev jd:Stmt:=top 9
def cF:aH ["web","place","lists","fars","edge","reached","here","there"] ["web","place"] (ay jd):=by ac_rfl
def uf (T:Txt K mg)(h0:gg P w K mg base)(r:Rec K "fars_or_none" jd):mL P w K mg base :=
 aU T.ns r (by ac_nf) fun F=>bx (m:=6) F cF rfl (by decide) (d:=jK vd) (fun cdv A outer s H Ex hr=>have hu:=hr.units;ai (bI 2 cF.nd (aF h0 aK hr (aP 0 a0))) (ai (bI 3 cF.nd (oR (aE (jR (aE (xN) a0)) (aE (dB hu (aP 0 (aE (xI) a0))) a0)))) (ai (nh 3 hu (xI) (xV 1)) (ai (bI 4 cF.nd (jR (aP 1 a0))) (ai (Dj SK (tV 4) (ai (bI 5 cF.nd (jR a0)) (ai (iL SK cF.nd (d8 (xV 4)) (gN 6) (ak (iL SK cF.nd (d8 (dB hu (aP 2 (aP 6 a0)))) (gN 7) (ak (fB (bE.st (LX (aE (dB hu (aP 3 (aP 7 a0))) (aE (xN) a0)))) (ai (nh 3 hu (gu (aE (dB hu (aP 3 (aP 6 a0))) (aE (xI) a0))) (xV 7)) (ak (eY (xM 5 iO jf UH UI (eC (xV 7) e0))))) (bV)))))) (ak (bI 4 cF.nd (xV 5)))))) (ak (uN 3))))))) PB.Mt
abbrev lI:Stmt:=top 11
def x9:aH ["web","place"] ["web","place"] (ay lI):=by ac_rfl
def xY (T:Txt K mg)(h0:gB P w K mg base)(h1:mL P w K mg base)(r:Rec K "fars_from" lI):lV P w K mg base :=
 aU T.ns r (by ac_nf) fun F=>bx (m:=0) F x9 rfl (by decide) (d:=nj vJ CK) (fun cdv A outer s H Ex hr=>ai (eY (aF h0 aK hr (aP 0 (aP 1 a0)))) (ak (bQ (aF h1 aK hr (aP 0 (aP 1 a0)))))) PB.M0
abbrev ku:Stmt:=top 12
def wX:aH ["fars","tie"] ["fars","tie"] (ay ku):=by ac_rfl
def wY (T:Txt K mg)(r:Rec K "nearer_end" ku):pW P w K mg base :=
 aU T.ns r (by ac_nf) fun F=>bx (m:=0) F wX rfl (by decide) (d:=lQ) (fun cdv A outer s H Ex hr=>have hu:=hr.units;ak (bQ (zE T.min (aE (dB hu (aP 0 (aE (dB hu (aP 1 (aE (xI) a0))) a0))) (aE (dB hu (aP 0 (aE (dB hu (aP 1 (aE (xI) a0))) a0))) a0))))) PB.K7
abbrev lK:Stmt:=top 19
def zh:aH ["fars","thing"] ["fars","thing"] (ay lK):=by ac_rfl
def zk (T:Txt K mg)(h0:pW P w K mg base)(r:Rec K "thing_far" lK):lN P w K mg base :=
 aU T.ns r (by ac_nf) fun F=>bx (m:=0) F zh rfl (by decide) (d:=nI CL) (fun cdv A outer s H Ex hr=>have hu:=hr.units;ai (fB (bE.st (uI (Ms T.kit T.isinstance T.int PyProof.Rows.boot_int (aP 1 a0)))) (ak (bQ (dB hu (aP 0 (aP 1 a0))))) (bV)) (ak (bQ (aF h0 aK hr (aP 0 (aP 1 a0)))))) PB.Mq
abbrev nA:Stmt:=top 20
def sA:aH ["web","looks","things","rows"] ["web","looks","things"] (ay nA):=by ac_rfl
def Ae (T:Txt K mg)(h0:lV P w K mg base)(h1:lN P w K mg base)(r:Rec K "codes_of" nA):jV P w K mg base :=
 aU T.ns r (by ac_nf) fun F=>bx (m:=3) F sA rfl (by decide) (d:=pT vE vD) (fun cdv A outer s H Ex hr=>ai (bI 3 sA.nd (eZ (vs:=["look"]) (NB:=["look","web"]) (ix:=[0]) (by rfl) (d8 (xV 1)) (fun _ _ _ _=>gN 0) (fun _ _ _ _=>.nil) (fun _ _ _ _ _=>cA (aF h0 gD hr (aP 1 (aP 0 a0)))))) (ak (bQ (GA (cx:="thing") (vs:=["thing"]) (NB:=["thing","rows"]) (ix:=[3]) (by rfl) (d8 (xV 2)) (fun _ _ _ _ _=>gN 0) (fun _ _ _ _ _=>.nil) (fun _ _ _ _ _ _=>cA (eZ (vs:=["fars"]) (NB:=["fars","thing"]) (ix:=[0]) (by rfl) (d8 (xV 1)) (fun _ _ _ _=>gN 0) (fun _ _ _ _=>.nil) (fun _ _ _ _ _=>cA (aF h1 gD hr (aP 0 (aP 1 a0)))))))))) PB.Ml
abbrev l5:Stmt:=top 14
def je:aH ["web","kind","many","ties","places","joins"] ["web","kind"] (ay l5):=by ac_rfl
def yy (T:Txt K mg)(r:Rec K "things_of" l5):d9 P w K mg base :=
 aU T.ns r (by ac_nf) fun F=>bx (m:=4) F je rfl (by decide) (d:=nG) (fun cdv A outer s H Ex hr=>have hu:=hr.units;ai (CV je.nd (gC 2 (gC 3 g0)) (xV 0)) (ai (bI 4 je.nd (Jm (bE.st (uS hu (aP 1 (aE (xS) a0)))) (jR a0) (EU T.list T.range (aP 2 a0)))) (ai (bI 5 je.nd (Jm (bE.st (uS hu (aP 1 (aE (xS) a0)))) (jR a0) (i6 T.list (aP 3 a0)))) (ak (bQ (gu (aP 4 (aP 5 a0)))))))) PB.Oa
abbrev iV:Stmt:=top 27
def uW:aH ["code","other"] ["code","other"] (ay iV):=by ac_rfl
def t6 (T:Txt K mg)(r:Rec K "unlike_count" iV):mV P w K mg base :=
 aU T.ns r (by ac_nf) fun F=>bx (m:=2) F uW rfl (by decide) (d:=jQ) (fun cdv A outer s H Ex hr=>have hu:=hr.units;ak (bQ (fX T.len (aE (eZ (vs:=["far","another"]) (NB:=["far","another"]) (ix:=[]) (by rfl) (vp T.zip (xV 0) (xV 1)) (fun _ _ _ _=>gT (gC 0 (gC 1 g0))) (fun _ _ _ _=>.one (bE.st (rN hu (aP 0 (aP 1 a0))))) (fun _ _ _ _ _=>cA (xV 0))) a0)))) PB.LS
abbrev jI:Stmt:=top 28
def jF:aH ["web","looks","kind","codes","counts"] ["web","looks","kind"] (ay jI):=by ac_rfl
def vf (T:Txt K mg)(h0:cO P w K mg base)(h1:jV P w K mg base)(h2:d9 P w K mg base)(h3:mV P w K mg base)(r:Rec K "strength_of" jI):jA P w K mg base :=
 aU T.ns r (by ac_nf) fun F=>bx (m:=5) F jF rfl (by decide) (d:=kD lS qJ jh B8) (fun cdv A outer s H Ex hr=>ai (eY (aF h0 aK hr (aP 0 (aP 1 a0)))) (ai (bI 3 jF.nd (aF h1 aK hr (aP 0 (aP 1 (aE (aF h2 aK hr (aP 0 (aP 2 a0))) a0))))) (ai (Gs (j:=4) jF.nd (vs:=["at","code","other"]) (NB:=["at","code","other","codes"]) (ix:=[3]) (by rfl) (G9 T.enumerate (xV 3)) (fun _ _ _ _=>gT (gC 0 (gC 1 g0))) (fun _ _ _ _=>.nil) (fun _ _ _ _ _=>Qv (d8 (D4 (aP 3 (aE (gu (aP 0 (aE (xI) a0))) a0)))) (gN 2) (.nil) (cA (aF h3 gD hr (aP 1 (aP 2 a0)))))) (ak (bQ (Iv T.min (aP 4 (aE (xN) a0)))))))) PB.MY
abbrev nH:Stmt:=top 17
def zY:aH ["web","thing"] ["web","thing"] (ay nH):=by ac_rfl
def z6 (T:Txt K mg)(r:Rec K "is_thing" nH):rQ P w K mg base :=
 aU T.ns r (by ac_nf) fun F=>bx (m:=0) F zY rfl (by decide) (d:=oS) (fun cdv A outer s H Ex hr=>have hu:=hr.units;ai (fB (bE.st (uI (Ms T.kit T.isinstance T.int PyProof.Rows.boot_int (aP 1 a0)))) (ak (bQ (HQ xo uT rfl (xI) (xV 1) (dB hu (aP 0 (aE (xI) a0)))))) (bV)) (ak (bQ (Py hu (aP 1 (aE (dB hu (aP 0 (aE (xI) a0))) a0)))))) PB.ML
abbrev gA:Stmt:=top 18
def qL:aH ["web","thing"] ["web","thing"] (ay gA):=by ac_rfl
def qI (T:Txt K mg)(h0:rQ P w K mg base)(r:Rec K "refuse_no_thing" gA):ki P w K mg base :=
 aU T.ns r (by ac_nf) fun F=>bx (m:=0) F qL rfl (by decide) (d:=gQ Ct) (fun cdv A outer s H Ex hr=>ak (fB (zO (bE.st (uI (aF h0 aK hr (aP 0 (aP 1 a0)))))) (ak (oj T.Kw)) (bV))) PB.Lw
abbrev kI:Stmt:=top 22
def w9:aH ["rows","one","other"] ["rows","one","other"] (ay kI):=by ac_rfl
def wZ (T:Txt K mg)(h0:lN P w K mg base)(r:Rec K "parters_by" kI):qa P w K mg base :=
 aU T.ns r (by ac_nf) fun F=>bx (m:=2) F w9 rfl (by decide) (d:=lD vD) (fun cdv A outer s H Ex hr=>have hu:=hr.units;ak (bQ (eZ (vs:=["place","fars"]) (NB:=["place","fars","one","other"]) (ix:=[1,2]) (by rfl) (G9 T.enumerate (xV 0)) (fun _ _ _ _=>gT (gC 0 (gC 1 g0))) (fun _ _ _ _=>.one (bE.st (rN hu (aE (aF h0 gD hr (aP 1 (aP 2 a0))) (aE (aF h0 gD hr (aP 1 (aP 3 a0))) a0))))) (fun _ _ _ _ _=>cA (xV 0))))) PB.K5
abbrev nk:Stmt:=top 21
def Aj:aH ["web"] ["web"] (ay nk):=by ac_rfl
def zZ (T:Txt K mg)(h0:lV P w K mg base)(r:Rec K "far_rows" nk):rO P w K mg base :=
 aU T.ns r (by ac_nf) fun F=>bx (m:=1) F Aj rfl (by decide) (d:=oW vE) (fun cdv A outer s H Ex hr=>have hu:=hr.units;ak (bQ (eZ (vs:=["place"]) (NB:=["place","web"]) (ix:=[0]) (by rfl) (pX T.range (aE (dB hu (aP 0 (aE (xI) a0))) a0)) (fun _ _ _ _=>gN 0) (fun _ _ _ _=>.nil) (fun _ _ _ _ _=>cA (aF h0 gD hr (aP 1 (aP 0 a0))))))) PB.Lp
abbrev kN:Stmt:=top 23
def xh:aH ["web","one","other"] ["web","one","other"] (ay kN):=by ac_rfl
def xg (T:Txt K mg)(h0:ki P w K mg base)(h1:qa P w K mg base)(h2:rO P w K mg base)(r:Rec K "parters_of" kN):qd P w K mg base :=
 aU T.ns r (by ac_nf) fun F=>bx (m:=0) F xh rfl (by decide) (d:=l8 yN Cp BH) (fun cdv A outer s H Ex hr=>ai (eY (aF h0 aK hr (aP 0 (aP 1 a0)))) (ai (eY (aF h0 aK hr (aP 0 (aP 2 a0)))) (ak (bQ (aF h1 aK hr (aE (aF h2 aK hr (aP 0 a0)) (aP 1 (aP 2 a0)))))))) PB.Nc
abbrev gY:Stmt:=top 47
def cC:aH ["web","looks","kind","things","found","one","other","many"] ["web","looks","kind"] (ay gY):=by ac_rfl
def rJ (T:Txt K mg)(h0:d9 P w K mg base)(h1:qd P w K mg base)(r:Rec K "_law_by_parters" gY):kT P w K mg base :=
 aU T.ns r (by ac_nf) fun F=>bx (m:=6) F cC rfl (by decide) (d:=fD jh B0) (fun cdv A outer s H Ex hr=>have hu:=hr.units;ai (bI 3 cC.nd (aF h0 aK hr (aP 0 (aP 2 a0)))) (ai (bI 4 cC.nd (xN)) (ai (iL SK cC.nd (pX T.range (aE (fX T.len (aP 3 a0)) a0)) (gN 5) (ak (iL SK cC.nd (pX T.range (aP 5 a0)) (gN 6) (ai (bI 7 cC.nd (fX T.len (aE (eZ (vs:=["look"]) (NB:=["look","looks"]) (ix:=[1]) (by rfl) (d8 (aF h1 aK hr (aP 0 (aE (dB hu (aP 3 (aP 5 a0))) (aE (dB hu (aP 3 (aP 6 a0))) a0))))) (fun _ _ _ _=>gN 0) (fun _ _ _ _=>.one (bE.st (NI hu (aP 0 (aP 1 a0))))) (fun _ _ _ _ _=>cA (xV 0))) a0))) (ak (fB (bE.st (kj.pY (nW (LX (aP 4 (aE (xN) a0))) (fU (FT (aP 7 (aP 4 a0))))))) (ak (bI 4 cC.nd (xV 7))) (bV))))))) (ak (uN 4))))) PB.Mi
abbrev pB:Stmt:=top 33
def tS:aH ["web","many","ties"] ["web"] (ay pB):=by ac_rfl
def Cd (T:Txt K mg)(r:Rec K "is_tree" pB):pG P w K mg base :=
 aU T.ns r (by ac_nf) fun F=>bx (m:=2) F tS rfl (by decide) (d:=qj) (fun cdv A outer s H Ex hr=>have hu:=hr.units;ai (CV tS.nd (gC 1 (gC 2 g0)) (xV 0)) (ak (bQ (Pg hu (aE (fX T.len (aP 2 a0)) (aE (zK (aP 1 (aE (xI) a0))) a0)))))) PB.K8
abbrev nE:Stmt:=top 24
def jY:aH ["web","looks","kind","things","alike","thing","code"] ["web","looks","kind"] (ay nE):=by ac_rfl
def Ab (T:Txt K mg)(h0:cO P w K mg base)(h1:d9 P w K mg base)(h2:jV P w K mg base)(r:Rec K "likes_by" nE):rM P w K mg base :=
 aU T.ns r (by ac_nf) fun F=>bx (m:=5) F jY rfl (by decide) (d:=pM lS jh qJ) (fun cdv A outer s H Ex hr=>have hu:=hr.units;ai (eY (aF h0 aK hr (aP 0 (aP 1 a0)))) (ai (bI 3 jY.nd (aF h1 aK hr (aP 0 (aP 2 a0)))) (ai (bI 4 jY.nd (Ot)) (ai (iL SK jY.nd (vp T.zip (xV 3) (aF h2 aK hr (aP 0 (aP 1 (aP 3 a0))))) (gT (gC 5 (gC 6 g0))) (ak (eY (Ql 4 6 5 hu T.tuple)))) (ak (bQ (eZ (vs:=["group"]) (NB:=["group"]) (ix:=[]) (by rfl) (My 4) (fun _ _ _ _=>gN 0) (fun _ _ _ _=>.one (bE.st (wo (aE (fX T.len (aP 0 a0)) (aE (xI) a0))))) (fun _ _ _ _ _=>cA (xV 0))))))))) PB.Lr
abbrev nF:Stmt:=top 25
def z7:aH ["web","looks","kind"] ["web","looks","kind"] (ay nF):=by ac_rfl
def Aa (T:Txt K mg)(h0:rM P w K mg base)(r:Rec K "is_known" nF):rL P w K mg base :=
 aU T.ns r (by ac_nf) fun F=>bx (m:=0) F z7 rfl (by decide) (d:=pS Ce) (fun cdv A outer s H Ex hr=>ak (bQ (MG (aF h0 aK hr (aP 0 (aP 1 (aP 2 a0))))))) PB.Mp
abbrev iF:Stmt:=top 29
def sW:aH ["web","kind"] ["web","kind"] (ay iF):=by ac_rfl
def sO (T:Txt K mg)(h0:jA P w K mg base)(h1:d9 P w K mg base)(r:Rec K "most_strength" iF):lu P w K mg base :=
 aU T.ns r (by ac_nf) fun F=>bx (m:=0) F sW rfl (by decide) (d:=jm uZ jh) (fun cdv A outer s H Ex hr=>ak (bQ (aF h0 aK hr (aP 0 (aE (aF h1 aK hr (aP 0 (aE (xS) a0))) (aP 1 a0)))))) PB.LC
abbrev gM:Stmt:=top 34
def rF:aH ["web"] ["web"] (ay gM):=by ac_rfl
def rE (T:Txt K mg)(h0:pG P w K mg base)(r:Rec K "refuse_no_tree" gM):gK P w K mg base :=
 aU T.ns r (by ac_nf) fun F=>bx (m:=0) F rF rfl (by decide) (d:=iK vz) (fun cdv A outer s H Ex hr=>ak (fB (zO (bE.st (uI (aF h0 aK hr (aP 0 a0))))) (ak (oj T.M8)) (bV))) PB.Mz
abbrev ja:Stmt:=top 35
def eS:aH ["lists","place","neighbour","piece","steps","last","here"] ["lists","place","neighbour"] (ay ja):=by ac_rfl
def um (T:Txt K mg)(r:Rec K "piece_behind" ja):mW P w K mg base :=
 aU T.ns r (by ac_nf) fun F=>bx (m:=5) F eS rfl (by decide) (d:=jG) (fun cdv A outer s H Ex hr=>have hu:=hr.units;ai (bI 3 eS.nd (jR a0)) (ai (bI 4 eS.nd (jR (aE (m8 (aP 1 (aP 2 a0))) a0))) (ai (Dj SK (tV 4) (ai (CV eS.nd (gC 5 (gC 6 g0)) (xM 4 A7 AK PySem.F.slot_list_pop PySem.F.type_list_pop (e0))) (ai (eY (xM 3 iO jf UH UI (eC (xV 6) e0))) (ak (P1 4 eS.nd (eZ (vs:=["there"]) (NB:=["there","here","last"]) (ix:=[6,5]) (by rfl) (d8 (dB hu (aP 0 (aP 6 a0)))) (fun _ _ _ _=>gN 0) (fun _ _ _ _=>.one (bE.st (rN hu (aP 0 (aP 2 a0))))) (fun _ _ _ _ _=>cA (m8 (aP 1 (aP 0 a0)))))))))) (ak (bQ (EM T.sorted (aP 3 a0))))))) PB.Lo
abbrev l9:Stmt:=top 36
def qB:aH ["web","place","lists"] ["web","place"] (ay l9):=by ac_rfl
def zI (T:Txt K mg)(h0:gK P w K mg base)(h1:gB P w K mg base)(h2:gg P w K mg base)(h3:mW P w K mg base)(r:Rec K "pieces_at" l9):qy P w K mg base :=
 aU T.ns r (by ac_nf) fun F=>bx (m:=2) F qB rfl (by decide) (d:=m6 vR vJ vd CW) (fun cdv A outer s H Ex hr=>have hu:=hr.units;ai (eY (aF h0 aK hr (aP 0 a0))) (ai (eY (aF h1 aK hr (aP 0 (aP 1 a0)))) (ai (bI 2 qB.nd (aF h2 aK hr (aP 0 a0))) (ak (bQ (eZ (vs:=["neighbour"]) (NB:=["neighbour","lists","place"]) (ix:=[2,1]) (by rfl) (d8 (dB hu (aP 2 (aP 1 a0)))) (fun _ _ _ _=>gN 0) (fun _ _ _ _=>.nil) (fun _ _ _ _ _=>cA (aF h3 gD hr (aP 1 (aP 2 (aP 0 a0))))))))))) PB.Mv
abbrev gx:Stmt:=top 37
def qw:aH ["web","looks","place"] ["web","looks","place"] (ay gx):=by ac_rfl
def qG (T:Txt K mg)(h0:qy P w K mg base)(r:Rec K "looks_in_pieces" gx):j9 P w K mg base :=
 aU T.ns r (by ac_nf) fun F=>bx (m:=2) F qw rfl (by decide) (d:=gR BK) (fun cdv A outer s H Ex hr=>have hu:=hr.units;ak (bQ (EM T.sorted (aE (GA (cx:="piece") (vs:=["piece"]) (NB:=["piece","looks"]) (ix:=[1]) (by rfl) (d8 (aF h0 aK hr (aP 0 (aP 2 a0)))) (fun _ _ _ _ _=>gN 0) (fun _ _ _ _ _=>.nil) (fun _ _ _ _ _ _=>cA (fX T.len (aE (eZ (vs:=["look"]) (NB:=["look","piece"]) (ix:=[0]) (by rfl) (d8 (xV 1)) (fun _ _ _ _=>gN 0) (fun _ _ _ _=>.one (bE.st (NI hu (aP 0 (aP 1 a0))))) (fun _ _ _ _ _=>cA (xV 0))) a0)))) a0)))) PB.LL
abbrev iH:Stmt:=top 38
def l0:aH ["web","looks","kind","counts"] ["web","looks","kind"] (ay iH):=by ac_rfl
def sQ (T:Txt K mg)(h0:gK P w K mg base)(h1:cO P w K mg base)(h2:d9 P w K mg base)(h3:j9 P w K mg base)(r:Rec K "tree_strength" iH):lC P w K mg base :=
 aU T.ns r (by ac_nf) fun F=>bx (m:=2) F l0 rfl (by decide) (d:=jb vR lS jh CF) (fun cdv A outer s H Ex hr=>have hu:=hr.units;ai (eY (aF h0 aK hr (aP 0 a0))) (ai (eY (aF h1 aK hr (aP 0 (aP 1 a0)))) (ai (fB (bE.st (FT (aE (fX T.len (aE (aF h2 aK hr (aP 0 (aP 2 a0))) a0)) (aE (xI) a0)))) (ak (bQ (xN))) (bV)) (ai (Gs (j:=3) l0.nd (vs:=["place"]) (NB:=["place","web","looks"]) (ix:=[0,1]) (by rfl) (pX T.range (aE (dB hu (aP 0 (aE (xI) a0))) a0)) (fun _ _ _ _=>gN 0) (fun _ _ _ _=>.nil) (fun _ _ _ _ _=>cA (aF h3 gD hr (aP 1 (aP 2 (aP 0 a0)))))) (ai (fB (bE.st (uS hu (aP 2 (aE (xS) a0)))) (ak (bQ (Jo T.min (aE (eZ (vs:=["row"]) (NB:=["row"]) (ix:=[]) (by rfl) (d8 (xV 3)) (fun _ _ _ _=>gN 0) (fun _ _ _ _=>.nil) (fun _ _ _ _ _=>cA (dB hu (aP 0 (aE (xI) a0))))) a0)))) (bV)) (ak (bQ (Iv T.min (aE (eZ (vs:=["row"]) (NB:=["row"]) (ix:=[]) (by rfl) (d8 (xV 3)) (fun _ _ _ _=>gN 0) (fun _ _ _ _=>.one (bE.st (wo (aE (fX T.len (aP 0 a0)) (aE (xI) a0))))) (fun _ _ _ _ _=>cA (gu (aE (dB hu (aP 0 (aE (xI) a0))) (aE (dB hu (aP 0 (aE (xI) a0))) a0))))) (aE (fX T.len (aP 1 a0)) a0)))))))))) PB.K2
abbrev lM:Stmt:=top 48
def l6:aH ["web","looks","kind","strength","fewer"] ["web","looks","kind"] (ay lM):=by ac_rfl
def yq (T:Txt K mg)(h0:jA P w K mg base)(h1:kT P w K mg base)(h2:pG P w K mg base)(h3:lC P w K mg base)(h4:rL P w K mg base)(h5:lu P w K mg base)(r:Rec K "_law_right" lM):qM P w K mg base :=
 aU T.ns r (by ac_nf) fun F=>bx (m:=4) F l6 rfl (by decide) (d:=iB uZ BY vz Ck CJ Cm) (fun cdv A outer s H Ex hr=>have hu:=hr.units;ai (bI 3 l6.nd (aF h0 aK hr (aP 0 (aE (i6 T.list (aP 1 a0)) (aP 2 a0))))) (ai (fB (bE.st (rN hu (aP 3 (aE (aF h1 aK hr (aP 0 (aP 1 (aP 2 a0)))) a0)))) (ak (bQ (xB))) (bV)) (ai (fB (bE.st (kj.pY (k7 (uI (aF h2 aK hr (aP 0 a0))) (fU (rN hu (aE (aF h3 aK hr (aP 0 (aE (i6 T.list (aP 1 a0)) (aP 2 a0)))) (aP 3 a0))))))) (ak (bQ (xB))) (bV)) (ai (fB (bE.st (rN hu (aE (aF h4 aK hr (aP 0 (aE (i6 T.list (aP 1 a0)) (aP 2 a0)))) (aE (OA (Px (aP 3 (aE (xN) a0))) (Di (Pk (aP 3 (aE (xI) a0))))) a0)))) (ak (bQ (xB))) (bV)) (ai (fB (bE.st (LX (aP 3 (aE (xN) a0)))) (ak (bQ (Px (aE (aF h5 aK hr (aP 0 (aP 2 a0))) (aE (xN) a0))))) (bV)) (ai (Qi (j:=4) (cx:="look") (vs:=["look"]) (NB:=["look","web","looks","kind"]) (ix:=[0,1,2]) l6.nd (by rfl) (d8 (xV 1)) (fun _ _ _ _ _=>gN 0) (fun _ _ _ _ _=>.nil) (fun _ _ _ _ _ _=>cA (aF h0 gD hr (aP 1 (aE (eZ (vs:=["one"]) (NB:=["one","look"]) (ix:=[0]) (by rfl) (d8 (xV 2)) (fun _ _ _ _=>gN 0) (fun _ _ _ _=>.one (bE.st (rN hu (aP 0 (aP 1 a0))))) (fun _ _ _ _ _=>cA (xV 0))) (aP 3 a0)))))) (ai (fB (bE.st (kj.pY (nW (kj.pY (k7 (wo (aP 3 (aE (xI) a0))) (fU (rN hu (aE (Jo T.min (aP 4 a0)) (aE (zK (aP 3 (aE (xI) a0))) a0)))))) (fU (vA (uI (HR T.all (aE (eZ (vs:=["one"]) (NB:=["one","strength"]) (ix:=[3]) (by rfl) (d8 (xV 4)) (fun _ _ _ _=>gN 0) (fun _ _ _ _=>.nil) (fun _ _ _ _ _=>cA (QH (aP 0 (aP 1 a0))))) a0)))))))) (ak (bQ (xB))) (bV)) (ak (bQ (Q5 (aE (aF h5 aK hr (aP 0 (aP 2 a0))) (aP 3 a0)))))))))))) PB.Jt
abbrev jz:Stmt:=top 30
def vW:aH ["code","heard"] ["code","heard"] (ay jz):=by ac_rfl
def vH (T:Txt K mg)(r:Rec K "wrong_count" jz):n5 P w K mg base :=
 aU T.ns r (by ac_nf) fun F=>bx (m:=2) F vW rfl (by decide) (d:=kF) (fun cdv A outer s H Ex hr=>have hu:=hr.units;ak (bQ (fX T.len (aE (eZ (vs:=["far","answer"]) (NB:=["far","answer"]) (ix:=[]) (by rfl) (vp T.zip (xV 0) (xV 1)) (fun _ _ _ _=>gT (gC 0 (gC 1 g0))) (fun _ _ _ _=>.one (bE.st (kj.pY (k7 (P4 (aP 1 (aE (xN) a0))) (fU (rN hu (aP 1 (aP 0 a0)))))))) (fun _ _ _ _ _=>cA (xV 0))) a0)))) PB.NH
abbrev gX:Stmt:=top 31
def g8:aH ["web","looks","kind","heard","lies","things","codes"] ["web","looks","kind","heard","lies"] (ay gX):=by ac_rfl
def rH (T:Txt K mg)(h0:cO P w K mg base)(h1:d9 P w K mg base)(h2:jV P w K mg base)(h3:n5 P w K mg base)(r:Rec K "fitting_things" gX):kO P w K mg base :=
 aU T.ns r (by ac_nf) fun F=>bx (m:=4) F g8 rfl (by decide) (d:=iy lS jh qJ x8) (fun cdv A outer s H Ex hr=>have hu:=hr.units;ai (eY (aF h0 aK hr (aP 0 (aP 1 a0)))) (ai (fB (bE.st (rN hu (aE (fX T.len (aP 3 a0)) (aE (fX T.len (aP 1 a0)) a0)))) (ak (oj T.HJ)) (bV)) (ai (bI 5 g8.nd (aF h1 aK hr (aP 0 (aP 2 a0)))) (ai (bI 6 g8.nd (aF h2 aK hr (aP 0 (aP 1 (aP 5 a0))))) (ak (bQ (eZ (vs:=["thing","code"]) (NB:=["thing","code","heard","lies"]) (ix:=[3,4]) (by rfl) (vp T.zip (xV 5) (xV 6)) (fun _ _ _ _=>gT (gC 0 (gC 1 g0))) (fun _ _ _ _=>.one (bE.st (QK (aE (aF h3 gD hr (aP 1 (aP 2 a0))) (aP 3 a0))))) (fun _ _ _ _ _=>cA (xV 0))))))))) PB.Mg
abbrev iW:Stmt:=top 49
def dI:aH ["pool","web","looks","kind","heard","lies","some","beyond","k"] ["pool","web","looks","kind"] (ay iW):=by ac_rfl
def uc (T:Txt K mg)(h0:ie P w K mg base)(h1:kO P w K mg base)(r:Rec K "_law_more_fit" iW):m5 P w K mg base :=
 aU T.ns r (by ac_nf) fun F=>bx (m:=7) F dI rfl (by decide) (d:=fW ir CS) (fun cdv A outer s H Ex hr=>have hu:=hr.units;ai (Gs (j:=4) dI.nd (vs:=["look"]) (NB:=["look","pool"]) (ix:=[0]) (by rfl) (d8 (xV 2)) (fun _ _ _ _=>gN 0) (fun _ _ _ _=>.nil) (fun _ _ _ _ _=>cA (aF h0 gD hr (aP 1 (aE (xI) a0))))) (ai (bI 5 dI.nd (aF h0 aK hr (aP 0 (aE (xI) a0)))) (ai (bI 6 dI.nd (aF h1 aK hr (aP 1 (aE (i6 T.list (aP 2 a0)) (aP 3 (aE (i6 T.list (aP 4 a0)) (aP 5 a0))))))) (ai (bI 7 dI.nd (jR (aE (aF h1 aK hr (aP 1 (aE (i6 T.list (aP 2 a0)) (aP 3 (aE (i6 T.list (aP 4 a0)) (aE (gu (aP 5 (aE (xI) a0))) a0)))))) a0))) (ai (iL SK dI.nd (pX T.range (aE (zE T.min (aE (xI) (aE (fX T.len (aP 2 a0)) a0))) a0)) (gN 8) (ak (eY (xM 7 iO jf UH UI (eC (aF h1 aK hr (aP 1 (aE (i6 T.list (aP 2 a0)) (aP 3 (aE (gu (aE (gu (aE (Eg (aP 4 (aP 8 a0))) (aE (jR (aE (xN) a0)) a0))) (aE (D4 (aP 4 (aE (gu (aP 8 (aE (xI) a0))) a0))) a0))) (aP 5 a0)))))) e0))))) (ak (bQ (HR T.all (aE (GA (cx:="wider") (vs:=["wider"]) (NB:=["wider","some"]) (ix:=[6]) (by rfl) (d8 (xV 7)) (fun _ _ _ _ _=>gN 0) (fun _ _ _ _ _=>.nil) (fun _ _ _ _ _ _=>cA (HR T.all (aE (eZ (vs:=["thing"]) (NB:=["thing","wider"]) (ix:=[0]) (by rfl) (d8 (xV 1)) (fun _ _ _ _=>gN 0) (fun _ _ _ _=>.nil) (fun _ _ _ _ _=>cA (Py hu (aP 0 (aP 1 a0))))) a0)))) a0))))))))) PB.MA
abbrev yW:Stmt:=top 50
def lJ:aH ["script","cells","k","pool","web","looks","kind"] ["script"] (ay yW):=by ac_rfl
def Ld (T:Txt K mg)(h0:qO P w K mg base)(h1:sr P w K mg base)(h2:uP P w K mg base)(h3:qE P w K mg base)(h4:qM P w K mg base)(h5:m5 P w K mg base){f:Addr}{fd:FuncData}(F:uu K "law" "law" yW f fd):gO P w K mg base (fY P w) 8 f fd ["script"] (cy mg K [false] u9) :=
 bx (m:=6) F lJ rfl (by decide) (d:=pQ uR xE BX uV xx CU) (fun cdv A outer s H Ex hr=>have hu:=hr.units;ai (bI 1 lJ.nd (aF h0 aK hr (aP 0 (aE (xI) a0)))) (ai (iL SK lJ.nd (pX T.range (aE (Cu T.max (aE (xI) (aE (fX T.len (aP 1 a0)) a0))) a0)) (gN 2) (ai (bI 3 lJ.nd (aF h1 aK hr (aP 1 (aP 2 a0)))) (ai (bI 4 lJ.nd (aF h2 aK hr (aP 3 (aE (xI) a0)))) (ai (bI 5 lJ.nd (aF h3 aK hr (aP 3 (aE (dB hu (aP 4 (aE (xI) a0))) a0)))) (ak (iL SK lJ.nd (d8 (jR (aE (xS) (aE (xS) (aE (xS) a0))))) (gN 6) (ak (fB (bE.st (kj.pY (nW (vA (uI (aF h4 aK hr (aP 4 (aP 5 (aP 6 a0)))))) (fU (vA (uI (aF h5 aK hr (aP 3 (aP 4 (aP 5 (aP 6 a0))))))))))) (ak (bQ (xB))) (bV))))))))) (ak (bQ (xB))))) PB.Hr
end
def all_mk {l:OpenLaw}{w:World}{K:Frag}{h:Heap}{mg:UE}{fa:Addr}(X:K.In h)(G:h.Ns mainGlobals mg)(hfa:mg "law"=some (.ref fa))
  (qd00:Rec K "_law_cells" lF)
  (qd01:Rec K "_law_pool" nq)
  (qd02:Rec K "_law_take" m9)
  (qd03:Rec K "_law_some" ng)
  (qd04:Rec K "_law_named" lz)
  (qd05:Rec K "_law_web" oH)
  (qd06:Rec K "_law_looks" mw)
  (qd07:Rec K "are_looks" mz)
  (qd08:Rec K "refuse_wrong_looks" fu)
  (qd09:Rec K "refuse_no_place" gh)
  (qd10:Rec K "neighbour_lists" gm)
  (qd11:Rec K "fars_or_none" jd)
  (qd12:Rec K "fars_from" lI)
  (qd13:Rec K "nearer_end" ku)
  (qd14:Rec K "thing_far" lK)
  (qd15:Rec K "codes_of" nA)
  (qd16:Rec K "things_of" l5)
  (qd17:Rec K "unlike_count" iV)
  (qd18:Rec K "strength_of" jI)
  (qd19:Rec K "is_thing" nH)
  (qd20:Rec K "refuse_no_thing" gA)
  (qd21:Rec K "parters_by" kI)
  (qd22:Rec K "far_rows" nk)
  (qd23:Rec K "parters_of" kN)
  (qd24:Rec K "_law_by_parters" gY)
  (qd25:Rec K "is_tree" pB)
  (qd26:Rec K "likes_by" nE)
  (qd27:Rec K "is_known" nF)
  (qd28:Rec K "most_strength" iF)
  (qd29:Rec K "refuse_no_tree" gM)
  (qd30:Rec K "piece_behind" ja)
  (qd31:Rec K "pieces_at" l9)
  (qd32:Rec K "looks_in_pieces" gx)
  (qd33:Rec K "tree_strength" iH)
  (qd34:Rec K "_law_right" lM)
  (qd35:Rec K "wrong_count" jz)
  (qd36:Rec K "fitting_things" gX)
  (qd37:Rec K "_law_more_fit" iW)
  (qd38:Rec K "law" yW)
  (zabs:nsIn K mainGlobals "abs"=some none)
  (zall:nsIn K mainGlobals "all"=some none)
  (zenumerate:nsIn K mainGlobals "enumerate"=some none)
  (zint:nsIn K mainGlobals "int"=some none)
  (zisinstance:nsIn K mainGlobals "isinstance"=some none)
  (zlen:nsIn K mainGlobals "len"=some none)
  (zlist:nsIn K mainGlobals "list"=some none)
  (zmax:nsIn K mainGlobals "max"=some none)
  (zmin:nsIn K mainGlobals "min"=some none)
  (zrange:nsIn K mainGlobals "range"=some none)
  (zsorted:nsIn K mainGlobals "sorted"=some none)
  (ztuple:nsIn K mainGlobals "tuple"=some none)
  (zzip:nsIn K mainGlobals "zip"=some none)
  (xNoLooks:vU K "NoLooks")
  (xNoPlace:vU K "NoPlace")
  (xNoThing:vU K "NoThing")
  (xNoTree:vU K "NoTree")
  (xNotHeard:vU K "NotHeard")
  (kit:zg K ["int"]=true) :
  ∃ fd:FuncData,(∀ (s:Shared)(v:Value),BindsTo s fd ⟨[v],[]⟩ [("script",v)])/\∀ base:Heap,K.In base->base.Ns mainGlobals mg->gO l.prog w K mg base (fY l.prog w) 8 fa fd ["script"] (cy mg K [false] u9):=by
 have T:Txt K mg:=⟨Se X G zabs,Se X G zall,Se X G zenumerate,Se X G zint,Se X G zisinstance,Se X G zlen,Se X G zlist,Se X G zmax,Se X G zmin,Se X G zrange,Se X G zsorted,Se X G ztuple,Se X G zzip,(let ⟨C,h1,h2⟩:=xNoLooks;⟨C,mg_of X G h1,h2⟩),(let ⟨C,h1,h2⟩:=xNoPlace;⟨C,mg_of X G h1,h2⟩),(let ⟨C,h1,h2⟩:=xNoThing;⟨C,mg_of X G h1,h2⟩),(let ⟨C,h1,h2⟩:=xNoTree;⟨C,mg_of X G h1,h2⟩),(let ⟨C,h1,h2⟩:=xNotHeard;⟨C,mg_of X G h1,h2⟩),kit,⟨h,X,G⟩⟩
 obtain ⟨fl,fdl,nl,Fl⟩:=qd38;have e:=hfa.symm.trans (mg_of X G nl);cases e;refine ⟨fdl,?_,fun base _ _=>?_⟩
 ·obtain ⟨_,_,_,_,_,_,_,_,_,rfl,_,_⟩:=Fl.ex;exact fun s v=>.of_eq rfl
 have Hd00:=yI (P:=l.prog) (w:=w) (base:=base) T qd00;have Hd01:=Af (P:=l.prog) (w:=w) (base:=base) T qd01;have Hd02:=z8 (P:=l.prog) (w:=w) (base:=base) T qd02;have Hd03:=z4 T Hd02 qd03;have Hd04:=zw T Hd03 qd04;have Hd05:=CP T Hd02 Hd04 qd05;have Hd06:=zV T Hd02 qd06;have Hd07:=zB (P:=l.prog) (w:=w) (base:=base) T qd07;have Hd08:=oF T Hd07 qd08;have Hd09:=qV (P:=l.prog) (w:=w) (base:=base) T qd09;have Hd10:=qx (P:=l.prog) (w:=w) (base:=base) T qd10;have Hd11:=uf T Hd10 qd11;have Hd12:=xY T Hd09 Hd11 qd12;have Hd13:=wY (P:=l.prog) (w:=w) (base:=base) T qd13;have Hd14:=zk T Hd13 qd14;have Hd15:=Ae T Hd12 Hd14 qd15;have Hd16:=yy (P:=l.prog) (w:=w) (base:=base) T qd16;have Hd17:=t6 (P:=l.prog) (w:=w) (base:=base) T qd17;have Hd18:=vf T Hd08 Hd15 Hd16 Hd17 qd18;have Hd19:=z6 (P:=l.prog) (w:=w) (base:=base) T qd19;have Hd20:=qI T Hd19 qd20;have Hd21:=wZ T Hd14 qd21;have Hd22:=zZ T Hd12 qd22;have Hd23:=xg T Hd20 Hd21 Hd22 qd23;have Hd24:=rJ T Hd16 Hd23 qd24;have Hd25:=Cd (P:=l.prog) (w:=w) (base:=base) T qd25;have Hd26:=Ab T Hd08 Hd16 Hd15 qd26;have Hd27:=Aa T Hd26 qd27;have Hd28:=sO T Hd18 Hd16 qd28;have Hd29:=rE T Hd25 qd29;have Hd30:=um (P:=l.prog) (w:=w) (base:=base) T qd30;have Hd31:=zI T Hd29 Hd09 Hd10 Hd30 qd31;have Hd32:=qG T Hd31 qd32;have Hd33:=sQ T Hd29 Hd08 Hd16 Hd32 qd33;have Hd34:=yq T Hd18 Hd24 Hd25 Hd33 Hd27 Hd28 qd34;have Hd35:=vH (P:=l.prog) (w:=w) (base:=base) T qd35;have Hd36:=rH T Hd08 Hd16 Hd15 Hd35 qd36;have Hd37:=uc T Hd02 Hd36 qd37;exact Ld T Hd00 Hd01 Hd05 Hd06 Hd34 Hd37 Fl
def walk {l:OpenLaw}{q:Program}{loose:Us}{XP:(UE)->Heap->Prop}{YP:World->Heap->Prop}{d:DefRec}{K:Params->Frag}(hn:l.most=some 63)(hdf:d.params.defaults=[])
  (hY:∀ (w:World)(h:Heap),YP w h->(K w.params).In h)
  (F:∀ (w:World)(mg:UE)(fa:Addr)(h:Heap),(K w.params).In h->h.Ns mainGlobals mg->mg d.name=some (.ref fa) ->
   ∃ fd:FuncData,(∀ (s:Shared)(u:Value),BindsTo s fd ⟨[u],[]⟩ [("script",u)])/\∀ base:Heap,(K w.params).In base->base.Ns mainGlobals mg->gO l.prog w (K w.params) mg base (fY l.prog w) 8 fa fd ["script"] (cy mg (K w.params) [false] u9)) :
  WalkO q loose XP YP l.row.toRowW d [] (fun f vs=>PySem.call f vs):=Gd hn hdf ⟨rfl,by decide,by decide⟩ hY F
end Ly
open PySem PySem.W PyProof.Rows Dv
set_option maxRecDepth 100000 in
set_option maxHeartbeats 0 in
theorem PySem.Challenge.cw_farhail_k46_whole_strengths_by_parters_holds : PySem.Challenge.rw_farhail_k46_whole_strengths_by_parters.Holds := by
 w_on;o_law;k_head;(case hw=>w_witness2)
 k_fill
 refine Ly.walk (l:=PySem.Challenge.rw_farhail_k46_whole_strengths_by_parters) rfl rfl (fun w h Y=>PySem.W.kIn_of Y) ?F
 case F =>
  intro w mg fa h KX G hmg
  refine' Ly.all_mk KX G hmg ?_ ?_ ?_ ?_ ?_ ?_ ?_ ?_ ?_ ?_ ?_ ?_ ?_ ?_ ?_ ?_ ?_ ?_ ?_ ?_ ?_ ?_ ?_ ?_ ?_ ?_ ?_ ?_ ?_ ?_ ?_ ?_ ?_ ?_ ?_ ?_ ?_ ?_ ?_ ?_ ?_ ?_ ?_ ?_ ?_ ?_ ?_ ?_ ?_ ?_ ?_ ?_ ?_ ?_ ?_ ?_ ?_ ?_
  iterate 39
   apply MF
   iterate 4 (first | k_is | kernel_rfl)
  iterate 13
   first | k_is | kernel_rfl
  iterate 5
   apply JW
   iterate 2 (first | k_is | kernel_rfl)
  all_goals first | kernel_rfl | k_is
