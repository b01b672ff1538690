import PyProof.Rows.All
import PySem.PyData
import Wide.All
import OpenK.AllK
import Wide.FinOn
import Lean
import PyProof.EqAt
import PyProof.EqKinds
import PyProof.TupleCall
import PyProof.SetKind
import PyProof.TupleKey
import PyProof.IsRules
import PyProof.SetRoads
import PyProof.DictKinds
import PyProof.RaisesMany
import PyProof.RulesTry
import PyProof.ExcClass2
import KE.KTryMore
import PyProof.RulesAs
import PyProof.NsDelKeeps
import KE.KDictList
import PyProof.P3In
import PyProof.Rows.SortShellK
import PyProof.TupleOfSeq
import PyProof.WalkInts
import PyProof.SeqI3
import PyProof.SumAnyB
import PyProof.Rows.SeqWords
import PyProof.ListRange
import PyProof.DictValues
import PyProof.DictWalks
import PyProof.NeKinds
import PyProof.FactsAll.list_2
import PyProof.EvalArms
import PyProof.Rows.SetObj
import KE.KRevIter
import PyProof.Rows.IntMath
import PyProof.Draws
import PyProof.ZipIter
import PyProof.EnumMake
import PySem.Challenge.RW_farhail_k37_trees_of_pairs_judged
set_option linter.all false
local macro_rules | `(tactic| ac_rfl) => `(tactic| exact⟨rfl,rfl,rfl,by decide +kernel,rfl,by decide +kernel,by decide +kernel⟩)
set_option genSizeOf false
set_option genInjectivity false
section
open PySem
abbrev Rm:=List (PyData×PyData)
abbrev Rn:=Array (Option Value)
abbrev Ro:=Value->Shared->Prop
abbrev Rq:=List Comprehension
abbrev Rr:=Str->Option Value
abbrev Rt:=List (Addr×Obj)
abbrev Ru:=Int->Int->Bool
abbrev Rv:=List (Nat×Nat)
abbrev Rw:=List (Int×Int)
abbrev Rx:=PySem.W.Frag
abbrev Ry:=Option Value
abbrev Rz:=Array Value
abbrev SA:=List PyData
abbrev SD:=Option Addr
abbrev SG:=List Value
abbrev SH:=List Addr
abbrev SJ:=List Bool
abbrev SK:=List Expr
abbrev SM:=List Stmt
abbrev SN:=List Nat
abbrev SO:=List Int
abbrev SQ:=List Str
end
section
open PySem PySem.Spec PyProof.Rows PySem.W
def N1:=@wpAny_bind
def N2:=@wpS_bind
def N3:=@wpS_pure
def N4:=@wpAny_pure
def N5:=@Nat.le_refl
def N6:=@List.mem_cons_self
def N7:=@List.all_eq_true
def N8:=@Heap.lt_size
def N9:=@Bool.and_eq_true
def NS:=@List.length_map
def NT:=@List.mem_map
def NU:=@List.length_append
def NV:=@List.mem_singleton
def NW:=@List.all_cons
def NX:=@List.mem_cons_of_mem
def NY:=@List.mem_cons
def NZ:=@Nat.le_trans
def O0:=@List.size_toArray
def O1:=@Heap.get?_push_of_some
def O3:=@List.length_range
def O4:=@List.getElem?_map
def O5:=@List.getElem?_eq_getElem
def O6:=@Nat.ne_of_lt
def O7:=@List.mem_append
def O8:=@wpAny_field
def O9:=@Bool.false_ne_true
def OA:=@List.map_append
def OB:=@List.getElem?_range
def OC:=@Heap.get?_push_size
def OD:=@List.mem_of_getElem?
def OF:=@List.length_cons
def OG:=@List.mem_flatMap
def OH:=@Nat.lt_of_lt_of_le
def OI:=@wpS_mono
def OJ:=@wpS_forRange
def OL:=@List.getElem?_eq_none
def OM:=@List.length_take
def ON:=@Nat.zero_le
def OO:=@List.length_drop
def OP:=@List.map_cons
def OQ:=@PassesOwn.leaving
def OR:=@List.length_set
def OS:=@List.append_assoc
def OT:=@Array.toList_append
def OU:=@List.mem_range
def OV:=@List.append_nil
def OW:=@List.nodup_cons
def OX:=@List.getD_eq_getElem?_getD
def OY:=@Nat.lt_or_ge
def OZ:=@List.lookup_cons
def Oa:=@List.not_mem_nil
def Ob:=@wpS_modify
def Oc:=@List.map_map
def Od:=@wpAny_mono
def Oe:=@wpAny_rule
def Of:=@mg_none_of
def Og:=@List.mem_append_right
def Oh:=@PySem.W.kia_one
def Oi:=@PySem.F.slot_list_append
def Oj:=@PySem.F.type_list_append
def Ol:=@decide_eq_false
def Om:=@Heap.get?_update_other
def Oo:=@decide_eq_true_eq
def Oq:=@of_decide_eq_true
def Ot:=@Heap.size_push
def Ou:=@wpAny_setField_rec
def Ov:=@Bool.eq_iff_iff
def Ow:=@Nat.lt_irrefl
def Ox:=@List.getElem?_eq_some_iff
def Oz:=@wpAny_holding
def P0:=@wpAny_call_entry
def P4:=@List.take_length
def P5:=@List.map_congr_left
def P6:=@Nat.not_lt_zero
def P7:=@Nat.ne_of_gt
def P8:=@True.intro
def P9:=@List.replicate_succ
def PC:=@List.ext_getElem?
def PD:=@List.length_replicate
def PF:=@wpAny_callSpecial?_slot
def PJ:=@wpAny_newObj_type
def PK:=@wpS_lift
def PM:=@List.length_pos_iff
def PN:=@List.nodup_range
def PR:=@or_false
def PU:=@List.cons.injEq
def PV:=@List.length_filter_le
def PX:=@List.filterMap_cons
def PY:=@Array.length_toList
def PZ:=@wpAny_passesOwn
def Pa:=@eq_of_beq
def Pc:=@List.flatten_cons
def Pd:=@call_meets
def Pe:=@List.any_cons
def Pf:=@List.Perm.append_left
def Pg:=@List.perm_append_comm
def Ph:=@List.take_of_length_le
def Pj:=@wpAny_seqItems
def Pk:=@List.map_id
def Pn:=@wpAny_truthy_bool
def Po:=@PyProof.Rows.callWith_type1
def Pp:=@wpAny_loadPart'
def Pq:=@Int.toNat_natCast
def Pu:=@List.find?_cons
def Pw:=@decide_eq_true
def Px:=@Option.map_eq_some_iff
def Py:=@List.getElem?_of_mem
def Pz:=@List.getElem_mem
def Q0:=@Nat.lt_succ_of_lt
def Q2:=@List.nodup_nil
def Q3:=@List.cons_ne_nil
def Q4:=@Nat.le_add_right
def Q5:=@List.mem_of_mem_take
def Q6:=@List.range_succ
def Q7:=@List.eq_nil_of_length_eq_zero
def Q8:=@List.getElem?_set
def Q9:=@List.contains_eq_mem
def QA:=@Int.ofNat_lt
def QB:=@List.getElem?_set_self
def QC:=@List.getElem?_set_ne
def QD:=@PySem.mem_of_lookup
def QE:=@List.getElem?_append_left
def QF:=@Heap.get?_update_self
def QG:=@List.forIn_cons
def QH:=@wpAny_setField
def QI:=@Nat.le_of_eq
def QJ:=@List.Perm.append_right
def QK:=@Array.getElem?_toList
def QL:=@intItems_at
def QM:=@Nat.le_total
def QN:=@Nat.min_eq_left
def QO:=@Nat.min_eq_right
def QS:=@List.mem_of_mem_drop
def QT:=@wpAny_execs_nil
def QU:=@List.of_mem_zip
def QV:=@List.getElem?_append_right
def QW:=@PyProof.Rows.slot_tuple_getitem
def QX:=@wpAny_typeOf
def QY:=@tupleKind_room_in1
def QZ:=@Obj.data_mapFields
def Qa:=@List.take_append_drop
def Qc:=@List.drop_zero
def Qg:=@List.drop_of_length_le
def Qh:=@List.take_succ
def Qi:=@Array.toList_push
def Qj:=@listItems_at
def Qk:=@wpAny_newTuple
def Ql:=@Bool.false_eq_true
def Qm:=@wpAny_pyIter_enum
def Qn:=@PySem.F.plainAttrs_list
def Qo:=@PyData.tuple.injEq
def Qp:=@List.find?_cons_of_pos
def Qq:=@List.find?_cons_of_neg
def Qs:=@PyProof.Rows.boot_int
def Qu:=@AutoSeq1.wpAny_loadPart'
def Qv:=@F.slot_tuple_iterator_next
def Qw:=@List.forIn_nil
def Qx:=@F.slot_enumerate_next
def Qy:=@F.slot_zip_next
def Qz:=@List.map_take
def R7:=@Nat.mul_le_mul
def R8:=@List.length_take_le
def R9:=@Heap.get?_none_of_le
def RA:=@assignInOrder_cons
def RB:=@List.mem_filterMap
def RC:=@Array.find?_toList
def RD:=@PySem.W.kitx_list
def RE:=@wpAny_Call_Name_kw
def RG:=@noFill_tuple_add
def RH:=@PySem.F.slot_tuple_add
def RI:=@PySem.F.entry_tuple_add
def RJ:=@PySem.F.args_tuple_add_2
def RK:=@Nat.min_le_right
def RL:=@Option.isSome_map
def RM:=@wpAny_pyIter_list
def RN:=@Obj.isFreed_of_fields
def RO:=@Array.toList_extract
def RP:=@List.extract_eq_take_drop
def RQ:=@Nat.add_sub_cancel_left
def RS:=@Array.toList_reverse
def RT:=@List.reverse_perm
def RU:=@Array.perm_iff_toList_perm
def RV:=@List.zipIdx_cons
def RW:=@Bool.not_eq_true'
def RX:=@List.getElem?_zipIdx
def RY:=@wpAny_pyIter_tuple
def RZ:=@PyProof.Rows.boot_tuple
def Ra:=@PyProof.Rows.boot_min
def Rb:=@Heap.SameBut.update
def Rc:=@List.filterMap_append
def Rf:=@Nat.lt_trichotomy
def Rg:=@Decidable.not_not
def Rh:=@Option.ne_none_iff_exists'
def Ri:=@PySem.F.slot_list_extend
def Rj:=@PySem.F.type_list_extend
def Rk:=@PyProof.Rows.slot_tuple_getitem.lookup
end
noncomputable section
namespace PySem.W.Fast
noncomputable def tw5265280579804729404:=Nat
noncomputable def tw2757647553741594258:=Nat
noncomputable def tw1510747388539465442:=Nat
noncomputable def tw9674984629029118876:=Nat
noncomputable def tw2872526072612112257:=Nat
noncomputable def tw7097879946497830123:=Nat
noncomputable def tw1125179924871095039:=Nat
noncomputable def tw9217097975621286081:=Nat
noncomputable def tw12301998232914241056:=Nat
noncomputable def tw12502632575669264136:=Nat
noncomputable def tw11105587256400514182:=Nat
noncomputable def tw53983008187189942:=Nat
noncomputable def tw14074675695802522979:=Nat
noncomputable def tw16012303779206446081:=Nat
noncomputable def tw9110424182093399844:=Nat
noncomputable def tw15478505999976600580:=Nat
noncomputable def tw14358751922299019884:=Nat
noncomputable def tw9566071480585876731:=Nat
noncomputable def tw4457824680461731000:=Nat
noncomputable def tw4811896695333179095:=Nat
noncomputable def tw14581061984971497498:=Nat
noncomputable def tw8668509905709043372:=Nat
noncomputable def tw17164152290539478863:=Nat
noncomputable def tw7015654142574823630:=Nat
noncomputable def tw4652249649679568366:=Nat
noncomputable def tw11913415490536371775:=Nat
noncomputable def tw12121953002874950030:=Nat
noncomputable def tw11112826608499109681:=Nat
noncomputable def tw13202107830804897735:=Nat
noncomputable def tw15696893435292760781:=Nat
noncomputable def tw13560118208790777331:=Nat
noncomputable def tw11726606047124211005:=Nat
noncomputable def tw12306899210740499904:=Nat
noncomputable def tw15275044282287791426:=Nat
noncomputable def tw3243767220166247313:=Nat
noncomputable def tw15121993531032875289:=Nat
noncomputable def tw15513988340172320991:=Nat
noncomputable def tw11864996415272925669:=Nat
noncomputable def tw18360546145266944859:=Nat
noncomputable def tw14177873781878784567:=Nat
noncomputable def tw11021095855839515602:=Nat
noncomputable def tw15757295973566043262:=Nat
noncomputable def tw8651722659414929231:=Nat
noncomputable def tw10013818735857173219:=Nat
noncomputable def tw15395835972669409450:=Nat
noncomputable def tw3971313763128056067:=Nat
noncomputable def tw13067813400114872620:=Nat
noncomputable def tw10989645109376524921:=Nat
noncomputable def tw8729975036712515200:=Nat
noncomputable def tw8410209940736524103:=Nat
noncomputable def tw14299131288302344366:=Nat
noncomputable def tw2904852502281421460:=Nat
noncomputable def tw17011038079795227988:=Nat
noncomputable def tw297990186613201957:=Nat
noncomputable def tw5228307203372314764:=Nat
noncomputable def tw1967535348890379960:=Nat
noncomputable def tw8931746571072723177:=Nat
noncomputable def tw325659782120938929:=Nat
noncomputable def tw3093886034092825401:=Nat
noncomputable def tw620476753603187362:=Nat
noncomputable def tw14917986753198896558:=Nat
noncomputable def tw9168778199398969092:=Nat
noncomputable def tw12025955938921621103:=Nat
noncomputable def tw9681536826780683314:=Nat
noncomputable def tw4034366495085441015:=Nat
noncomputable def tw15106287352715670075:=Nat
noncomputable def tw2604005283803224672:=Nat
noncomputable def tw5427492998434825088:=Nat
noncomputable def tw15279295861409639779:=Nat
noncomputable def tw8763834421678247075:=Nat
noncomputable def tw1178934600933252457:=Nat
noncomputable def tw10106184626365280104:=Nat
noncomputable def tw7750689218565922170:=Nat
noncomputable def tw9305417113395153712:=Nat
noncomputable def tw515519493818812124:=Nat
noncomputable def tw12718236545781196072:=Nat
noncomputable def tw12403244865455584183:=Nat
noncomputable def tw14605270270328053035:=Nat
noncomputable def tw17567586432916901837:=Nat
noncomputable def tw5660113300713751329:=Nat
noncomputable def tw13037682578340795495:=Nat
noncomputable def tw16688742702288551043:=Nat
noncomputable def tw10661771084614584073:=Nat
noncomputable def tw4450781106070115453:=Nat
noncomputable def tw3565662447893402369:=Nat
noncomputable def tw1924383270556636452:=Nat
noncomputable def tw7675815820161768789:=Nat
noncomputable def tw12322463567567126599:=Nat
noncomputable def tw18152826257878532177:=Nat
noncomputable def tw5649263929551556215:=Nat
noncomputable def tw10787179923626442953:=Nat
noncomputable def tw6392687933870509156:=Nat
noncomputable def tw16123932878065188722:=Nat
noncomputable def tw8974758997845767723:=Nat
noncomputable def tw8509433751000400419:=Nat
noncomputable def tw6398968594622095879:=Nat
noncomputable def tw8816968182195353271:=Nat
noncomputable def tw11762928316471342160:=Nat
noncomputable def tw17095515925544322194:=Nat
noncomputable def tw7639685711067286863:=Nat
noncomputable def tw13895509657401558496:=Nat
noncomputable def tw4272860521695985808:=Nat
noncomputable def tw14431094633896690759:=Nat
noncomputable def tw13904609966451176627:=Nat
noncomputable def tw15552178371614674738:=Nat
noncomputable def tw3860114992366790698:=Nat
noncomputable def tw10561179640575780903:=Nat
noncomputable def tw2652681978788377544:=Nat
noncomputable def tw10933063512377167409:=Nat
noncomputable def tw12292679811911421067:=Nat
noncomputable def tw13447121488066951517:=Nat
noncomputable def tw7483919293782939728:=Nat
noncomputable def tw104879248281436867:=Nat
noncomputable def tw15492208497735216985:=Nat
noncomputable def tw8731409797712369347:=Nat
noncomputable def tw12897292420138034739:=Nat
noncomputable def tw16462473547242920412:=Nat
noncomputable def tw13556285135491665316:=Nat
noncomputable def tw14379686771669208839:=Nat
noncomputable def tw2650717568175698873:=Nat
noncomputable def tw7174044056625577598:=Nat
noncomputable def tw6913519040389664380:=Nat
noncomputable def tw12453682817909193032:=Nat
noncomputable def tw14239223023378263645:=Nat
noncomputable def tw3364531888917237168:=Nat
noncomputable def tw9399434765856146889:=Nat
noncomputable def tw18291281641297020476:=Nat
noncomputable def tw7881502833369538374:=Nat
noncomputable def tw12049048225135574433:=Nat
noncomputable def tw17989110821783475946:=Nat
noncomputable def tw9720833892354769418:=Nat
noncomputable def tw11245428824904873148:=Nat
noncomputable def tw8291445665520308214:=Nat
noncomputable def tw2227941849170956340:=Nat
noncomputable def tw18249310568578918088:=Nat
noncomputable def tw11878241584968976450:=Nat
noncomputable def tw8500493438480917534:=Nat
noncomputable def tw10544271925037802794:=Nat
noncomputable def tw11099621607213168084:=Nat
noncomputable def tw11111075395432223790:=Nat
noncomputable def tw11140971501751621405:=Nat
noncomputable def tw11648028397539193791:=Nat
noncomputable def tw12108445750293168369:=Nat
noncomputable def tw12163482571406370167:=Nat
noncomputable def tw12735346670201256105:=Nat
noncomputable def tw13077306352108476017:=Nat
noncomputable def tw1323696725726101459:=Nat
noncomputable def tw14136611946616095872:=Nat
noncomputable def tw14643058575824672109:=Nat
noncomputable def tw14818243370227501740:=Nat
noncomputable def tw14962061330306702519:=Nat
noncomputable def tw15198255913107470920:=Nat
noncomputable def tw1552412134226652521:=Nat
noncomputable def tw15825557487597227222:=Nat
noncomputable def tw16011896530848310229:=Nat
noncomputable def tw16418196818839893520:=Nat
noncomputable def tw16599561271088422674:=Nat
noncomputable def tw16611711303818537043:=Nat
noncomputable def tw17125095443145501982:=Nat
noncomputable def tw17290266893451835447:=Nat
end PySem.W.Fast
set_option Elab.async false
set_option linter.all false
set_option maxHeartbeats 4000000
set_option maxRecDepth 100000
namespace Dv
open PySem
inductive Kd where
 |sh|ow (p:Bool)|dp (p:Bool)|dk (p:Bool)|dt (p:Bool)|st (p:Bool)
 deriving DecidableEq
noncomputable def j8 (n:Nat) (i:Int):Option Nat:=if 0<=i then(if i<n then some i.toNat else none)else if-(n:Int)<=i then some (i+n).toNat else none
noncomputable def lH:PyData->Bool
 |.int _ | .str _=>true
 |_=>false
instance NQ:DecidableEq PyData:=λa b=>Classical.propDecidable (a=b)
noncomputable def dh (kvs:Rm)(k:PyData):Option PyData:=(kvs.find? λkv=>decide (kv.1=k)).map (·.2)
noncomputable def putD (kvs:Rm)(k v:PyData):Rm:=if(kvs.any λkv=>decide (kv.1=k))=true then kvs.map (λkv=>if kv.1=k then(kv.1,v)else kv)else kvs++[(k,v)]
noncomputable def hi0:Nat:=0
noncomputable def hi1:Nat:=hi0
noncomputable def hi2:Nat:=hi1
noncomputable def NC:Nat:=hi2
noncomputable def Nu:Nat:=NC
noncomputable def M7:Nat:=Nu
noncomputable def Nf:Nat:=M7
noncomputable def Nz:Nat:=Nf
noncomputable def NG:Nat:=Nz
noncomputable def NP:Nat:=NG
noncomputable def MU:Nat:=NP
noncomputable def MO:Nat:=MU
noncomputable def ju:Nat:=MO
noncomputable abbrev En:=List (Option (Kd×PyData))
noncomputable abbrev XC:=Str->PyData->Prop
noncomputable abbrev xF:XC:=λ_ _=>False
noncomputable abbrev DE:=XC->En->(En->Kd->PyData->Prop)->Prop
noncomputable abbrev DT:=XC->En->(En->Bool->Prop)->Prop
noncomputable abbrev DI:=XC->En->(En->SA->Prop)->Prop
structure iz where
 nx:En->Prop
 rt:En->Kd->PyData->Prop
 xc:XC
noncomputable abbrev DS:=iz->En->Prop
noncomputable abbrev bM:=SA->(SA->Kd->PyData->Prop)->XC->Prop
noncomputable def lf:PyData->Bool
 |.none | .bool _ | .int _ | .str _=>true
 |.tuple ds=>lfs ds
 |.list _ | .dict _=>false
where lfs:SA->Bool
 |[]=>true
 |d::ds=>lf d&&lfs ds
theorem lZ:∀ds:SA,lf.lfs ds=ds.all lf
 |[]=>by rw[lf.lfs];rfl
 |d::ds=>by rw[lf.lfs,lZ ds];rfl
noncomputable def yD:PyData->Bool
 |.list _=>true
 |_=>false
noncomputable def flat:Kd->PyData->Bool
 |.sh,d=>lf d
 |.ow _,.list ds=>ds.all lf
 |.dp _,.list ds=>ds.all λd=>match d with | .list es=>es.all lf|d=>lf d
 |.dk _,.dict kvs=>kvs.all λkv=>lf kv.2
 |.dt _,.dict kvs=>kvs.all λkv=>lf kv.2
 |_,_=>false
noncomputable def Kd.fz:Kd->Bool
 |.sh | .ow false | .dp false | .dk false | .dt false=>true
 |_=>false
noncomputable def Kd.rd:Kd->Bool
 |.st _=>false
 |_=>true
noncomputable def Kd.pin:Kd->Bool
 |.ow p | .dp p | .dk p | .dt p | .st p=>p
 |.sh=>false
noncomputable def cY (E:En) (i:Nat):Option En:=match E[i]? with
 |some (some (k,d))=>if k.fz then some (E.set i (some (.sh,d)))else none
 |_=>none
noncomputable def dN:SN->En->Option En
 |[],E=>some E
 |i::r,E=>(cY E i).bind (dN r)
inductive Arg where
 |pk (i:Nat)|ev (d:DE)
noncomputable def cK:List Arg->SN
 |[]=>[]
 |.pk i::r=>i::cK r
 |.ev _::r=>cK r
noncomputable def here (E:En) (i:Nat):Bool:=match E[i]? with
 |some (some _)=>true
 |_=>false
noncomputable def fill:List Arg->En->List (Option PyData)->Option (SA)
 |[],_,[]=>some []
 |.pk i::r,E,none::os=>match E[i]? with
  |some (some (k,d))=>if k.rd then(fill r E os).map (d::·)else none
  |_=>none
 |.ev _::r,E,some v::os=>(fill r E os).map (v::·)
 |_,_,_=>none
noncomputable def gQ (E:En) (i:Nat):Bool:=match E[i]? with
 |some (some (.sh,_))=>true
 |_=>false
theorem vt{E:En}:∀{is:SN},is.all (gQ E)=true->dN is E=some E
 |[],_=>rfl
 |i::r,h=>by
  rw[NW,N9]at h;have e:cY E i=some E:=by
   have h1:=h.1;unfold gQ at h1;unfold cY;split at h1
   .rename_i d e;rw[e];show some (E.set i (some (.sh,d)))=some E;congr 1;refine PC λj=>?_;rw[Q8];by_cases c:i=j
    .subst c;rw[if_pos rfl,e];have l:i<E.length:=by rcases OY i E.length with z|z;{exact z};rw[OL z]at e;cases e
     rw[if_pos l]
    rw[if_neg c]
   cases h1
  show(cY E i).bind (dN r)=some E;rw[e];exact vt h.2
noncomputable def Me (as:List Arg)(E:En)(k:Kd)(v:PyData):Option En:=if((cK as).all (gQ E)||flat k v)=true then some E else dN (cK as) E
def qL{is:SN}{E E2:En}{b:Bool}(h:(if(is.all (gQ E)||b)=true then some E else dN is E)=some E2):(if b=true then some E else dN is E)=some E2:=by
 cases hs:is.all (gQ E)with
 |true=>rw[hs,Bool.true_or,if_pos rfl]at h;rw[vt hs,h,ite_self]
 |false=>rw[hs,Bool.false_or]at h;exact h
noncomputable abbrev DR:=SA->(Kd->PyData->Prop)->Prop
noncomputable def dC (v:PyData):DE:=λ_ E Q=>(λ_:Nat=>Q E .sh v) ju
noncomputable def pW:SJ->List Arg->SA->En->Option En
 |[],[],[],E=>some E
 |false::ms,_::r,us,E=>pW ms r us E
 |true::ms,.pk i::r,u::us,E=>match E[i]? with
  |some (some (.ow p,.list _))=>if yD u then pW ms r us (E.set i (some (.ow p,u)))else none
  |_=>none
 |_,_,_,_=>none
noncomputable def lent:SJ->List Arg->SN
 |true::ms,.pk i::r=>i::lent ms r
 |_::ms,_::r=>lent ms r
 |_,_=>[]
noncomputable def kept:SJ->List Arg->SN
 |false::ms,.pk i::r=>i::kept ms r
 |_::ms,_::r=>kept ms r
 |_,_=>[]
noncomputable def shape:SJ->List Arg->Bool
 |[],[]=>true
 |true::ms,.pk _::r=>shape ms r
 |false::ms,_::r=>shape ms r
 |_,_=>false
noncomputable def uL (ms:SJ)(as:List Arg)(E:En):Bool:=shape ms as&&decide (lent ms as).Nodup&&(lent ms as).all (λi=>!(kept ms as).contains i&&(match E[i]? with|some (some (.ow _,.list _))=>true|_=>false))
noncomputable def Jq (ms:SJ)(as:List Arg)(us:SA)(E:En)(k:Kd)(v:PyData):Option En:=if((kept ms as).all (gQ E)||(flat k v&&us.all (flat (.ow false))))=true then some E else dN (kept ms as) E
noncomputable def kN:PyData->Option Bool
 |.bool b=>some b
 |.int i=>some (!decide (i=0))
 |.none=>some false
 |.str _=>none
 |.list ds=>some !ds.isEmpty
 |.tuple ds=>some !ds.isEmpty
 |.dict _=>none
noncomputable def IL (d:DE):DT:=λx E Q=>d x E λE' _ v=>∃b,kN v=some b/\Q E' b
noncomputable def Ec (t:DT):DT:=λx E Q=>(λ_:Nat=>t x E λE' b=>Q E' (!b)) ju
noncomputable def Ih (a b:DE):DE:=λx E Q=>a x E λE1 _ v=>∃c,v=.bool c/\if c=true then b x E1 Q else Q E1 .sh (.bool false)
noncomputable def Mk (a b:DE):DE:=λx E Q=>a x E λE1 _ v=>∃c,v=.bool c/\if c=true then Q E1 .sh (.bool true)else b x E1 Q
noncomputable def Ig (a:DE):DE:=λx E Q=>a x E λE1 _ v=>∃c,kN v=some c/\Q E1 .sh (.bool !c)
noncomputable def BU (f f':Ru)(a b c:DE):DE:=λx E Q=>a x E λE1 _ u=>∃i,u=.int i/\b x E1 λE2 _ v=>∃j,v=.int j/\if f i j=true then c x E2 λE3 _ w=>∃k,w=.int k/\Q E3 .sh (.bool (f' j k))else Q E2 .sh (.bool false)
noncomputable def Mg (c:DT)(a b:DE):DE:=λx E Q=>c x E λE1 t=>if t=true then a x E1 Q else b x E1 Q
noncomputable def bx:DS:=λD E=>(λ_:Nat=>D.nx E) ju
noncomputable def ak (a b:DS):DS:=λD E=>(λ_:Nat=>a { D with nx:=b D } E) ju
noncomputable def kh (a b:DS):DS:=λD E=>∃J:En->Prop,a { D with nx:=J } E/\∀E',J E'->b D E'
noncomputable def Jd (c:DT)(a b:DS):DS:=λD E=>c D.xc E λE1 t=>if t=true then a D E1 else b D E1
noncomputable def bg (E:En) (i:Nat):Bool:=match E[i]? with
 |some (some (k,_))=>!k.pin
 |some none=>true
 |none=>false
noncomputable def Hv (i:Nat)(e:DE):DS:=λD E=>e D.xc E λE' k v=>bg E' i=true/\D.nx (E'.set i (some (k,v)))
inductive Tg where
 |nm (i:Nat)|tp (is:SN)|nt (i:Nat)(is:SN)
noncomputable def Tg.slots:Tg->SN
 |.nm i=>[i]
 |.tp is=>is
 |.nt i is=>i::is
noncomputable def bu:SN->SA->En->Option En
 |[],[],E=>some E
 |i::is,d::ds,E=>if bg E i then bu is ds (E.set i (some (.sh,d)))else none
 |_,_,_=>none
noncomputable def cI:Tg->PyData->En->Option En
 |.nm i,d,E=>bu [i] [d] E
 |.tp is,.tuple ds,E=>bu is ds E
 |.nt i is,.tuple [d,.tuple ds],E=>bu (i::is) (d::ds) E
 |_,_,_=>none
noncomputable def bw (e:DE):DS:=λD E=>(λ_:Nat=>e D.xc E D.rt) ju
noncomputable def kX (E:En) (i:Nat):Bool:=match E[i]? with
 |some (some (.ow _,.list _))=>true
 |_=>false
noncomputable abbrev DM:=SA->SA->(SA->PyData->Prop)->Prop
noncomputable def lG:Rm->Bool
 | (.none,_)::_=>false
 |_=>true
noncomputable def wK (f:DM) (i:Nat)(j:DE) (n:Nat):DE:=λx E Q=>here E i=true/\j x E λE1 _ w=>∃a p ds m es k d E2,w=.int a/\E1[i]?=some (some (.dp p,.list ds))/\j8 ds.length a=some m/\ds[m]?=some (.list es)/\E1[n]?=some (some (k,d))/\i≠n/\cY E1 n=some E2/\f es [d] λnew v=>Q (E2.set i (some (.dp p,.list (ds.set m (.list new))))) .sh v
noncomputable def wX (c:Str):DS:=λD _=>(λ_:Nat=>D.xc c .none) ju
noncomputable def cN (e:DE):DS:=λD E=>(λ_:Nat=>e D.xc E λE' _ _=>D.nx E') ju
noncomputable def dS (it:DI)(tg:Tg)(b:DS):DS:=λD E=>(λ_:Nat=>it D.xc E λE1 xs=>∃I:Nat->En->Prop,I 0 E1/\(∀i d E,xs[i]?=some d->I i E->∃E2,cI tg d E=some E2/\b { D with nx:=I (i+1) } E2)/\∀E,I xs.length E->D.nx E) ju
noncomputable def uK (c:DT)(b:DS):DS:=λD E=>∃W:Nat->En->Prop,(∃m,W m E)/\∀m E,W m E->c D.xc E λE1 t=>if t=true then b { D with nx:=λE'=>∃m',m'<m/\W m' E' } E1 else D.nx E1
noncomputable def items:PyData->Option (SA)
 |.list ds=>some ds
 |.tuple ds=>some ds
 |_=>none
noncomputable def oE (e:DE):DI:=λx E Q=>e x E λE' k v=>k.fz=true/\∃ds,items v=some ds/\Q E' ds
noncomputable def d8 (ds:SA):SA:=ds.zipIdx.map λp=>.tuple [.int p.2,p.1]
noncomputable def LX (e:DE):DI:=λx E Q=>e x E λE' k v=>k.fz=true/\∃ds,v=.list ds/\Q E' (d8 ds)
noncomputable def bE:SN->En->Option En
 |[],E=>some E
 |i::r,E=>if bg E i then bE r (E.set i none)else none
noncomputable abbrev DC:=XC->SA->En->(SA->En->Prop)->Prop
noncomputable def lA:DT:=λ_ E Q=>(λ_:Nat=>Q E true) ju
noncomputable def c8 (most:Nat)(e:DE):DC:=λx ys E Q=>e x E λE1 k v=>k.fz=true/\ys.length<most/\Q (ys++[v]) E1
noncomputable def Mi (it:DI)(tg:Tg)(c:DT)(r:DC):DC:=λx ys E Q=>(λ_:Nat=>it x E λE1 xs=>∃I:Nat->SA->En->Prop,I 0 ys E1/\(∀i d ys E,xs[i]?=some d->I i ys E->∃E2,cI tg d E=some E2/\c x E2 λE3 b=>if b=true then r x ys E3 (I (i+1))else I (i+1) ys E3)/\∀ys E,I xs.length ys E->Q ys E) ju
noncomputable def c9 (cs:SN)(it:DI)(tg:Tg)(c:DT)(r:DC):DE:=λx E Q=>(λ_:Nat=>it x E λE1 xs=>∃(E0:En)(I:Nat->SA->En->Prop),bE cs E1=some E0/\I 0 [] E0/\(∀i d ys E,xs[i]?=some d->I i ys E->∃E2,cI tg d E=some E2/\c xF E2 λE3 b=>if b=true then r xF ys E3 (I (i+1))else I (i+1) ys E3)/\∀ys E,I xs.length ys E->∃E2,bE cs E=some E2/\Q E2 (.ow false) (.list ys)) ju
noncomputable def nj (most:Nat)(cs:SN)(it:DI)(tg:Tg)(c:DT)(e:DE):DE:=λx E Q=>(λ_:Nat=>it x E λE1 xs=>∃(E0:En)(I:Nat->SA->En->Prop),bE cs E1=some E0/\I 0 [] E0/\(∀i d ys E,xs[i]?=some d->I i ys E->∃E2,cI tg d E=some E2/\c xF E2 λE3 b=>if b=true then e xF E3 (λE4 k v=>(∃p,k=.ow p)/\ys.length<most/\I (i+1) (ys++[v]) E4)else I (i+1) ys E3)/\∀ys E,I xs.length ys E->∃E2,bE cs E=some E2/\Q E2 (.dp false) (.list ys)) ju
noncomputable def jh (lo:Int) (n:Nat):SA:=(List.range n).map λi:Nat=>PyData.int (lo+i)
noncomputable def au {α:Type}(o:Option α)(Q:α->Prop):Prop:=match o with
 |some a=>Q a
 |none=>False
noncomputable def cW {α:Sort u}(b:Bool)(x y:α):α:=match b with
 |true=>x
 |false=>y
noncomputable def bG:Option (Kd×PyData)->Bool
 |some (k,_)=>!k.pin
 |none=>true
noncomputable def pV (E:En) (i:Nat):Bool:=match E[i]? with
 |some o=>bG o
 |none=>false
noncomputable def bK (b:Bool)(P:Prop):Prop:=match b with
 |true=>P
 |false=>False
noncomputable def gE:List Arg->XC->En->(En->List (Option PyData)->Prop)->Prop
 |[],_,E,Q=>Q E []
 |.pk i::r,x,E,Q=>bK (here E i) (gE r x E λE' os=>Q E' (none::os))
 |.ev d::r,x,E,Q=>d x E λE1 k v=>bK k.fz (gE r x E1 λE' os=>Q E' (some v::os))
noncomputable def qo (E:En) (i:Nat):Option En:=match E[i]? with
 |some (some (k,d))=>cW k.fz (some (E.set i (some (.sh,d)))) none
 |_=>none
noncomputable def gj:SN->En->Option En
 |[],E=>some E
 |i::r,E=>(qo E i).bind (gj r)
noncomputable def cy:List Arg->En->List (Option PyData)->Option (SA)
 |[],_,[]=>some []
 |.pk i::r,E,none::os=>match E[i]? with
  |some (some (k,d))=>cW k.rd ((cy r E os).map (d::·)) none
  |_=>none
 |.ev _::r,E,some v::os=>(cy r E os).map (v::·)
 |_,_,_=>none
noncomputable def qq (as:List Arg)(E:En)(k:Kd)(v:PyData):Option En:=cW ((cK as).all (gQ E)||flat k v) (some E) (gj (cK as) E)
noncomputable def CI (E:En) (i:Nat)(Q:En->Kd->PyData->Prop):Prop:=match E[i]? with
 |some (some (_,d))=>au (qo E i) λE'=>Q E' .sh d
 |_=>False
noncomputable def uQ (r:DR)(as:List Arg)(E:En)(os:List (Option PyData))(Q:En->Kd->PyData->Prop):Prop:=au (cy as E os) λds=>r ds λk v=>au (qq as E k v) λE2=>Q E2 k v
noncomputable def k8 (i:Nat):SN->Bool
 |[]=>false
 |j::r=>i==j||k8 i r
noncomputable def nY:SN->SN->En->Bool
 |[],_,_=>true
 |i::r,ks,E=>(!k8 i ks&&!k8 i r&&kX E i)&&nY r ks E
noncomputable def qW (ms:SJ)(as:List Arg)(E:En):Bool:=shape ms as&&nY (lent ms as) (kept ms as) E
noncomputable def iY:SJ->List Arg->SA->En->Option En
 |[],[],[],E=>some E
 |false::ms,_::r,us,E=>iY ms r us E
 |true::ms,.pk i::r,u::us,E=>match E[i]? with
  |some (some (.ow p,.list _))=>cW (yD u) (iY ms r us (E.set i (some (.ow p,u)))) none
  |_=>none
 |_,_,_,_=>none
noncomputable def oB (ms:SJ)(as:List Arg)(us:SA)(E:En)(k:Kd)(v:PyData):Option En:=cW ((kept ms as).all (gQ E)||(flat k v&&us.all (flat (.ow false)))) (some E) (gj (kept ms as) E)
noncomputable def Bt (ms:SJ)(as:List Arg)(E:En)(us:SA)(k:Kd)(v:PyData)(Q:En->Kd->PyData->Prop):Prop:=au (iY ms as us E) λE2=>au (oB ms as us E2 k v) λE3=>Q E3 k v
noncomputable def CG (sp:bM)(ms:SJ)(as:List Arg)(x:XC)(E:En)(os:List (Option PyData))(Q:En->Kd->PyData->Prop):Prop:=au (cy as E os) λds=>bK (qW ms as E) (sp ds (λus k v=>Bt ms as E us k v Q) x)
noncomputable def qT (v:PyData)(Q:Bool->Prop):Prop:=au (kN v) Q
noncomputable def By (E:En) (i:Nat)(Q:En->Bool->Prop):Prop:=match E[i]? with
 |some (some (k,d))=>bK k.rd (qT d (Q E))
 |_=>False
noncomputable def xX (v:PyData)(Q:Bool->Prop):Prop:=match v with
 |.bool b=>Q b
 |_=>False
noncomputable def pA (v:PyData)(Q:Int->Prop):Prop:=match v with
 |.int i=>Q i
 |_=>False
noncomputable def EB (v:PyData)(Q:SA->Prop):Prop:=au (items v) Q
noncomputable def m6 (v:PyData)(Q:SA->Prop):Prop:=match v with
 |.list xs=>Q xs
 |_=>False
noncomputable def A9 (E:En) (i:Nat)(Q:En->Kd->PyData->Prop):Prop:=match E[i]? with
 |some (some (k,d))=>bK (!k.pin) (Q (E.set i none) k d)
 |_=>False
noncomputable def Bp (f:DM) (i:Nat)(as:List Arg)(E:En)(os:List (Option PyData))(Q:En->Kd->PyData->Prop):Prop:=au (cy as E os) λargs=>match E[i]? with
 |some (some (.ow p,.list ds))=>f ds args λnew v=>Q (E.set i (some (.ow p,.list new))) .sh v
 |_=>False
noncomputable def JC (f:Int->Int->Int)(E:En) (i:Nat)(v:PyData)(Q:En->Prop):Prop:=match E[i]? with
 |some (some (_,.int a))=>pA v λb=>Q (E.set i (some (.sh,.int (f a b))))
 |_=>False
noncomputable def stK:SN->SA->En->Option En
 |[],[],E=>some E
 |i::is,d::ds,E=>cW (pV E i) (stK is ds (E.set i (some (.sh,d)))) none
 |_,_,_=>none
noncomputable def Bx (is:SN)(v:PyData)(E:En)(Q:En->Prop):Prop:=match v with
 |.tuple ds=>au (stK is ds E) Q
 |_=>False
noncomputable def wI (n:Nat) (i:Int):Option Nat:=match i with
 |.ofNat k=>cW (Nat.blt k n) (some k) none
 |.negSucc k=>j8 n (.negSucc k)
noncomputable def aV (i:Nat):DE:=λ_ E Q=>CI E i Q
noncomputable def aa (r:DR)(as:List Arg):DE:=λx E Q=>gE as x E λE1 os=>uQ r as E1 os Q
noncomputable def aA (sp:bM)(ms:SJ)(as:List Arg):DE:=λx E Q=>gE as x E λE1 os=>CG sp ms as x E1 os Q
noncomputable def aR (d:DE):DT:=λx E Q=>d x E λE' _ v=>qT v (Q E')
noncomputable def Ew (i:Nat):DT:=λ_ E Q=>By E i Q
noncomputable def iJ (a b:DE):DE:=λx E Q=>a x E λE1 _ v=>xX v λc=>cW c (b x E1 Q) (Q E1 .sh (.bool false))
noncomputable def m8 (a b:DE):DE:=λx E Q=>a x E λE1 _ v=>xX v λc=>cW c (Q E1 .sh (.bool true)) (b x E1 Q)
noncomputable def pO (a:DE):DE:=λx E Q=>a x E λE1 _ v=>qT v λc=>Q E1 .sh (.bool !c)
noncomputable def nR (f f':Ru)(a b c:DE):DE:=λx E Q=>a x E λE1 _ u=>pA u λi=>b x E1 λE2 _ v=>pA v λj=>cW (f i j) (c x E2 λE3 _ w=>pA w λk=>Q E3 .sh (.bool (f' j k))) (Q E2 .sh (.bool false))
noncomputable def yf (c:DT)(a b:DE):DE:=λx E Q=>c x E λE1 t=>cW t (a x E1 Q) (b x E1 Q)
noncomputable def br (c:DT)(a b:DS):DS:=λD E=>c D.xc E λE1 t=>cW t (a D E1) (b D E1)
noncomputable def aC (i:Nat)(e:DE):DS:=λD E=>e D.xc E λE' k v=>bK (pV E' i) (D.nx (E'.set i (some (k,v))))
noncomputable def g8 (is:SN)(e:DE):DS:=λD E=>e D.xc E λE' k v=>bK k.fz (Bx is v E' D.nx)
noncomputable def gR (i:Nat):DS:=λD E=>A9 E i D.rt
noncomputable def iA (f:DM) (i:Nat)(es:List DE):DE:=λx E Q=>bK (kX E i) (gE (es.map .ev) x E λE1 os=>Bp f i (es.map .ev) E1 os Q)
noncomputable def gz (i:Nat)(j:DE)(e:DE):DS:=λD E=>e D.xc E λE1 k v=>bK k.fz (bK (here E1 i) (j D.xc E1 λE2 k2 w=>bK k2.fz (setI E2 i w v D.nx)))
where setI (E:En) (i:Nat)(w v:PyData)(Q:En->Prop):Prop:=match E[i]?,w with
 |some (some (.ow p,.list ds)),.int a=>au (wI ds.length a) λn=>Q (E.set i (some (.ow p,.list (ds.set n v))))
 |some (some (.dk p,.dict kvs)),w=>(lH w=true/\kvs.length<16777216)/\Q (E.set i (some (.dk p,.dict (putD kvs w v))))
 |some (some (.dt p,.dict (_::kvs))),.tuple ks=>(ks.all lH=true/\kvs.length<16777216)/\Q (E.set i (some (.dt p,.dict ((.none,.none)::putD kvs (.tuple ks) v))))
 |_,_=>False
noncomputable def MM (f:Int->Int->Int) (i:Nat)(e:DE):DS:=λD E=>bK (here E i) (e D.xc E λE1 _ v=>JC f E1 i v D.nx)
noncomputable def iE (e:DE):DI:=λx E Q=>e x E λE' k v=>bK k.fz (EB v λds=>Q E' ds)
noncomputable def iB (g:SA->Option (SA))(as:List Arg):DI:=λx E Q=>gE as x E λE1 os=>au (cy as E1 os) λds=>au (g ds) λxs=>Q E1 xs
noncomputable def yg (e:DE):DI:=λx E Q=>e x E λE' k v=>bK k.fz (m6 v λds=>Q E' (d8 ds))
noncomputable def Nh (a b:DE):DI:=λx E Q=>a x E λE1 k v=>bK k.fz (b x E1 λE2 k2 v2=>bK k2.fz (m6 v λds=>m6 v2 λes=>Q E2 ((ds.zip es).map λp=>.tuple [p.1,p.2])))
def aY{α:Type}{o:Option α}{Q:α->Prop}:(∃a,o=some a/\Q a)=au o Q:=by
 cases o with
 |none=>exact propext ⟨λ⟨a,e,_⟩=>(by cases e),λh=>h.elim⟩
 |some a=>exact propext ⟨λ⟨b,e,q⟩=>by cases e;exact q,λh=>⟨a,rfl,h⟩⟩
def cZ{b:Bool}{P:Prop}:bK b P=(b=true/\P):=by
 cases b with
 |true=>exact propext ⟨λh=>⟨rfl,h⟩,λh=>h.2⟩
 |false=>exact propext ⟨λh=>h.elim,λh=>by cases h.1⟩
universe u
def bT{α:Sort u}{b:Bool}{x y:α}:cW b x y=if b=true then x else y:=by cases b<;>rfl
def yy{E:En}{i:Nat}:qo E i=cY E i:=by unfold qo cY;split;{rw[bT]};rfl
theorem mQ:∀{is:SN}{E:En},gj is E=dN is E
 |[],_=>rfl
 |i::r,E=>by rw[gj,dN,yy];congr 1;funext E1;exact mQ
theorem dR:∀{as:List Arg}{E:En}{os:List (Option PyData)},cy as E os=fill as E os
 |[],_,[]=>rfl
 |[],_,_::_=>rfl
 |.pk i::r,E,none::os=>by rw[cy,fill,dR];split;{rw[bT]};rfl
 |.ev _::r,E,some v::os=>by rw[cy,fill,dR]
 |.pk _::_,_,[]=>rfl
 |.pk _::_,_,some _::_=>rfl
 |.ev _::_,_,[]=>rfl
 |.ev _::_,_,none::_=>rfl
def yI{as:List Arg}{E:En}{k:Kd}{v:PyData}:qq as E k v=Me as E k v:=by unfold qq Me;rw[bT,mQ]
theorem sF{i:Nat}:∀{l:SN},k8 i l=l.contains i
 |[]=>rfl
 |j::r=>by rw[k8,List.contains_cons,sF]
theorem yP{ks:SN}{E:En}:∀{l:SN},nY l ks E=(decide l.Nodup&&l.all λi=>!ks.contains i&&kX E i)
 |[]=>rfl
 |i::r=>by
  rw[nY,yP,sF,sF,NW];have:decide (i::r).Nodup=(!r.contains i&&decide r.Nodup):=by rw[Ov];simp[Q9]
  rw[this];cases ks.contains i<;>cases r.contains i<;>cases kX E i<;>cases decide r.Nodup<;>rfl
def DQ{ms:SJ}{as:List Arg}{E:En}:qW ms as E=uL ms as E:=by unfold qW uL;rw[yP,Bool.and_assoc];rfl
theorem sj:∀{ms:SJ}{as:List Arg}{us:SA}{E:En},iY ms as us E=pW ms as us E
 |[],[],[],E=>rfl
 |[],[],_::_,E=>rfl
 |[],_::_,_,E=>rfl
 |false::ms,_::r,us,E=>by rw[iY,pW,sj]
 |false::ms,[],us,E=>rfl
 |true::ms,[],us,E=>rfl
 |true::ms,.ev _::_,us,E=>rfl
 |true::ms,.pk i::r,[],E=>rfl
 |true::ms,.pk i::r,u::us,E=>by rw[iY,pW];split;{rw[bT,sj]};rfl
def Df{ms:SJ}{as:List Arg}{us:SA}{E:En}{k:Kd}{v:PyData}:oB ms as us E k v=Jq ms as us E k v:=by unfold oB Jq;rw[bT,mQ]
def zV{v:PyData}{Q:Bool->Prop}:(∃b,kN v=some b/\Q b)=qT v Q:=aY
def EN{v:PyData}{Q:Bool->Prop}:(∃b,v=.bool b/\Q b)=xX v Q:=by
 cases v with
 |bool b=>exact propext ⟨λ⟨c,e,q⟩=>by cases e;exact q,λh=>⟨b,rfl,h⟩⟩
 |_=>exact propext ⟨λ⟨c,e,_⟩=>(by cases e),λh=>h.elim⟩
def K3{v:PyData}{Q:Int->Prop}:(∃b,v=.int b/\Q b)=pA v Q:=by
 cases v with
 |int b=>exact propext ⟨λ⟨c,e,q⟩=>by cases e;exact q,λh=>⟨b,rfl,h⟩⟩
 |_=>exact propext ⟨λ⟨c,e,_⟩=>(by cases e),λh=>h.elim⟩
def y9{v:PyData}{Q:SA->Prop}:(∃b,v=.list b/\Q b)=m6 v Q:=by
 cases v with
 |list b=>exact propext ⟨λ⟨c,e,q⟩=>by cases e;exact q,λh=>⟨b,rfl,h⟩⟩
 |_=>exact propext ⟨λ⟨c,e,_⟩=>(by cases e),λh=>h.elim⟩
def ya{E:En}{i:Nat}:pV E i=bg E i:=by unfold bg pV bG;generalize E[i]?=z;rcases z with _|_|⟨k,d⟩<;>rfl
theorem vA:∀{is:SN}{ds:SA}{E:En},stK is ds E=bu is ds E
 |[],[],E=>rfl
 |[],_::_,E=>rfl
 |_::_,[],E=>rfl
 |i::is,d::ds,E=>by rw[stK,bu,bT,vA,ya]
def uZ{n:Nat}{i:Int}:wI n i=j8 n i:=by
 cases i with
 |ofNat k=>unfold wI j8;show cW (Nat.blt k n) (some k) none=_;rw[if_pos (show(0:Int)<=Int.ofNat k from Int.natCast_nonneg k),bT];have:(Nat.blt k n=true)=((Int.ofNat k)<(n:Int)):=propext ⟨λh=>QA.mpr (Nat.blt_eq.mp h),λh=>Nat.blt_eq.mpr (QA.mp h)⟩;simp only[this];rfl
 |negSucc k=>rfl
def GY{d:DE}:aR d=IL d:=by funext x E Q;unfold aR IL;simp only[zV]
def xZ{a b:DE}:iJ a b=Ih a b:=by funext x E Q;unfold iJ Ih;simp only[EN,bT]
def Ht{a b:DE}:m8 a b=Mk a b:=by funext x E Q;unfold m8 Mk;simp only[EN,bT]
def GQ{a:DE}:pO a=Ig a:=by funext x E Q;unfold pO Ig;simp only[zV]
def CO{f f':Ru}{a b c:DE}:nR f f' a b c=BU f f' a b c:=by funext x E Q;unfold nR BU;simp only[K3,bT]
def Hr{c:DT}{a b:DE}:yf c a b=Mg c a b:=by funext x E Q;unfold yf Mg;simp only[bT]
def Ge{c:DT}{a b:DS}:br c a b=Jd c a b:=by funext D E;unfold br Jd;simp only[bT]
def sf{i:Nat}{e:DE}:aC i e=Hv i e:=by funext D E;unfold aC Hv;simp only[cZ,ya]
def K5{e:DE}:iE e=oE e:=by funext x E Q;unfold iE oE;simp only[cZ,aY];rfl
def HA{e:DE}:yg e=LX e:=by funext x E Q;unfold yg LX;simp only[cZ,y9]
end Dv
namespace L2
open PySem PySem.Spec PyProof.Rows
noncomputable abbrev Key:=Sum Int Str
noncomputable def oK:Key->Value->Bool
 |.inl k,v=>Value.isInt k v
 |.inr x,v=>Value.isStrOf x v
noncomputable def MZ (w:World):Key->Int
 |.inl k=>hashInt k
 |.inr x=>hashStr w x
def cO:∀{k:Key}{v:Value},oK k v=true->(∃i t,k=Sum.inl i/\v=Value.int i t)\/(∃x t,k=Sum.inr x/\v=Value.str x t)
 |.inl i,v,h=>by obtain⟨t,e⟩:=Value.isInt_shape (k:=i) (v:=v) h;exact .inl ⟨i,t,rfl,e⟩
 |.inr x,v,h=>by obtain⟨t,e⟩:=Value.isStrOf_shape (x:=x) (v:=v) h;exact .inr ⟨x,t,rfl,e⟩
def Cn(i:Int)(t:Tok):oK (.inl i) (.int i t)=true:=by simp[oK,Value.isInt]
def Cg(x:Str)(t:Tok):oK (.inr x) (.str x t)=true:=by simp[oK,Value.isStrOf]
def HR(a b:Int):decide ((Sum.inl a:Key)=Sum.inl b)=(a==b):=by by_cases e:a=b;{subst e;simp};have h:¬(Sum.inl a:Key)=Sum.inl b:=λq=>e (Sum.inl.inj q);rw[Ol h];exact(beq_eq_false_iff_ne.mpr e).symm
def HL(a b:Str):decide ((Sum.inr a:Key)=Sum.inr b)=decide (a=b):=by by_cases e:a=b;{subst e;simp};have h:¬(Sum.inr a:Key)=Sum.inr b:=λq=>e (Sum.inr.inj q);rw[Ol h,Ol e]
def Jc(a:Int) (b:Str):decide ((Sum.inl a:Key)=Sum.inr b)=false:=Ol (λq=>nomatch q)
def HW(a:Str) (b:Int):decide ((Sum.inr a:Key)=Sum.inl b)=false:=Ol (λq=>nomatch q)
noncomputable def cS (prog:Program)(w:World):PySem.KeyKind prog w Key where
 is:=oK
 hash:=MZ w
 inj:=λv a b ha hb=>by
  rcases cO ha with⟨i,t,rfl,rfl⟩|⟨x,t,rfl,rfl⟩
  .rcases cO hb with⟨j,u,rfl,e⟩|⟨y,u,rfl,e⟩
   .injection e with e1 _;rw[e1]
   .exact nomatch e
  .rcases cO hb with⟨j,u,rfl,e⟩|⟨y,u,rfl,e⟩
   .exact nomatch e
   .injection e with e1 _;rw[e1]
 byValue:=λk v h=>by
  rcases cO h with⟨i,t,rfl,rfl⟩|⟨x,t,rfl,rfl⟩<;>rfl
 pyHash:=λhv h=>by
  rcases cO hv with⟨i,t,rfl,rfl⟩|⟨x,t,rfl,rfl⟩
  .exact wpAny_pyHash_int h
  .exact wpAny_pyHash_str h
 eqBool:=λhu hv h=>by
  rcases cO hu with⟨i,t,rfl,rfl⟩|⟨x,t,rfl,rfl⟩
  .rcases cO hv with⟨j,u,rfl,rfl⟩|⟨y,u,rfl,rfl⟩
   .rw[HR]at h;exact wpAny_eqBool_int h
   .rw[Jc]at h;exact SeqAt.EqAt.int_str i t y u _ _ _ _ h
  .rcases cO hv with⟨j,u,rfl,rfl⟩|⟨y,u,rfl,rfl⟩
   .rw[HW]at h;exact SeqAt.EqAt.str_int x t j u _ _ _ _ h
   .rw[HL]at h;exact wpAny_eqBool_str h
 «strs»:=λk x t v h=>by
  rcases cO h with⟨i,u,rfl,e⟩|⟨y,u,rfl,e⟩
  .exact nomatch e
  .injection e with e1 _
   subst e1;cases v<;>rfl
def xg(prog:Program)(w:World) (i:Int)(t:Tok):(cS prog w).is (.inl i) (.int i t)=true:=Cn i t
def w4(prog:Program)(w:World) (x:Str)(t:Tok):(cS prog w).is (.inr x) (.str x t)=true:=Cg x t
set_option genInjectivity true in
inductive V where
 |bq|bl (b:Bool)|int (i:Int)|str (x:Str)|lE (b:Array UInt8)|yF (b:UInt64)|ref (a:Addr)|ty (n:String)
 deriving DecidableEq
noncomputable def RelV:V->Value->Prop
 |.bq,u=>u=Value.none
 |.bl b,u=>u=Value.bool b
 |.int i,u=>∃t,u=Value.int i t
 |.str x,u=>∃t,u=Value.str x t
 |.lE b,u=>∃t,u=Value.bytes b t
 |.yF b,u=>∃t,u=Value.float b t
 |.ref a,u=>u=Value.ref a
 |.ty n,u=>u=Value.type n
noncomputable abbrev Vals:List V->SG->Prop:=Paired RelV
theorem Vals.length{xs:List V}{us:SG}(r:Vals xs us):xs.length=us.length:=Paired.length r
theorem Vals.get:∀{xs:List V}{us:SG}{i:Nat}{x:V},Vals xs us->xs[i]?=some x->∃u,us[i]?=some u/\RelV x u
 |_,_,_,_,.nil,e=>by simp at e
 |_,_,0,_,.cons r _,e=>by simp at e;subst e;exact⟨_,rfl,r⟩
 |_,_,i+1,x,.cons _ t,e=>by obtain⟨u,h1,h2⟩:=Vals.get (i:=i) (x:=x) t (by simpa using e);exact⟨u,by simpa using h1,h2⟩
theorem Vals.set{x:V}{u:Value}(r:RelV x u):∀{xs:List V}{us:SG} (i:Nat),Vals xs us->Vals (xs.set i x) (us.set i u)
 |_,_,_,.nil=>.nil
 |_,_,0,.cons _ t=>.cons r t
 |_,_,i+1,.cons q t=>.cons q (Vals.set r i t)
theorem Vals.append:∀{xs ys:List V}{us ws:SG},Vals xs us->Vals ys ws->Vals (xs++ys) (us++ws)
 |_,_,_,_,.nil,s=>s
 |_,_,_,_,.cons r t,s=>.cons r (Vals.append t s)
theorem Vals.take:∀{xs:List V}{us:SG} (n:Nat),Vals xs us->Vals (xs.take n) (us.take n)
 |_,_,0,_=>.nil
 |_,_,_+1,.nil=>.nil
 |_,_,n+1,.cons r t=>.cons r (Vals.take n t)
theorem Vals.drop:∀{xs:List V}{us:SG} (n:Nat),Vals xs us->Vals (xs.drop n) (us.drop n)
 |_,_,0,r=>r
 |_,_,_+1,.nil=>.nil
 |_,_,n+1,.cons _ t=>Vals.drop n t
noncomputable def kE:Option V->Ry->Prop
 |some v,some u=>RelV v u
 |none,none=>True
 |_,_=>False
noncomputable def KV {κ:Type}:List (κ×V)->List (κ×Value)->Prop:=Paired λ(p:κ×V)(q:κ×Value)=>p.1=q.1/\RelV p.2 q.2
noncomputable def kV:Key->V
 |.inl i=>.int i
 |.inr x=>.str x
inductive HO where
 |lst (xs:List V)
 |tup (xs:List V)
 |dK (kvs:List (Key×V))|dT (kvs:List (List Key×V))
 |set (S:Int->Bool) (n:Nat)
 |ins (C dx:Addr)(fs:List (Str×V))
 |own (x:Addr)
 |xd (fs:List (Str×V))
 |met (f x:Addr)
 |pK (lo hi:Int)
 |dZ (o:Obj)(u:HO)
 |tP (ps:Rz)
 |ext (φ:Heap->Prop)
noncomputable abbrev Hp:=Addr->Option HO
noncomputable def upd (H:Hp)(a:Addr)(o:HO):Hp:=λb=>if b=a then some o else H b
def aG{H:Hp}{a:Addr}{o:HO}:upd H a o a=some o:=by unfold upd;rw[if_pos rfl]
def ao{H:Hp}{a b:Addr}{o:HO}(h:b≠a):upd H a o b=H b:=by unfold upd;rw[if_neg h]
def KS{H:Hp}{a b:Addr}{o u:HO}(h:H a=some o)(h':H b=some u)(d:o≠u):a≠b:=by intro e;subst e;rw[h]at h';exact d (Option.some.inj h')
def fJ{H:Hp}{a b:Addr}{o:HO}(h:H a=some o)(h':H b=none):a≠b:=by intro e;subst e;rw[h]at h';cases h'
section
variable(P:Program)(w:World)
noncomputable def bP (H:Hp)(h:Heap)(a:Addr):HO->Prop
 |.lst xs=>xs.length<=sizeLine/\∃(its:SG) (n:Nat),Vals xs its/\h.get? a=some { cls:=.type "list",data:=.seq its.toArray n }
 |.tup xs=>xs.length<=sizeLine/\∃its:SG,Vals xs its/\IsTup h a its.toArray
 |.dK kvs=>kvs.length<=sizeLine/\(a==sysModules)=false/\∃vs,KV kvs vs/\h.DictOf (cS P w) a vs
 |.dT kvs=>kvs.length<=sizeLine/\(a==sysModules)=false/\∃xs:List (List Key×Addr×Value),
   Paired (λ(p:List Key×V)(q:List Key×Addr×Value)=>p.1=q.1/\H q.2.1=some (.tup (p.1.map kV))/\RelV p.2 q.2.2) kvs xs /\
   ∃o es ep,h.get? a=some o/\o.ExactDict/\o.data=.dict es ep/\es.toList=xs.map (entryOfKey (tupleKind (cS P w)))/\(xs.map (·.1)).Nodup
 |.set S n=>h.SetOf (intKind P w) a S n
 |.ins C dx fs=>H dx=some (.own a)/\fs.length<=1000/\dx≠a/\h.get? a=some (PySem.W.instObj C dx) /\
   ∃mA,h.Ns1 dx mA/\(∀f,kE (fs.lookup f) (mA f))/\PySem.Within mA (fs.map (·.1))
 |.own _=>∃o,h.get? a=some o
 |.xd fs=>∃mA,h.Ns1 a mA/\∀f,kE (fs.lookup f) (mA f)
 |.pK lo hi=>∃t u v,h.get? a=some { cls:=.type "range",data:=.fields #[.int lo t,.int hi u,.int 1 v] }
 |.dZ o u=>h.get? a=some o/\bP H h a u
 |.tP ps=>h.get? a=some { cls:=.none,data:=.fields ps }
 |.met f x=>h.get? a=some (PySem.W.methodObj (.ref f) (.ref x))
 |.ext φ=>φ h/\(∃o,h.get? a=some o)/\∀h1 h2:Heap,φ h1->(∀o,h1.get? a=some o->h2.get? a=some o)->φ h2
noncomputable def cX (H:Hp)(h:Heap):Prop:=∀a o,H a=some o->bP P w H h a o
end
section
variable{P:Program}{w:World}{H H':Hp}{h h':Heap}{a:Addr}{o:HO}
theorem bP.lt(x:bP P w H h a o):a<h.objs.size:=by
 cases o with
 |lst xs=>obtain⟨_,_,_,_,e⟩:=x;exact N8 e
 |tup xs=>obtain⟨_,_,_,p⟩:=x;exact p.lt
 |dK kvs=>obtain⟨_,_,_,_,o,_,_,e,_⟩:=x;exact N8 e
 |dT kvs=>obtain⟨_,_,_,_,o,_,_,e,_⟩:=x;exact N8 e
 |set S n=>obtain⟨o,_,_,_,e,_⟩:=x;exact N8 e
 |ins C dx fs=>obtain⟨_,_,_,e,_⟩:=x;exact N8 e
 |own y=>obtain⟨_,e⟩:=x;exact N8 e
 |xd fs=>obtain⟨_,⟨_,_,_,e,_⟩,_⟩:=x;exact N8 e
 |pK lo hi=>obtain⟨_,_,_,e⟩:=x;exact N8 e
 |dZ ob u=>obtain⟨e,_⟩:=x;exact N8 e
 |tP ps=>exact N8 (show h.get? a=some _ from x)
 |met f y=>exact N8 (show h.get? a=some _ from x)
 |ext φ=>obtain⟨_,⟨_,e⟩,_⟩:=x;exact N8 e
theorem Paired.DO{α β:Type}{F G:α->β->Prop}:∀{l₁:List α}{l₂:List β},Paired F l₁ l₂->(∀a b,F a b->G a b)->Paired G l₁ l₂
 |_,_,.nil,_=>.nil
 |_,_,.cons r t,f=>.cons (f _ _ r) (Paired.DO t f)
def bP.stay(x:bP P w H h a o)(k:∀b u,(b=a\/H b=some (.own a))->h.get? b=some u->h'.get? b=some u)(ho:∀b,H b=some (.own a)->H' b=some (.own a))(ht:∀b xs,H b=some (.tup xs)->H' b=some (.tup xs)):bP P w H' h' a o:=by
 induction o with
 |lst xs=>obtain⟨z,its,n,r,e⟩:=x;exact⟨z,its,n,r,k _ _ (.inl rfl) e⟩
 |tup xs=>obtain⟨z,its,r,ob,e,c⟩:=x;exact⟨z,its,r,ob,k _ _ (.inl rfl) e,c⟩
 |dK kvs=>obtain⟨z,y,vs,r,ob,es,ep,e,c⟩:=x;exact⟨z,y,vs,r,ob,es,ep,k _ _ (.inl rfl) e,c⟩
 |dT kvs=>obtain⟨z,y,xs,r,ob,es,ep,e,c⟩:=x;exact⟨z,y,xs,Paired.DO r λp q z=>⟨z.1,ht _ _ z.2.1,z.2.2⟩,ob,es,ep,k _ _ (.inl rfl) e,c⟩
 |set S n=>obtain⟨ob,es,ep,t,e,c⟩:=x;exact⟨ob,es,ep,t,k _ _ (.inl rfl) e,c⟩
 |ins C dx fs=>obtain⟨d,z,ne,e,mA,⟨od,es,ep,e2,c⟩,r⟩:=x;exact⟨ho _ d,z,ne,k _ _ (.inl rfl) e,mA,⟨od,es,ep,k _ _ (.inr d) e2,c⟩,r⟩
 |own y=>obtain⟨ob,e⟩:=x;exact⟨ob,k _ _ (.inl rfl) e⟩
 |xd fs=>obtain⟨mA,⟨od,es,ep,e,c⟩,r⟩:=x;exact⟨mA,⟨od,es,ep,k _ _ (.inl rfl) e,c⟩,r⟩
 |pK lo hi=>obtain⟨t,u,v,e⟩:=x;exact⟨t,u,v,k _ _ (.inl rfl) e⟩
 |dZ ob u ih=>obtain⟨e,q⟩:=x;exact⟨k _ _ (.inl rfl) e,ih q⟩
 |tP ps=>have e:h.get? a=some { cls:=.none,data:=.fields ps }:=x;show h'.get? a=some { cls:=.none,data:=.fields ps };exact k a _ (.inl rfl) e
 |met f y=>have e:h.get? a=some (PySem.W.methodObj (.ref f) (.ref y)):=x;show h'.get? a=some (PySem.W.methodObj (.ref f) (.ref y));exact k a _ (.inl rfl) e
 |ext φ=>obtain⟨p,⟨o,e⟩,st⟩:=x;exact⟨st _ _ p λo q=>k _ _ (.inl rfl) q,⟨o,k _ _ (.inl rfl) e⟩,st⟩
theorem cX.lt(x:cX P w H h)(e:H a=some o):a<h.objs.size:=(x a o e).lt
def cX.fresh(x:cX P w H h)(e:h.objs.size<=a):H a=none:=by
 cases q:H a with
 |none=>rfl
 |some u=>exact absurd (OH (x.lt q) e) (Ow _)
def cX.kept(x:cX P w H h)(k:∀b u,h.get? b=some u->h'.get? b=some u):cX P w H h':=λa o e=>
 (x a o e).stay (λb u _ q=>k b u q) (λ_ q=>q) λ_ _ q=>q
def cX.laid(x:cX P w H h)(k:∀b u,h.get? b=some u->h'.get? b=some u)(hp:h.objs.size<=a)(new:bP P w (upd H a o) h' a o):cX P w (upd H a o) h':=λb u e=>by have hn:=x.fresh hp;by_cases hb:b=a;{subst hb;rw[aG]at e;cases e;exact new};rw[ao hb]at e;exact(x b u e).stay (λc v _ q=>k c v q) (λc q=>by rw[ao (fJ q hn)];exact q) λc xs q=>by rw[ao (fJ q hn)];exact q
end
noncomputable def Rd (H:Hp)(a:Addr)(u:HO):Prop:=H a=some u\/∃o,H a=some (.dZ o u)
def Rd.ok{P:Program}{w:World}{H:Hp}{h:Heap}{a:Addr}{u:HO}(r:Rd H a u)(x:cX P w H h):bP P w H h a u:=by rcases r with r|⟨o,r⟩;{exact x a u r};obtain⟨_,q⟩:=x a _ r;exact q
noncomputable def Ce:Option HO->Prop
 |some (.lst _)=>True
 |some (.dK _)=>True
 |some (.dT _)=>True
 |some (.set _ _)=>True
 |some (.ins _ _ _)=>True
 |some (.ext _)=>True
 |_=>False
section
variable{P:Program}{w:World}{H:Hp}{h h':Heap}{x e:Addr}{o':HO}
def cX.write(ok:cX P w H h)(mu:Ce (H x))(he:e=x\/H e=some (.own x))(k:∀b u,b≠e->h.get? b=some u->h'.get? b=some u)(heo:∃u,h'.get? e=some u)(new:bP P w (upd H x o') h' x o'):cX P w (upd H x o') h':=λb u q=>by
 have nown:∀c y,H c=some (.own y)->c≠x:=λc y r z=>by subst z;rw[r]at mu;exact mu
 have ntup:∀c xs,H c=some (.tup xs)->c≠x:=λc xs r z=>by subst z;rw[r]at mu;exact mu
 by_cases hb:b=x;{subst hb;rw[aG]at q;cases q;exact new};rw[ao hb]at q;by_cases hbe:b=e
 .have q':H b=some (.own x):=by rcases he with z|z;{exact absurd (hbe.trans z) hb};rw[hbe];exact z
  rw[q]at q';cases q';obtain⟨v,hv⟩:=heo;exact⟨v,by rw[hbe];exact hv⟩
 refine(ok b u q).stay (λc v hc r=>k c v ?_ r) (λc r=>by rw[ao (nown c b r)];exact r) λc xs r=>by rw[ao (ntup c xs r)];exact r
 rcases hc with rfl|hc;{exact hbe};rintro rfl;rcases he with z|z;{exact nown c b hc z};rw[hc]at z;cases z;exact hb rfl
end
structure Un(fs ex:SH)(H H':Hp)(h h':Heap):Prop where
 keep:∀b o,h.get? b=some o->H b=none->b∉fs->b∉ex->h'.get? b=some o
 slot:∀b o,h.get? b=some o->H b=none->b∈fs->b∉ex->∃sl,h'.get? b=some { o with slots:=sl }
 free:∀b o,h.get? b=some o->H b=none->b∉ex->H' b=none
 there:∀b o,h.get? b=some o->b∉ex->∃o',h'.get? b=some o'
 tups:∀b xs,H b=some (.tup xs)->H' b=some (.tup xs)
 ki:∀b o u,H b=some (.dZ o u)->H' b=some (.dZ o u)
 kZ:∀b ps,H b=some (.tP ps)->∃more,H' b=some (.tP (ps++more))
section
variable{fs fs' ex ex':SH}{H H1 H2:Hp}{h h1 h2 h':Heap}{a x e:Addr}{o:HO}
def Un.any(u:Un fs ex H H1 h h1){b:Addr}{ob:Obj}(q:h.get? b=some ob)(n:H b=none)(hx:b∉ex):∃sl,h1.get? b=some { ob with slots:=sl }:=by by_cases hb:b∈fs;{exact u.slot b ob q n hb hx};exact⟨ob.slots,u.keep b ob q n hb hx⟩
def Un.kept(k:∀b u,h.get? b=some u->h'.get? b=some u):Un fs ex H H h h':=
 ⟨λb ob q _ _ _=>k b ob q,λb ob q _ _ _=>⟨ob.slots,k b ob q⟩,λ_ _ _ n _=>n,λb ob q _=>⟨ob,k b ob q⟩,λ_ _ q=>q,λ_ _ _ q=>q,λ_ ps q=>⟨#[],by rw[q];simp⟩⟩
def Un.refl:Un fs ex H H h h:=Un.kept λ_ _ q=>q
def Un.laid(k:∀b u,h.get? b=some u->h'.get? b=some u)(hp:h.objs.size<=a)(hn:H a=none):Un fs ex H (upd H a o) h h' where
 keep:=λb u q _ _ _=>k b u q
 slot:=λb u q _ _ _=>⟨u.slots,k b u q⟩
 free:=λb u q n _=>by rw[ao (O6 (OH (N8 q) hp))];exact n
 there:=λb u q _=>⟨u,k b u q⟩
 tups:=λb xs q=>by rw[ao (fJ q hn)];exact q
 ki:=λb u xs q=>by rw[ao (fJ q hn)];exact q
 kZ:=λb ps q=>⟨#[],by rw[ao (fJ q hn),q];simp⟩
def Un.write(mu:Ce (H x))(he:e=x\/H e=some (.own x))(k:∀b u,b≠e->h.get? b=some u->h'.get? b=some u)(heo:∃u,h'.get? e=some u):Un fs ex H (upd H x o) h h':=by
 have hx:∀b,H b=none->b≠x:=λb n z=>by subst z;rw[n]at mu;exact mu
 have hb:∀b,H b=none->b≠e:=λb n z=>by subst z;rcases he with r|r;{exact hx b n r};rw[n]at r;cases r
 have hm:∀b u,H b=some u->¬Ce (some u)->b≠x:=λb u q nm z=>by subst z;rw[q]at mu;exact nm mu
 refine⟨λb u q n _ _=>k b u (hb b n) q,λb u q n _ _=>⟨u.slots,k b u (hb b n) q⟩,λb u q n _=>by rw[ao (hx b n)];exact n,λb u q _=>?_,
  λb xs q=>by rw[ao (hm b _ q λz=>z)];exact q,λb u xs q=>by rw[ao (hm b _ q λz=>z)];exact q,λb ps q=>⟨#[],by rw[ao (hm b _ q λz=>z),q];simp⟩⟩
 by_cases hbe:b=e;{subst hbe;exact heo};exact⟨u,k b u hbe q⟩
end
noncomputable def Ep (h:Heap)(H:Hp):SH:=(List.range h.objs.size).filter λa=>(H a).isSome
noncomputable def l8 (h:Heap)(H:Hp):Heap:=PySem.W.hideAll h (Ep h H)
def AE(h:Heap)(H:Hp):(l8 h H).objs.size=h.objs.size:=PySem.W.hideAll_size _ _
def DA{h:Heap}{H:Hp}{b:Addr}{o:Obj}(e:h.get? b=some o)(n:H b=none):(l8 h H).get? b=some o:=
 PySem.W.hideAll_get _ e λhm=>by have q:(H b).isSome=true:=(List.mem_filter.mp hm).2;rw[n]at q;simp at q
def GZ{h:Heap}{H:Hp}{b:Addr}{o:Obj}(e:(l8 h H).get? b=some o):h.get? b=some o/\H b=none:=by
 have e':h.get? b=some o:=PySem.W.of_hideAll (Ep h H) e;refine⟨e',?_⟩;cases q:H b with
 |none=>rfl
 |some x=>have hm:b∈Ep h H:=List.mem_filter.mpr ⟨OU.mpr (N8 e'),by simp[q]⟩;have z:(l8 h H).get? b=none:=PySem.W.hideAll_none (Ep h H) hm;rw[z]at e;cases e
structure Mod(K:Rx)(mg:Rr)(base:Heap):Prop where
 ni:K.In base
 glob:base.Ns mainGlobals mg
 blt:∃mb,base.Ns builtinsNs mb/\∀x:Str,x≠"__name__"->mb x=bootBuiltins x
 nolimit:base.NoLimit
structure Cx where
 prog:Program
 w:World
 K:Rx
 mg:Rr
 base:Heap
 A:Around
 N:SQ
 s₀:Shared
 H₀:Hp
 env:Env
 outer:List Env
 stack:List Env
 ex:SH
 fn:Str->Bool
 calm:Bool
 pn:Rt
 xe:Ro
noncomputable def frs (l:List Env):SH:=l.filterMap (·.frame)
noncomputable abbrev Cx.fs (X:Cx):SH:=frs X.outer
noncomputable def mX (sc:Scope) (x:Str):Prop:=sc.names.lookup x=some .local\/sc.names.lookup x=some .cell\/sc.names.lookup x=some .free
noncomputable def Loc (sc:Scope) (x:Str):Prop:=sc.names.lookup x=some .local\/sc.names.lookup x=some .cell
noncomputable def Look (env:Env)(h:Heap)(m:Rr) (x:Str)(u:Value):Prop:=
 (env.kindOf x=some .local/\m x=some u)\/((env.kindOf x=some .cell\/env.kindOf x=some .free)/\∃c,env.cells.lookup x=some c/\h.IsCell c (some u))
structure Cx.Ok(X:Cx):Prop where
 mod:Mod X.K X.mg X.base
 kind:X.env.scope.kind=.function
 glob:X.env.globals=mainGlobals
 blt:X.env.builtins=builtinsNs
 above:X.s₀.heap.objs.size<=X.env.locals
 inj:∀x y c,X.env.cells.lookup x=some c->X.env.cells.lookup y=some c->x=y
 has:∀x,(X.env.kindOf x=some .cell\/X.env.kindOf x=some .free)->∃c,X.env.cells.lookup x=some c
 El:∀x c,X.fn x=true->X.env.cells.lookup x=some c->X.s₀.heap.objs.size<=c
 hd:X.calm=true->X.A.handled=none
 frames:X.A.frames=some X.stack
 stk:X.stack=X.outer\/(X.stack=X.env::X.outer/\X.env.frame=some X.env.locals)
 Ni:∀b∈X.ex,b≠X.env.locals/\∀x c,X.env.cells.lookup x=some c->c≠b
 bs:∀b o,X.base.get? b=some o->X.s₀.heap.get? b=some o/\X.H₀ b=none
 yL:X.base.objs.size<=X.s₀.heap.objs.size
 Ar:∀b o,X.base.get? b=some o->b∉X.ex
 DX:∀b∈X.ex,b∉X.fs
 ly:X.s₀.heap.FunFrames X.base X.outer
 Cs:∀b∈X.fs,X.H₀ b=none
structure Inv(X:Cx)(pins:Rt)(U:List (Option V))(H:Hp)(s:Shared):Prop where
 ok:X.Ok
 os:s.os=X.s₀.os
 bare:AllBare s.gens
 base:Un X.fs X.ex X.H₀ H X.s₀.heap s.heap
 loc:∃m,s.heap.Ns X.env.locals m/\∀(i:Nat) (x:Str) (v:V),X.N[i]?=some x->U[i]?=some (some v)->mX X.env.scope x->∃u,RelV v u/\Look X.env s.heap m x u
 cell:∀x c,X.env.cells.lookup x=some c->∃v,s.heap.IsCell c v
 free:H X.env.locals=none
 jF:∀x c,X.env.cells.lookup x=some c->H c=none
 pin:∀p∈X.pn++pins,s.heap.get? p.1=some p.2/\H p.1=none/\p.1≠X.env.locals/\p.1∉X.fs/\∀v,p.2.data≠.cell v
 hok:cX X.prog X.w H s.heap
 len:U.length=X.N.length
section
variable{X:Cx}{pins:Rt}{U:List (Option V)}{H H':Hp}{s:Shared}{h':Heap}
def Cx.Ok.MT(ok:X.Ok){b:Addr}{o:Obj}(e:X.base.get? b=some o):b∉X.fs:=λhb=>by have:=(ok.ly.mem hb).1;rw[e]at this;cases this
theorem Inv.bs(I:Inv X pins U H s):∀b o,X.base.get? b=some o->s.heap.get? b=some o/\H b=none:=λb o e=>
 ⟨I.base.keep b o (I.ok.bs b o e).1 (I.ok.bs b o e).2 (I.ok.MT e) (I.ok.Ar b o e),I.base.free b o (I.ok.bs b o e).1 (I.ok.bs b o e).2 (I.ok.Ar b o e)⟩
def Inv.bk(I:Inv X pins U H s):∀b o,X.base.get? b=some o->s.heap.get? b=some o:=λb o e=>(I.bs b o e).1
theorem Inv.mod(I:Inv X pins U H s):Mod X.K X.mg X.base:=I.ok.mod
def Inv.gK(I:Inv X pins U H s):X.K.In s.heap:=I.ok.mod.ni.keeps I.bk
theorem Inv.lt(I:Inv X pins U H s):X.env.locals<s.heap.objs.size:=let⟨_,hn,_⟩:=I.loc;hn.lt
def Inv.sz(I:Inv X pins U H s):X.s₀.heap.objs.size<=s.heap.objs.size:=NZ I.ok.above (Nat.le_of_lt I.lt)
def Inv.IQ(I:Inv X pins U H s){a:Addr}(h:s.heap.objs.size<=a):a∉X.fs:=λhb=>by obtain⟨_,o,ho,_⟩:=I.ok.ly.mem hb;exact absurd (OH (N8 ho) (NZ I.sz h)) (Ow _)
def Inv.u9(I:Inv X pins U H s):∀x c,X.env.cells.lookup x=some c->c≠X.env.locals:=λx c e z=>by obtain⟨v,o,ho,hd⟩:=I.cell x c e;obtain⟨m,⟨o',es,ep,ho',hd',_⟩,_⟩:=I.loc;rw[z,ho']at ho;cases ho;rw[hd']at hd;cases hd
theorem Inv.ly(I:Inv X pins U H s):s.heap.FunFrames X.base X.outer:=by
 have all:∀(l:List Env),(∀b∈frs l,b∈X.fs)->X.s₀.heap.FunFrames X.base l->s.heap.FunFrames X.base l:=by
  intro l;induction l with
  |nil=>intro _ _;trivial
  |cons env r ih=>intro hs hl;obtain⟨hk,⟨L,o,hf,hn,ho,hd⟩,hr⟩:=hl;have hL:L∈X.fs:=hs L (by unfold frs;rw[PX,hf];exact N6);obtain⟨sl,e⟩:=I.base.slot L o ho (I.ok.Cs L hL) hL λz=>I.ok.DX L z hL;exact⟨hk,⟨L,_,hf,hn,e,hd⟩,ih (λb hb=>hs b (by unfold frs;rw[PX,hf];exact NX _ hb)) hr⟩
 exact all X.outer (λ_ hb=>hb) I.ok.ly
theorem Inv.stack(I:Inv X pins U H s):s.heap.FunFrames X.base X.stack:=by rcases I.ok.stk with e|⟨e,hf⟩;{rw[e];exact I.ly};rw[e];obtain⟨m,hn,_⟩:=I.loc;refine .cons (by rw[I.ok.kind];decide) hf hn ?_ I.ly;exact R9 (NZ I.ok.yL I.ok.above)
def Inv.nL(I:Inv X pins U H s):∀b∈frs X.stack,b∈X.env.locals::X.fs:=λb hb=>by rcases I.ok.stk with e|⟨e,hf⟩;{rw[e]at hb;exact NX _ hb};rw[e]at hb;unfold frs at hb;rw[PX,hf]at hb;exact hb
def Inv.rM(I:Inv X pins U H s):∀b∈frs X.stack,H b=none:=λb hb=>by rcases NY.mp (I.nL b hb)with e|hb;{rw[e];exact I.free};obtain⟨_,o,ho,_⟩:=I.ok.ly.mem hb;exact I.base.free b o ho (I.ok.Cs b hb) λz=>I.ok.DX b z hb
def Inv.step{g':Array GenState}{t':Nat}{d':Drawn}{ch:SH}(I:Inv X pins U H s)(hch:∀b∈ch,(b∈X.ex\/X.s₀.heap.objs.size<=b)/\b≠X.env.locals/\(∀x c,X.env.cells.lookup x=some c->c≠b)/\∀p∈X.pn++pins,p.1≠b)(keep:∀b o,b≠X.env.locals->b∉X.fs->b∉ch->s.heap.get? b=some o->H b=none->h'.get? b=some o)(slot:∀b o,b≠X.env.locals->b∈X.fs->b∉ch->s.heap.get? b=some o->H b=none->∃sl,h'.get? b=some { o with slots:=sl })(free:∀b o,b∉ch->s.heap.get? b=some o->H b=none->H' b=none)(there:∀b o,b∉ch->s.heap.get? b=some o->∃o',h'.get? b=some o')(tups:∀b xs,H b=some (.tup xs)->H' b=some (.tup xs))(ki:∀b o u,H b=some (.dZ o u)->H' b=some (.dZ o u))(kZ:∀b ps,H b=some (.tP ps)->∃more,H' b=some (.tP (ps++more)))(ns:∀m,s.heap.Ns X.env.locals m->h'.Ns X.env.locals m)(hok:cX X.prog X.w H' h')(hg:AllBare g') : Inv X pins U H' { s with heap:=h',gens:=g',drawn:=d',toks:=t' }:=by
 have neL:∀b o,X.s₀.heap.get? b=some o->b≠X.env.locals:=λb o e=>O6 (OH (N8 e) I.ok.above);have neC:∀b o,X.s₀.heap.get? b=some o->b∉X.ex->b∉ch:=λb o e hx hb=>by rcases(hch b hb).1 with z|z;{exact hx z};exact absurd (OH (N8 e) z) (Ow _)
 have cellK:∀x c,X.env.cells.lookup x=some c->∀v,s.heap.IsCell c v->h'.IsCell c v:=λx c e v ⟨o,ho,hd⟩=>by have nch:c∉ch:=λz=>(hch c z).2.2.1 x c e rfl;by_cases hc:c∈X.fs;{obtain⟨sl,q⟩:=slot c o (I.u9 x c e) hc nch ho (I.jF x c e);exact⟨_,q,hd⟩};exact⟨o,keep c o (I.u9 x c e) hc nch ho (I.jF x c e),hd⟩
 refine⟨I.ok,I.os,hg,⟨λb o e n hb hx=>?_,λb o e n hb hx=>?_,λb o e n hx=>?_,λb o e hx=>?_,λb xs e=>tups b xs (I.base.tups b xs e),λb o xs e=>ki b o xs (I.base.ki b o xs e),λb ps e=>?_⟩,?_,λx c e=>?_,?_,λx c e=>?_,λp hp=>?_,hok,I.len⟩;{exact keep b o (neL b o e) hb (neC b o e hx) (I.base.keep b o e n hb hx) (I.base.free b o e n hx)};{obtain⟨sl,e1⟩:=I.base.slot b o e n hb hx;obtain⟨sl',e2⟩:=slot b _ (neL b o e) hb (neC b o e hx) e1 (I.base.free b o e n hx);exact⟨sl',e2⟩};{obtain⟨o',e1⟩:=I.base.there b o e hx;exact free b o' (neC b o e hx) e1 (I.base.free b o e n hx)};{obtain⟨o',e1⟩:=I.base.there b o e hx;exact there b o' (neC b o e hx) e1};{obtain⟨m1,e1⟩:=I.base.kZ b ps e;obtain⟨m2,e2⟩:=kZ b _ e1;exact⟨m1++m2,by rw[e2,Array.append_assoc]⟩};{obtain⟨m,hn,hl⟩:=I.loc;refine⟨m,ns m hn,λi x v e1 e2 e3=>?_⟩;obtain⟨u,r,l⟩:=hl i x v e1 e2 e3;refine⟨u,r,?_⟩;rcases l with l|⟨k,c,e,z⟩;{exact .inl l};exact .inr ⟨k,c,e,cellK x c e _ z⟩};{obtain⟨v,z⟩:=I.cell x c e;exact⟨v,cellK x c e v z⟩};{obtain⟨m,⟨o,_,_,ho,_⟩,_⟩:=I.loc;exact free _ o (λz=>(hch _ z).2.1 rfl) ho I.free};{obtain⟨v,o,ho,hd⟩:=I.cell x c e;exact free c o (λz=>(hch c z).2.2.1 x c e rfl) ho (I.jF x c e)};obtain⟨e,n,ne,nf,d⟩:=I.pin p hp;have nch:p.1∉ch:=λz=>(hch p.1 z).2.2.2 p hp rfl;exact⟨keep p.1 p.2 ne nf nch e n,free p.1 p.2 nch e n,ne,nf,d⟩
def Inv.un{t':Nat}(I:Inv X pins U H s)(u:Un X.fs [] H H' s.heap h')(hok:cX X.prog X.w H' h'):Inv X pins U H' { s with heap:=h',toks:=t' }:=by
 obtain⟨m,⟨o,es,ep,ho,r⟩,_⟩:=id I.loc;obtain⟨sl,hL⟩:=u.any ho I.free (by simp);exact I.step (g':=s.gens) (d':=s.drawn) (ch:=[]) (λ_ z=>nomatch z) (λb o _ hb _ e n=>u.keep b o e n hb (by simp)) (λb o _ hb _ e n=>u.slot b o e n hb (by simp)) (λb o _ e n=>u.free b o e n (by simp)) (λb o _ e=>u.there b o e (by simp)) u.tups u.ki u.kZ (λm' hm=>by
  obtain⟨o',es',ep',ho',r'⟩:=hm;rw[ho]at ho';cases ho';exact⟨_,es',ep',hL,r'⟩) hok I.bare
def Inv.call{g':Array GenState}{t':Nat}{d':Drawn}{ch:SH}(I:Inv X pins U H s)(u:Un (frs X.stack) ch H H' s.heap h')(hok:cX X.prog X.w H' h')(hg:AllBare g')(hch:∀b∈ch,(b∈X.ex\/X.s₀.heap.objs.size<=b)/\b≠X.env.locals/\(∀x c,X.env.cells.lookup x=some c->c≠b)/\∀p∈X.pn++pins,p.1≠b) : Inv X pins U H' { s with heap:=h',gens:=g',drawn:=d',toks:=t' }:=by
 obtain⟨m,⟨o,es,ep,ho,r⟩,_⟩:=id I.loc;obtain⟨sl,hL⟩:=u.any ho I.free λz=>(hch _ z).2.1 rfl;exact I.step (ch:=ch) hch (λb o hL hb hc e n=>u.keep b o e n (λz=>(NY.mp (I.nL b z)).elim hL hb) hc) (λb o _ _ hc e n=>u.any e n hc) (λb o hc e n=>u.free b o e n hc) (λb o hc e=>u.there b o e hc) u.tups u.ki u.kZ (λm' hm=>by
  obtain⟨o',es',ep',ho',r'⟩:=hm;rw[ho]at ho';cases ho';exact⟨_,es',ep',hL,r'⟩) hok hg
def Inv.turned{t':Nat}{it:Addr}(I:Inv X pins U H s)(k:∀b o,b≠it->s.heap.get? b=some o->h'.get? b=some o)(hn:H it=none)(hL:it≠X.env.locals)(h1:it∈X.ex\/X.s₀.heap.objs.size<=it)(h2:∀x c,X.env.cells.lookup x=some c->c≠it)(h3:∀p∈X.pn++pins,p.1≠it):Inv X pins U H { s with heap:=h',toks:=t' }:=by
 have nit:∀b u,H b=some u->b≠it:=λb u e z=>by rw[z,hn]at e;cases e
 refine I.step (g':=s.gens) (d':=s.drawn) (ch:=[it]) (λb hb=>?_) (λb o _ _ hc e _=>k b o (λz=>hc (by simp[z])) e) (λb o _ _ hc e _=>⟨o.slots,k b o (λz=>hc (by simp[z])) e⟩) (λ_ _ _ _ n=>n)
  (λb o hc e=>⟨o,k b o (λz=>hc (by simp[z])) e⟩) (λ_ _ e=>e) (λ_ _ _ e=>e) (λb ps e=>⟨#[],by rw[e];simp⟩) (λm hm=>?_) (λb u e=>?_) I.bare
 .have e:b=it:=by simpa using hb
  subst e;exact⟨h1,hL,h2,h3⟩
 .obtain⟨o,es,ep,ho,r⟩:=hm;exact⟨o,es,ep,k _ o (Ne.symm hL) ho,r⟩
 refine(I.hok b u e).stay (λc v hc q=>k c v ?_ q) (λ_ q=>q) λ_ _ q=>q;rcases hc with z|z;{rw[z];exact nit b u e};exact nit c _ z
def Inv.tok(I:Inv X pins U H s) (t:Nat):Inv X pins U H { s with toks:=t }:=I.un (h':=s.heap) (t':=t) Un.refl I.hok
theorem Inv.kept{t':Nat}(I:Inv X pins U H s)(k:∀b u,s.heap.get? b=some u->h'.get? b=some u):Inv X pins U H { s with heap:=h',toks:=t' }:=I.un (Un.kept k) (I.hok.kept k)
theorem Inv.laid{a:Addr}{o:HO}{t':Nat}(I:Inv X pins U H s)(k:∀b u,s.heap.get? b=some u->h'.get? b=some u)(hp:s.heap.objs.size<=a)(new:bP X.prog X.w (upd H a o) h' a o) : Inv X pins U (upd H a o) { s with heap:=h',toks:=t' }:=I.un (Un.laid k hp (I.hok.fresh hp)) (I.hok.laid k hp new)
theorem Inv.write{x e:Addr}{o:HO}{t':Nat}(I:Inv X pins U H s)(mu:Ce (H x))(he:e=x\/H e=some (.own x))(k:∀b u,b≠e->s.heap.get? b=some u->h'.get? b=some u)(heo:∃u,h'.get? e=some u)(new:bP X.prog X.w (upd H x o) h' x o):Inv X pins U (upd H x o) { s with heap:=h',toks:=t' }:=I.un (Un.write mu he k heo) (I.hok.write mu he k heo new)
def Inv.lK{pins':Rt}(I:Inv X pins U H s)(h:∀p∈pins',s.heap.get? p.1=some p.2/\H p.1=none/\p.1≠X.env.locals/\p.1∉X.fs/\∀v,p.2.data≠.cell v):Inv X pins' U H s:=
 ⟨I.ok,I.os,I.bare,I.base,I.loc,I.cell,I.free,I.jF,λp hp=>(O7.mp hp).elim (λz=>I.pin p (List.mem_append_left _ z)) (h p),I.hok,I.len⟩
def v9{N:SQ}(hN:N.Nodup){i j:Nat}{x:Str}(a:N[i]?=some x)(b:N[j]?=some x):i=j:=by obtain⟨h1,e1⟩:=Ox.mp a;obtain⟨h2,e2⟩:=Ox.mp b;exact(List.getElem_inj hN).mp (e1.trans e2.symm)
def tX{M:Model}{A:Around}{E:Ro}{i:Nat}{x:Str}{v:V}{u:Value}{Q:Unit->Shared->Prop}(I:Inv X pins U H s)(hN:X.N.Nodup)(hi:X.N[i]?=some x)(hx:Loc X.env.scope x)(r:RelV v u)(h:∀s',Inv X pins (U.set i (some v)) H s'->(∃a,Heap.SameBut a s.heap s'.heap/\(a=X.env.locals\/X.env.cells.lookup x=some a))->Q () s')(hf:X.fn x=true\/X.env.scope.names.lookup x=some .local:=by first|exact .inl rfl|exact .inr rfl|assumption):wpAny M A (storeName X.env x u) Q E s:=by
 obtain⟨m,hn,hl⟩:=id I.loc;have hcls:(X.env.scope.kind == .class||(X.env.scope.kind == .module&&X.env.locals != X.env.globals))=false:=by rw[I.ok.kind];rfl
 have hiσ:i<U.length:=by rw[I.len];exact(Ox.mp hi).1
 have u9:=I.u9;have tracked:∀{a:Addr}{h':Heap},(∃o,s.heap.get? a=some o/\H a=none)->Heap.SameBut a s.heap h'->cX X.prog X.w H h':=λ{a h'} ha hs b ob e=>by obtain⟨_,_,hfree⟩:=ha;refine(I.hok b ob e).stay (λc w' hc q=>(hs.2 c ?_).trans q) (λ_ q=>q) λ_ _ q=>q;rintro rfl;rcases hc with rfl|hc;{rw[hfree]at e;cases e};rw[hfree]at hc;cases hc
 rcases hx with hk|hk;{refine wpAny_storeName_local hk hn (λh' hn' hs=>?_) hcls;obtain⟨oL,_,_,hoL,_⟩:=id hn;refine h _ ⟨I.ok,I.os,I.bare,⟨λb o e n hb hx=>?_,λb o e n hb hx=>?_,I.base.free,λb o e hx=>?_,I.base.tups,I.base.ki,I.base.kZ⟩,⟨_,hn',λj y v' e1 e2 e3=>?_⟩,λy c e=>?_,I.free,I.jF,λp hp=>?_,tracked ⟨oL,hoL,I.free⟩ hs,by simpa using I.len⟩ ⟨_,hs,.inl rfl⟩;{exact(hs.2 b (O6 (OH (N8 e) I.ok.above))).trans (I.base.keep b o e n hb hx)};{obtain⟨sl,e1⟩:=I.base.slot b o e n hb hx;exact⟨sl,(hs.2 b (O6 (OH (N8 e) I.ok.above))).trans e1⟩};{obtain⟨o',e1⟩:=I.base.there b o e hx;exact⟨o',(hs.2 b (O6 (OH (N8 e) I.ok.above))).trans e1⟩};{by_cases hj:j=i;{subst hj;rw[hi]at e1;cases e1;rw[QB hiσ]at e2;cases e2;exact⟨u,r,.inl ⟨hk,by simp⟩⟩};rw[QC (Ne.symm hj)]at e2;obtain⟨u',r',q⟩:=hl j y v' e1 e2 e3;refine⟨u',r',?_⟩;rcases q with⟨k,e⟩|⟨k,c,e,z⟩;{refine .inl ⟨k,?_⟩;have:y≠x:=λe=>hj (v9 hN e1 (e▸hi));simp[this,e]};exact .inr ⟨k,c,e,z.sameBut hs (u9 y c e)⟩};{obtain⟨w',z⟩:=I.cell y c e;exact⟨w',z.sameBut hs (u9 y c e)⟩};obtain⟨e,n,ne,nf,d⟩:=I.pin p hp;exact⟨(hs.2 p.1 ne).trans e,n,ne,nf,d⟩};have hfn:X.fn x=true:=by rcases hf with z|z;{exact z};rw[z]at hk;cases hk
 obtain⟨c,hc⟩:=I.ok.has x (.inl hk);obtain⟨w',z⟩:=I.cell x c hc;refine wpAny_storeName_cell I.ok.kind hk hc z (λh' hc' hs=>?_);obtain⟨oc,hoc,hocd⟩:=id z;refine h { s with heap:=h' } ⟨I.ok,I.os,I.bare,⟨λb o e n hb hx=>?_,λb o e n hb hx=>?_,I.base.free,λb o e hx=>?_,I.base.tups,I.base.ki,I.base.kZ⟩,⟨m,hn.sameBut hs (Ne.symm (u9 x c hc)),λj y v' e1 e2 e3=>?_⟩,λy c' e=>?_,I.free,I.jF,λp hp=>?_,tracked ⟨oc,hoc,I.jF x c hc⟩ hs,by simpa using I.len⟩ ⟨c,hs,.inr hc⟩;{exact(hs.2 b (O6 (OH (N8 e) (I.ok.El x c hfn hc)))).trans (I.base.keep b o e n hb hx)};{obtain⟨sl,e1⟩:=I.base.slot b o e n hb hx;exact⟨sl,(hs.2 b (O6 (OH (N8 e) (I.ok.El x c hfn hc)))).trans e1⟩};{obtain⟨o',e1⟩:=I.base.there b o e hx;exact⟨o',(hs.2 b (O6 (OH (N8 e) (I.ok.El x c hfn hc)))).trans e1⟩};{by_cases hj:j=i;{subst hj;rw[hi]at e1;cases e1;rw[QB hiσ]at e2;cases e2;exact⟨u,r,.inr ⟨.inl hk,c,hc,hc'⟩⟩};rw[QC (Ne.symm hj)]at e2;obtain⟨u',r',q⟩:=hl j y v' e1 e2 e3;refine⟨u',r',?_⟩;rcases q with q|⟨k,c',e,z'⟩;{exact .inl q};refine .inr ⟨k,c',e,z'.sameBut hs ?_⟩;rintro rfl;exact hj (v9 hN e1 (I.ok.inj _ _ _ e hc▸hi))};{by_cases hcc:c'=c;{subst hcc;exact⟨_,hc'⟩};obtain⟨w2,z2⟩:=I.cell y c' e;exact⟨w2,z2.sameBut hs hcc⟩};obtain⟨e,n,ne,nf,d⟩:=I.pin p hp;refine⟨(hs.2 p.1 ?_).trans e,n,ne,nf,d⟩;intro q;rw[q,hoc]at e;have q':oc=p.2:=Option.some.inj e;exact d w' (by rw[<-q'];exact hocd)
def mR{M:Model}{A:Around}{E:Ro}{i:Nat}{x:Str}{v:V}{u:Value}{Q:Unit->Shared->Prop}(I:Inv X pins U H s)(hN:X.N.Nodup)(hi:X.N[i]?=some x)(hx:Loc X.env.scope x)(r:RelV v u)(h:∀s',Inv X pins (U.set i (some v)) H s'->Q () s')(hf:X.fn x=true\/X.env.scope.names.lookup x=some .local:=by first|exact .inl rfl|exact .inr rfl|assumption):wpAny M A (storeName X.env x u) Q E s:=
 tX I hN hi hx r (λs' I' _=>h s' I') hf
def Inv.FA{s':Shared}{ch:SH}(I:Inv X pins U H s)(ho:s'.os=s.os)(u:Un (frs X.stack) ch H H' s.heap s'.heap)(hok:cX X.prog X.w H' s'.heap)(hg:AllBare s'.gens)(hch:∀b∈ch,(b∈X.ex\/X.s₀.heap.objs.size<=b)/\b≠X.env.locals/\(∀x c,X.env.cells.lookup x=some c->c≠b)/\∀p∈X.pn++pins,p.1≠b):Inv X pins U H' s':=by obtain⟨h',g',d',t',o'⟩:=s';have e:o'=s.os:=ho;subst e;exact I.call (g':=g') (t':=t') (d':=d') u hok hg hch
end
noncomputable abbrev XK:=Value->SD->Hp->Prop
noncomputable abbrev St:=List (Option V)
noncomputable abbrev VK:=V->Hp->Prop
noncomputable abbrev TE:=St->Hp->VK->Prop
noncomputable abbrev TT:=St->Hp->(Bool->Hp->Prop)->Prop
noncomputable abbrev TA:=St->Hp->(List V->Hp->Prop)->Prop
structure Ends where
 nx:St->Hp->Prop
 rt:VK
 bk:St->Hp->Prop:=λ_ _=>False
 ct:St->Hp->Prop:=λ_ _=>False
noncomputable abbrev TS:=Ends->St->Hp->Prop
noncomputable def EP (X:Cx)(pins:Rt)(U:St)(Q:VK)(u:Value)(s':Shared):Prop:=∃v H',Inv X pins U H' s'/\RelV v u/\Q v H'
noncomputable def TP (X:Cx)(pins:Rt)(U:St)(Q:Bool->Hp->Prop)(b:Bool)(s':Shared):Prop:=∃H',Inv X pins U H' s'/\Q b H'
noncomputable def AP (X:Cx)(pins:Rt)(U:St)(Q:List V->Hp->Prop)(us:SG)(s':Shared):Prop:=∃vs H',Inv X pins U H' s'/\Vals vs us/\Q vs H'
noncomputable def SP (X:Cx)(pins:Rt)(D:Ends)(f:Flow)(s':Shared):Prop:=
 match f with
 |.next=>∃σ' H',Inv X pins σ' H' s'/\D.nx σ' H'
 |.brk=>∃σ' H',Inv X pins σ' H' s'/\D.bk σ' H'
 |.cont=>∃σ' H',Inv X pins σ' H' s'/\D.ct σ' H'
 |.ret u=>∃v σ' H',Inv X pins σ' H' s'/\RelV v u/\D.rt v H'
noncomputable def PE (X:Cx)(e:Expr)(t:TE):Prop:=
 ∀(pins:Rt)(s:Shared)(U:St)(H:Hp)(Q:VK),Inv X pins U H s->t U H Q->wpAny (model X.prog X.w) X.A (eval e X.env) (EP X pins U Q) X.xe s
noncomputable def PT (X:Cx)(e:Expr)(t:TT):Prop:=
 ∀(pins:Rt)(s:Shared)(U:St)(H:Hp)(Q:Bool->Hp->Prop),Inv X pins U H s->t U H Q->wpAny (model X.prog X.w) X.A (isTrue e X.env (eval e X.env)) (TP X pins U Q) X.xe s
noncomputable def PW (X:Cx)(e:Expr)(t:TT):Prop:=
 ∀(whole:Sem Value)(pins:Rt)(s:Shared)(U:St)(H:Hp)(Q:Bool->Hp->Prop),Inv X pins U H s->t U H Q->wpAny (model X.prog X.w) X.A (isTrue e X.env whole) (TP X pins U Q) X.xe s
def PW.pt{X:Cx}{e:Expr}{t:TT}(h:PW X e t):PT X e t:=h _
noncomputable def PA (X:Cx)(es:SK)(t:TA):Prop:=
 ∀(pos:Pos)(pins:Rt)(s:Shared)(U:St)(H:Hp)(Q:List V->Hp->Prop),Inv X pins U H s->t U H Q->wpAny (model X.prog X.w) X.A (spliced (backTo pos (starEach es X.env))) (AP X pins U Q) X.xe s
noncomputable def PS (X:Cx)(st:Stmt)(t:TS):Prop:=
 ∀(pins:Rt)(s:Shared)(U:St)(H:Hp)(D:Ends),Inv X pins U H s->t D U H->wpAny (model X.prog X.w) X.A (exec st X.env) (SP X pins D) X.xe s
noncomputable def m5 (X:Cx)(st:SM)(t:TS):Prop:=
 ∀(pins:Rt)(s:Shared)(U:St)(H:Hp)(D:Ends),Inv X pins U H s->t D U H->wpAny (model X.prog X.w) X.A (execs st X.env) (SP X pins D) X.xe s
def aQ{α:Type}{t:Sem α}{Q Q':α->Shared->Prop}{M:Model}{A:Around}{E:Ro}{s:Shared}(h:wpAny M A t Q E s)(hQ:∀a s,Q a s->Q' a s):wpAny M A t Q' E s:=Od h hQ λ_ _ x=>x
section
variable{X:Cx}
inductive Ed(i:Nat)(U:St)(H:Hp)(Q:VK):Prop
 |mk:∀v,(U[i]?=some (some v))->(Q v H)->Ed i U H Q
noncomputable def mJ (i:Nat):TE:=λU H Q=>Ed i U H Q
noncomputable def tC (v:V):TE:=λ_ H Q=>Q v H
def iu{i:Nat}{x:Str}{pos:Pos}(hN:X.N[i]?=some x)(hv:mX X.env.scope x)(hd:(x==("__debug__":Str))=false:=by decide)(hcd:(x==("__classdict__":Str))=false:=by decide):PE X (.Name x pos) (mJ i):=by intro pins s U H Q I h;obtain⟨v,e,h⟩:=h;obtain⟨m,hn,hl⟩:=I.loc;obtain⟨u,r,l⟩:=hl i x v hN e hv;have fin:EP X pins U Q u s:=⟨v,H,I,r,h⟩;rcases l with⟨hk,hm⟩|⟨hk,c,hc,hcell⟩;{exact wpAny_Name (wpAny_loadName_local I.ok.kind hk hn hm fin) hd};rcases hk with hk|hk;{exact wpAny_Name (wpAny_loadName_cell I.ok.kind hk hc hcell fin) hd};exact wpAny_Name (wpAny_loadName_free I.ok.kind hk hc hcell fin hcd) hd
def JP{i j pos}:PE X (.Constant (.int i) j pos) (tC (.int i)):=λ_ _ _ H _ I h=>wpAny_Constant_int ⟨.int i,H,I.tok _,⟨_,rfl⟩,h⟩
def KQ{b j pos}:PE X (.Constant (.bool b) j pos) (tC (.bl b)):=λ_ _ _ H _ I h=>Constant_bool ⟨.bl b,H,I,rfl,h⟩
def JZ{j pos}:PE X (.Constant .none j pos) (tC .bq):=λ_ _ _ H _ I h=>Constant_none ⟨.bq,H,I,rfl,h⟩
def Bj{x j pos}:PE X (.Constant (.str x) j pos) (tC (.str x)):=λ_ _ _ H _ I h=>Calls.Constant_str ⟨.str x,H,I.tok _,⟨_,rfl⟩,h⟩
noncomputable def Gl (X:Cx) (x:Str):Prop:=X.env.kindOf x=some .globalImplicit
def xQ{E:Ro}{pins:Rt}{s:Shared}{U:St}{H:Hp}{x:Str}{u:Value}{pos:Pos}{Q:Ro}(I:Inv X pins U H s)(hg:Gl X x)(hm:X.mg x=some u)(h:Q u s)(hd:(x==("__debug__":Str))=false:=by decide):wpAny (model X.prog X.w) X.A (eval (.Name x pos) X.env) Q E s:=
 Calls.Name_function_global I.ok.kind hg (Calls.loadGlobal_global (by rw[I.ok.glob];exact I.mod.glob.keeps I.bk) hm h) hd
def jk{E:Ro}{pins:Rt}{s:Shared}{U:St}{H:Hp}{x:Str}{u:Value}{pos:Pos}{Q:Ro}(I:Inv X pins U H s)(hg:Gl X x)(hm:X.mg x=none)(hv:bootBuiltins x=some u)(h:Q u s)(hn:x≠"__name__":=by decide)(hd:(x==("__debug__":Str))=false:=by decide):wpAny (model X.prog X.w) X.A (eval (.Name x pos) X.env) Q E s:=by obtain⟨mb,h1,h2⟩:=I.mod.blt;exact Calls.Name_function_global I.ok.kind hg (Calls.loadGlobal_builtin (by rw[I.ok.glob];exact I.mod.glob.keeps I.bk) hm (by rw[I.ok.blt];exact h1.keeps I.bk) ((h2 x hn).trans hv) h) hd
def FL{x:Str}{v:V}{u:Value}{pos:Pos}(hg:Gl X x)(hm:X.mg x=none)(hv:bootBuiltins x=some u)(r:RelV v u)(hn:x≠"__name__":=by decide)(hd:(x==("__debug__":Str))=false:=by decide):PE X (.Name x pos) (tC v):=
 λ_ _ _ H _ I h=>jk I hg hm hv ⟨v,H,I,r,h⟩ hn hd
variable{a b:Expr}{ta tb:TE}{pos:Pos}
variable{tA tB':TT}{rest:SK}
noncomputable def MF (t u:TT):TT:=λU H Q=>t U H λc H1=>if c=true then u U H1 Q else Q false H1
noncomputable def NJ (t u:TT):TT:=λU H Q=>t U H λc H1=>if c=true then Q true H1 else u U H1 Q
noncomputable def ML (t:TT):TT:=λU H Q=>t U H λc H1=>Q (!c) H1
def pw_and1(ha:PT X a tA):PW X (.BoolOp .And [a] pos) tA:=by
 intro wh pins s U H Q I h;refine isTrue_and (aQ (ha pins s U H Q I h) λc s1 e=>?_);cases c with
 |true=>exact isTrue_and_nil e
 |false=>exact e
def pw_or1(ha:PT X a tA):PW X (.BoolOp .Or [a] pos) tA:=by
 intro wh pins s U H Q I h;refine isTrue_or (aQ (ha pins s U H Q I h) λc s1 e=>?_);cases c with
 |false=>exact isTrue_or_nil e
 |true=>exact e
def pw_and(ha:PT X a tA)(hb:PW X (.BoolOp .And (b::rest) pos) tB'):PW X (.BoolOp .And (a::b::rest) pos) (MF tA tB'):=by
 intro wh pins s U H Q I h;refine isTrue_and (aQ (ha pins s U H _ I h) λc s1 ⟨H1,I1,q1⟩=>?_);cases c with
 |true=>exact hb wh pins s1 U H1 Q I1 q1
 |false=>exact⟨H1,I1,q1⟩
def pw_or(ha:PT X a tA)(hb:PW X (.BoolOp .Or (b::rest) pos) tB'):PW X (.BoolOp .Or (a::b::rest) pos) (NJ tA tB'):=by
 intro wh pins s U H Q I h;refine isTrue_or (aQ (ha pins s U H _ I h) λc s1 ⟨H1,I1,q1⟩=>?_);cases c with
 |true=>exact⟨H1,I1,q1⟩
 |false=>exact hb wh pins s1 U H1 Q I1 q1
def CS(ha:PT X a tA):PT X (.UnaryOp .Not a pos) (ML tA):=by intro pins s U H Q I h;exact isTrue_not (ha pins s U H (λc H1=>Q (!c) H1) I h)
inductive B7(tb:TE)(U:St)(Q:VK) (x:V)(H1:Hp):Prop
 |mk:∀c,(x=.bl c)->(if c=true then tb U H1 Q else Q (.bl false) H1)->B7 tb U Q x H1
noncomputable def LB (ta tb:TE):TE:=λU H Q=>ta U H λx H1=>B7 tb U Q x H1
def HK{op}{t:TE}(h:PE X a t):PE X (.BoolOp op [a] pos) t:=λpins s U H Q I hw=>BoolOp_one (h pins s U H Q I hw)
def JG(ha:PE X a ta)(hb:PE X (.BoolOp .And (b::rest) pos) tb):PE X (.BoolOp .And (a::b::rest) pos) (LB ta tb):=by
 intro pins s U H Q I h;refine BoolOp_and (aQ (ha pins s U H _ I h) λv s1 ⟨x,H1,I1,r1,q1⟩=>?_);obtain⟨c,rfl,q1⟩:=q1;cases r1;refine Pn ?_;cases c with
 |true=>exact hb pins s1 U H1 Q I1 q1
 |false=>exact⟨.bl false,H1,I1,rfl,q1⟩
noncomputable def Nb (t:TT)(ta tb:TE):TE:=λU H Q=>t U H λc H1=>if c=true then ta U H1 Q else tb U H1 Q
def C0{c:Expr}(hc:PT X c tA)(ha:PE X a ta)(hb:PE X b tb):PE X (.IfExp c a b pos) (Nb tA ta tb):=by
 intro pins s U H Q I h;refine wpAny_IfExp (aQ (hc pins s U H _ I h) λd s1 ⟨H1,I1,q1⟩=>?_);cases d with
 |true=>exact ha pins s1 U H1 Q I1 q1
 |false=>exact hb pins s1 U H1 Q I1 q1
end
noncomputable def bX (K:Rx)(H:Hp)(a:Addr)(xs:List V):Prop:=
 Rd H a (.lst xs) \/
  ∃(o:Obj)(its:Rz) (n:Nat),K.lookup a=some o/\o.cls=.type "list"/\o.dict=none/\o.data=.seq its n/\its.size<=sizeLine/\Vals xs its.toList
noncomputable def aU (K:Rx)(H:Hp)(a:Addr)(xs:List V):Prop:=
 Rd H a (.tup xs) \/
  ∃(o:Obj)(its:Rz) (n:Nat),K.lookup a=some o/\o.cls=.type "tuple"/\o.data=.seq its n/\its.size<=sizeLine/\Vals xs its.toList
noncomputable def MW:Value->Option V
 |.none=>some .bq
 |.bool b=>some (.bl b)
 |.int i _=>some (.int i)
 |.str x _=>some (.str x)
 |.bytes b _=>some (.lE b)
 |.float b _=>some (.yF b)
 |.ref a=>some (.ref a)
 |.type n=>some (.ty n)
 |_=>none
def RelV.abs{x:V}{u:Value}(r:RelV x u):MW u=some x:=by
 cases x with
 |bq=>cases r;rfl
 |bl _=>cases r;rfl
 |int _=>obtain⟨t,rfl⟩:=r;rfl
 |str _=>obtain⟨t,rfl⟩:=r;rfl
 |lE _=>obtain⟨t,rfl⟩:=r;rfl
 |yF _=>obtain⟨t,rfl⟩:=r;rfl
 |ref _=>cases r;rfl
 |ty _=>cases r;rfl
theorem RelV.inj{x y:V}{u:Value}(r:RelV x u)(q:RelV y u):x=y:=Option.some.inj (r.abs.symm.trans q.abs)
theorem Vals.inj{xs ys:List V}{us:SG}(h:Vals xs us)(h':Vals ys us):xs=ys:=by
 induction h generalizing ys with
 |nil=>cases h';rfl
 |cons r t ih=>cases h' with|cons r' t'=>rw[r.inj r',ih t']
section
variable{X:Cx}{pins:Rt}{U:St}{H:Hp}{s:Shared}{a:Addr}{xs ys:List V}
def bX.of{K:Rx}(h:H a=some (.lst xs)):bX K H a xs:=.inl (.inl h)
def aU.of{K:Rx}(h:H a=some (.tup xs)):aU K H a xs:=.inl (.inl h)
def Inv.list(I:Inv X pins U H s)(h:bX X.K H a xs):∃its:SG,Vals xs its/\PlainL s.heap a its.toArray/\xs.length<=sizeLine:=by rcases h with h|⟨o,its,n,hk,hc,hd,hs,hz,r⟩;{obtain⟨z,its,n,r,e⟩:=h.ok I.hok;exact⟨its,r,⟨_,n,e,rfl,rfl,rfl⟩,z⟩};refine⟨its.toList,r,⟨o,n,I.gK a o hk,hc,hd,by simpa using hs⟩,?_⟩;have e:=r.length;simp only[PY]at e;lia
def Inv.tuple(I:Inv X pins U H s)(h:aU X.K H a xs):∃its:SG,Vals xs its/\IsTup s.heap a its.toArray/\xs.length<=sizeLine:=by rcases h with h|⟨o,its,n,hk,hc,hs,hz,r⟩;{obtain⟨z,its,r,p⟩:=h.ok I.hok;exact⟨its,r,p,z⟩};refine⟨its.toList,r,⟨o,I.gK a o hk,hc,n,by simpa using hs⟩,?_⟩;have e:=r.length;simp only[PY]at e;lia
def Inv.pP(I:Inv X pins U H s)(h:bX X.K H a xs)(h':bX X.K H a ys):xs=ys:=by
 obtain⟨its,r,⟨o,n,e,_,_,d⟩,_⟩:=I.list h;obtain⟨its',r',⟨o',n',e',_,_,d'⟩,_⟩:=I.list h';rw[e]at e';cases e';rw[d]at d';injection d' with d1 _;have:its=its':=by simpa using congrArg Array.toList d1
 subst this;exact r.inj r'
def Inv.tw(I:Inv X pins U H s)(h:aU X.K H a xs)(h':aU X.K H a ys):xs=ys:=by
 obtain⟨its,r,⟨o,e,_,n,d⟩,_⟩:=I.tuple h;obtain⟨its',r',⟨o',e',_,n',d'⟩,_⟩:=I.tuple h';rw[e]at e';cases e';rw[d]at d';injection d' with d1 _;have:its=its':=by simpa using congrArg Array.toList d1
 subst this;exact r.inj r'
end
section
variable{X:Cx}{st:Stmt}{rest:SM}{t u:TS}{e:Expr}{te:TE}{pos:Pos}
noncomputable def KN:TS:=λD U H=>D.nx U H
noncomputable def MV (t u:TS):TS:=λD U H=>t { D with nx:=u D } U H
def Gj:m5 X [] KN:=λ_ _ U H _ I h=>QT ⟨U,H,I,h⟩
def vB(h1:PS X st t)(h2:m5 X rest u):m5 X (st::rest) (MV t u):=by
 intro pins s U H D I h;refine wpAny_execs_cons (aQ (h1 pins s U H { D with nx:=u D } I h) λf s1 q=>?_);cases f with
 |next=>obtain⟨σ',H',I',q⟩:=q;exact h2 pins s1 σ' H' D I' q
 |ret v=>exact q
 |brk=>exact q
 |cont=>exact q
def GB(h1:PS X st t):m5 X [st] t:=by
 intro pins s U H D I h;refine wpAny_execs_cons (aQ (h1 pins s U H D I h) λf s1 q=>?_);cases f with
 |next=>exact QT q
 |ret v=>exact q
 |brk=>exact q
 |cont=>exact q
def Inv.quiet{pins:Rt}{U:St}{H:Hp}{s:Shared}(I:Inv X pins U H s):interactive X.env=false:=by simp[interactive,I.ok.kind]
noncomputable def KZ (te:TE):TS:=λD U H=>te U H λ_ H1=>D.nx U H1
def GF(he:PE X e te)(hs:swapsWith e none pos.line X.env=pure false:=by rfl):PS X (.Expr e pos) (KZ te):=by intro pins s U H D I h;exact wpAny_Expr_any (aQ (he pins s U H _ I h) λv s1 ⟨x,H1,I1,r1,q1⟩=>⟨U,H1,I1,q1⟩) I.quiet hs
noncomputable def Mx (te:TE):TS:=λD U H=>te U H D.rt
def BD(he:PE X e te):PS X (.Return (some e) pos) (Mx te):=by intro pins s U H D I h;exact wpAny_Return_some (aQ (he pins s U H _ I h) λv s1 ⟨x,H1,I1,r1,q1⟩=>⟨x,U,H1,I1,r1,q1⟩)
noncomputable def MP (c:TT)(t u:TS):TS:=λD U H=>c U H λb H1=>if b=true then t D U H1 else u D U H1
def KR{c:Expr}{a b:SM}{tc:TT}(hc:PT X c tc)(ha:m5 X a t)(hb:m5 X b u):PS X (.If c a b pos) (MP tc t u):=by
 intro pins s U H D I h;refine wpAny_If (aQ (hc pins s U H _ I h) λd s1 ⟨H1,I1,q1⟩=>?_);cases d with
 |true=>exact ha pins s1 U H1 D I1 q1
 |false=>exact hb pins s1 U H1 D I1 q1
end
noncomputable abbrev TG:=V->St->Hp->(St->Hp->Prop)->Prop
noncomputable abbrev oS:=List V->St->Hp->(St->Hp->Prop)->Prop
noncomputable def PG (X:Cx)(target:Expr)(t:TG):Prop:=
 ∀(pins:Rt)(s:Shared)(U:St)(H:Hp) (v:V)(u:Value)(Q:St->Hp->Prop),Inv X pins U H s->RelV v u->t v U H Q->
  wpAny (model X.prog X.w) X.A (assign target X.env u) (λ_ s'=>∃σ' H',Inv X pins σ' H' s'/\Q σ' H') X.xe s
noncomputable def Ay (X:Cx)(ts:SK)(t:oS):Prop:=
 ∀(pins:Rt)(s:Shared)(U:St)(H:Hp)(vs:List V)(us:SG)(Q:St->Hp->Prop),Inv X pins U H s->Vals vs us->t vs U H Q->
  wpAny (model X.prog X.w) X.A (assignInOrder ((assignEach ts X.env).map (·.2)) us) (λ_ s'=>∃σ' H',Inv X pins σ' H' s'/\Q σ' H') X.xe s
noncomputable abbrev yT:=V->V->V->Hp->(Hp->Prop)->Prop
noncomputable def DZ (X:Cx)(t:yT):Prop:=
 ∀(pins:Rt)(s:Shared)(U:St)(H:Hp) (o i v:V)(ov iv u:Value)(Q:Hp->Prop),Inv X pins U H s->RelV o ov->RelV i iv->RelV v u->t o i v H Q->
  wpAny (model X.prog X.w) X.A (setItem ov iv u) (λ_ s'=>∃H',Inv X pins U H' s'/\Q H') X.xe s
section
variable{X:Cx}{pos:Pos}
noncomputable def oG (i:Nat):TG:=λv U H Q=>Q (U.set i (some v)) H
def rX{i:Nat}{x:Str}(hN:X.N.Nodup)(hi:X.N[i]?=some x)(hx:Loc X.env.scope x)(hf:X.fn x=true\/X.env.scope.names.lookup x=some .local:=by first|exact .inl rfl|exact .inr rfl|assumption):PG X (.Name x pos) (oG i):=by intro pins s U H v u Q I r h;exact wpAny_assign_Name (mR I hN hi hx r (λs' I'=>⟨_,H,I',h⟩) hf)
noncomputable def DL:oS:=λvs U H Q=>vs=[]/\Q U H
inductive BZ(t:TG)(u:oS)(vs:List V)(U:St)(H:Hp)(Q:(St->Hp->Prop)):Prop
 |mk:∀v r,(vs=v::r)->(t v U H λσ' H'=>u r σ' H' Q)->BZ t u vs U H Q
noncomputable def Ad (t:TG)(u:oS):oS:=λvs U H Q=>BZ t u vs U H Q
def yR:Ay X [] DL:=by intro pins s U H vs us Q I r h;obtain⟨e,h⟩:=h;subst e;cases r;exact assignInOrder_nil ⟨U,H,I,h⟩
def qj{e:Expr}{es:SK}{t:TG}{u:oS}(h1:PG X e t)(h2:Ay X es u)(hs:(assignEach (e::es) X.env).map (·.2)=assign e X.env::(assignEach es X.env).map (·.2):=by rfl):Ay X (e::es) (Ad t u):=by
 intro pins s U H vs us Q I r h;obtain⟨v,vr,e1,h⟩:=h;subst e1;cases r with
 |cons r rr=>rw[hs];refine RA (aQ (h1 pins s U H _ _ _ I r h) λ_ s1 ⟨σ1,H1,I1,q1⟩=>?_);exact h2 pins s1 σ1 H1 _ _ Q I1 rr q1
inductive EW(K:Rx) (n:Nat)(t:oS) (v:V)(U:St)(H:Hp)(Q:(St->Hp->Prop)):Prop
 |mk:∀a xs,(v=.ref a)->(aU K H a xs)->(xs.length=n)->(t xs U H Q)->EW K n t v U H Q
noncomputable def bO (K:Rx) (n:Nat)(t:oS):TG:=λv U H Q=>EW K n t v U H Q
def wW{es:SK}{k:Nat}{t:oS}{n:Nat}(hc:X.calm=true)(h:Ay X es t)(hn:(assignEach es X.env).length=n:=by rfl)(hst:(assignEach es X.env).findIdx? (·.1)=none:=by rfl):PG X (.Tuple es k pos) (bO X.K n t):=by intro pins s U H v u Q I r hw;obtain⟨a,xs,e1,hq,hl,hw⟩:=hw;subst e1;cases r;obtain⟨its,rv,ht,hz⟩:=I.tuple hq;refine assign_Tuple_tuple (I.ok.hd hc) ht (by simp[hn,<-hl,rv.length]) hst λh' hx=>?_;have I1:Inv X pins U H { s with heap:=h' }:=I.kept (t':=s.toks) λb o e=>hx b o (O6 (N8 e)) e;exact h pins _ U H xs _ Q I1 (by simpa using rv) hw
noncomputable def n9 (to ti:TE)(t:yT):TG:=λv U H Q=>to U H λo H1=>ti U H1 λi H2=>t o i v H2 λH3=>Q U H3
def Jr{o i:Expr}{to ti:TE}{t:yT}(ho:PE X o to)(hi:PE X i ti)(hs:DZ X t)
  (ha:∀v,assign (.Subscript o i pos) X.env v=(do
   let ov <-holding [v] (eval o X.env)
   let iv <-holding [v,ov] (eval i X.env)
   standAt pos
   holding [v,ov,iv] (setItem ov iv v)
   release [v,ov,iv] []):=by intro _;rfl):PG X (.Subscript o i pos) (n9 to ti t):=by
 intro pins s U H v u Q I r h;rw[ha];refine N1 (Oz (aQ (ho pins s U H _ I h) λov s1 ⟨x,H1,I1,r1,q1⟩=>?_))
 refine N1 (Oz (aQ (hi pins s1 U H1 _ I1 q1) λiv s2 ⟨y,H2,I2,r2,q2⟩=>?_))
 refine N1 (wpAny_standAt (N1 (Oz (aQ (hs pins s2 U H2 x y v ov iv u _ I2 r1 r2 r q2) λ_ s3 ⟨H3,I3,q3⟩=>?_))))
 exact wpAny_release ⟨U,H3,I3,q3⟩
noncomputable def Di (te:TE)(g:TG):TS:=λD U H=>te U H λx H1=>g x U H1 D.nx
def AN{tg e:Expr}{te:TE}{g:TG}(he:PE X e te)(hg:PG X tg g)(hs:swapsWithSole [tg] e pos.line X.env=pure false:=by rfl)(hw:swappedStores [tg] e X.env=pure none:=by rfl)(h1:(assignEach [tg] X.env).map (·.2)=[assign tg X.env]:=by rfl):PS X (.Assign [tg] e pos) (Di te g):=by intro pins s U H D I h;refine wpAny_Assign_stores (aQ (he pins s U H _ I h) λv s1 ⟨x,H1,I1,r1,q1⟩=>?_) hs hw;rw[h1];exact aQ (hg pins s1 U H1 x v _ I1 r1 q1) λ_ s2 q=>q
def Jm{i:Nat}{x:Str}{e:Expr}{te:TE}{pos':Pos}(hN:X.N.Nodup)(hi:X.N[i]?=some x)(hx:Loc X.env.scope x)(he:PE X e te)(hs:swapsWith e (some (.Name x pos')) pos.line X.env=pure false:=by rfl)(hf:X.fn x=true\/X.env.scope.names.lookup x=some .local:=by first|exact .inl rfl|exact .inr rfl|assumption) : PS X (.Assign [.Name x pos'] e pos) (Di te (oG i)):=by intro pins s U H D I h;refine wpAny_Assign_Name (aQ (he pins s U H _ I h) λv s1 ⟨y,H1,I1,r1,q1⟩=>?_) hs;exact mR I1 hN hi hx r1 (λs2 I2=>⟨_,H1,I2,q1⟩) hf
end
section
variable{X:Cx}{pos:Pos}
noncomputable def IZ (c:TT)(tb:TS):TS:=λD U H=>∃W:Nat->St->Hp->Prop,(∃m,W m U H)/\∀m U H,W m U H->
 c U H λb H1=>if b=true then ∃N:St->Hp->Prop,(∀σ' H',N σ' H'->∃m',m'<m/\W m' σ' H')/\tb { D with nx:=N,ct:=N,bk:=D.nx } U H1 else D.nx U H1
def DP{c:Expr}{body:SM}{tc:TT}{tb:TS}(hp:PassesOwn (model X.prog X.w) X.A X.env X.xe)(hc:PT X c tc)(hb:m5 X body tb):PS X (.While c body [] pos) (IZ tc tb):=by
 intro pins s U H D I h;obtain⟨W,⟨m0,w0⟩,turn⟩:=h;refine wpAny_While (codeAny_whileLoop (λn s'=>∃σ' H',Inv X pins σ' H' s'/\W n σ' H') ?_ m0 ⟨U,H,I,w0⟩);rintro n s1⟨σ1,H1,I1,w1⟩;refine PZ hp (aQ (hc pins s1 σ1 H1 _ I1 (turn n σ1 H1 w1)) λb s2 ⟨H2,I2,q2⟩=>?_);cases b with
 |true=>
  obtain⟨N,hN,q2⟩:=q2;rw[if_pos rfl];refine PZ hp (aQ (hb pins s2 σ1 H2 _ I2 q2) λf s3 q3=>?_);cases f with
  |next=>obtain⟨σ3,H3,I3,n3⟩:=q3;obtain⟨m',hm,w3⟩:=hN σ3 H3 n3;exact⟨m',hm,σ3,H3,I3,w3⟩
  |cont=>obtain⟨σ3,H3,I3,n3⟩:=q3;obtain⟨m',hm,w3⟩:=hN σ3 H3 n3;exact⟨m',hm,σ3,H3,I3,w3⟩
  |brk=>exact q3
  |ret v=>exact q3
 |false=>rw[if_neg O9];exact QT ⟨σ1,H2,I2,q2⟩
end
structure It where
 go:Nat->Hp->Prop
 pC:Nat->Hp->V->Hp->Prop
 stop:Nat->Hp->Prop
noncomputable def gu (X:Cx)(pins:Rt)(H:Hp)(b:Addr):Prop:=
 H b=none/\b≠X.env.locals/\b∉X.fs/\(b∈X.ex\/X.s₀.heap.objs.size<=b)/\(∀x c,X.env.cells.lookup x=some c->c≠b)/\∀p∈X.pn++pins,p.1≠b
def Inv.nk{X:Cx}{pins:Rt}{U:St}{H H':Hp}{s:Shared}{b:Addr}(I:Inv X pins U H s)(hb:s.heap.objs.size<=b)(hn:H' b=none):gu X pins H' b:=by refine⟨hn,P7 (OH I.lt hb),I.IQ hb,.inr (NZ I.sz hb),λx c e z=>?_,λp hp z=>?_⟩;{obtain⟨v,q⟩:=I.cell x c e;exact absurd (OH q.lt (by rw[z];exact hb)) (Ow _)};exact absurd (OH (N8 (I.pin p hp).1) (by rw[z];exact hb)) (Ow _)
structure Turn(P:Program)(w:World)(K:Rx)(tg:Expr)(J:It)(fp:SH)(it:Addr)(tn:Nat->Heap->Prop):Prop where
 mem:it∈fp
 obj:∀i h,tn i h->∀b∈fp,∃o,h.get? b=some o/\∀v,o.data≠.cell v
 keep:∀i h h',tn i h->(∀b∈fp,∀o,h.get? b=some o->h'.get? b=some o)->tn i h'
 item:∀(X:Cx),X.prog=P->X.w=w->X.K=K->X.calm=true->∀(i:Nat)(pins:Rt)(s:Shared)(U:St)(H:Hp)(E:Ro),Inv X pins U H s->(∀b∈fp,gu X pins H b)->tn i s.heap->J.go i H->
  wpAny (model P w) X.A (pyNext (.ref it)) (λr s1=>∃u,r=some u /\
   wpAny (model P w) X.A (letOwnedTupleGo tg (.ref it) u) (λ_ s2=>∃x H',Inv X pins U H' s2/\RelV x u/\J.pC i H x H'/\tn (i+1) s2.heap/\∀b∈fp,H' b=none) E s1) E s
 done:∀(X:Cx),X.prog=P->X.w=w->X.K=K->X.calm=true->∀(i:Nat)(pins:Rt)(s:Shared)(U:St)(H:Hp)(E:Ro),Inv X pins U H s->(∀b∈fp,gu X pins H b)->tn i s.heap->J.stop i H->
  wpAny (model P w) X.A (pyNext (.ref it)) (λr s1=>r=none/\Inv X pins U H s1) E s
 self:∀(A:Around) (i:Nat)(s:Shared)(Q:Ro)(E:Ro),tn i s.heap->Q (.ref it) s->wpAny (model P w) A (pyIter (.ref it)) Q E s
noncomputable abbrev TI:=St->Hp->(It->Hp->Prop)->Prop
noncomputable def Fy (X:Cx)(pins:Rt)(U:St)(tg:Expr)(R:It->Hp->Prop)(itv:Value)(s2:Shared):Prop:=
 ∃(it:Addr)(fp:SH)(tn:Nat->Heap->Prop)(J:It)(H':Hp),itv=.ref it/\Inv X pins U H' s2/\Turn X.prog X.w X.K tg J fp it tn/\tn 0 s2.heap/\(∀b∈fp,gu X pins H' b)/\R J H'
noncomputable def PI (X:Cx)(tg iter:Expr)(wi:TI):Prop:=
 ∀(pins:Rt)(s:Shared)(U:St)(H:Hp)(R:It->Hp->Prop),Inv X pins U H s->wi U H R->
  wpAny (model X.prog X.w) X.A (eval iter X.env) (λv s1=>wpAny (model X.prog X.w) X.A (pyIter v) (Fy X pins U tg R) X.xe s1) X.xe s
def z9{M:Model}{A:Around}{E:Ro}{s:Shared}{tg:Expr}{it:Addr}{u:Value}{o:Obj}{n:String}{vs:Rz}{Q:Unit->Shared->Prop}(ho:s.heap.get? it=some o)(hc:o.cls=.type n)(hd:o.data=.fields vs)(hn:["enumerate","zip","dict_itemiterator","dict_reverseitemiterator","odict_iterator","itertools.zip_longest","itertools.pairwise"].contains n=false)(hQ:Q () s):wpAny M A (letOwnedTupleGo tg (.ref it) u) Q E s:=by
 unfold letOwnedTupleGo;cases tg<;>first
  |exact N4 hQ
  | (cases u<;>first
    |exact N4 hQ
    | (refine N1 (wpAny_load ho ?_)
       rw[hc,hd];show wpAny M A (if(["enumerate","zip","dict_itemiterator","dict_reverseitemiterator","odict_iterator","itertools.zip_longest","itertools.pairwise"].contains n&&vs[0]? == some (rawInt _))=true then _ else _) Q E s
       rw[if_neg (by intro h;rw[hn,Bool.false_and]at h;cases h)]
       exact N4 hQ))
noncomputable def EE (K:Rx)(a:Addr):It:=
 ⟨λi H=>∃xs x,bX K H a xs/\xs[i]?=some x,λi H x H'=>H'=H/\∀xs,bX K H a xs->xs[i]?=some x,λi H=>∃xs,bX K H a xs/\xs.length<=i⟩
noncomputable def Es (K:Rx)(a:Addr):It:=
 ⟨λi H=>∃xs x,aU K H a xs/\xs[i]?=some x,λi H x H'=>H'=H/\∀xs,aU K H a xs->xs[i]?=some x,λi H=>∃xs,aU K H a xs/\xs.length<=i⟩
noncomputable def CA (lo:Int) (n:Nat):It:=⟨λi _=>i<n,λi H x H'=>H'=H/\x=.int (lo+i),λi _=>n<=i⟩
def BF{P:Program}{w:World}{K:Rx}{tg:Expr}(a it:Addr):Turn P w K tg (EE K a) [it] it (λi h=>h.IsListIter it a i) where
 mem:=by simp
 obj:=λi h st b hb=>by
  have e:b=it:=by simpa using hb
  subst e;obtain⟨o,e,c,d⟩:=st;exact⟨o,e,λv z=>by rw[d]at z;cases z⟩
 keep:=λi h h' st k=>st.at λo e=>k it (by simp) o e
 item:=by
  intro X hP hw hK hc i pins s U H E I hf st hg;subst hP hw hK;obtain⟨xs,x,hq,hx⟩:=hg;obtain⟨its,rv,p,hz⟩:=I.list hq;obtain⟨u,hu,ru⟩:=rv.get hx;obtain⟨f0,f1,f2,f3,f4,f5⟩:=hf it (by simp)
  refine wpAny_pyNext_list_item st p.isList (x:=u) (by simpa using hu) λh' st' sb=>?_
  have I1:Inv X pins U H { s with heap:=h' }:=I.turned (t':=s.toks) (λb o hb e=>(sb.2 b hb).trans e) f0 f1 f3 f4 f5
  obtain⟨o,e,c,d⟩:=id st';exact⟨u,rfl,z9 (s:={ s with heap:=h' }) e c d (by decide) ⟨x,H,I1,ru,⟨rfl,λys hy=>by rw[I.pP hy hq];exact hx⟩,st',λb hb=>(hf b hb).1⟩⟩
 done:=by
  intro X hP hw hK hc i pins s U H E I hf st hg;subst hP hw hK;obtain⟨xs,hq,hx⟩:=hg;obtain⟨its,rv,p,hz⟩:=I.list hq;obtain⟨f0,f1,f2,f3,f4,f5⟩:=hf it (by simp)
  have hl:=rv.length;exact wpAny_pyNext_list_end (I.ok.hd hc) st p.isList (by simp;lia) λh' eb=>⟨rfl,I.turned (t':=s.toks) (λb o hb e=>eb b o hb e) f0 f1 f3 f4 f5⟩
 self:=λ_ _ _ _ _ st h=>wpAny_pyIter_listiter st h
def zN{P:Program}{w:World}{K:Rx}{tg:Expr}(a it:Addr):Turn P w K tg (Es K a) [it] it (λi h=>h.IsTupleIter it a i) where
 mem:=by simp
 obj:=λi h st b hb=>by
  have e:b=it:=by simpa using hb
  subst e;obtain⟨o,e,c,d⟩:=st;exact⟨o,e,λv z=>by rw[d]at z;cases z⟩
 keep:=λi h h' st k=>st.at λo e=>k it (by simp) o e
 item:=by
  intro X hP hw hK hc i pins s U H E I hf st hg;subst hP hw hK;obtain⟨xs,x,hq,hx⟩:=hg;obtain⟨its,rv,p,hz⟩:=I.tuple hq;obtain⟨u,hu,ru⟩:=rv.get hx;obtain⟨f0,f1,f2,f3,f4,f5⟩:=hf it (by simp)
  refine wpAny_pyNext_tuple_item st (show s.heap.IsTuple a its.toArray from p) (x:=u) (by simpa using hu) λh' st' sb=>?_
  have I1:Inv X pins U H { s with heap:=h' }:=I.turned (t':=s.toks) (λb o hb e=>(sb.2 b hb).trans e) f0 f1 f3 f4 f5
  obtain⟨o,e,c,d⟩:=id st';exact⟨u,rfl,z9 (s:={ s with heap:=h' }) e c d (by decide) ⟨x,H,I1,ru,⟨rfl,λys hy=>by rw[I.tw hy hq];exact hx⟩,st',λb hb=>(hf b hb).1⟩⟩
 done:=by
  intro X hP hw hK hc i pins s U H E I hf st hg;subst hP hw hK;obtain⟨xs,hq,hx⟩:=hg;obtain⟨its,rv,p,hz⟩:=I.tuple hq;obtain⟨f0,f1,f2,f3,f4,f5⟩:=hf it (by simp)
  have hl:=rv.length;exact wpAny_pyNext_tuple_end (I.ok.hd hc) st (show s.heap.IsTuple a its.toArray from p) (by simp;lia) λh' eb=>⟨rfl,I.turned (t':=s.toks) (λb o hb e=>eb b o hb e) f0 f1 f3 f4 f5⟩
 self:=λ_ _ _ _ _ st h=>wpAny_pyIter_tupleiter st h
def Av{P:Program}{w:World}{K:Rx}{tg:Expr}(it:Addr) (lo:Int) (n:Nat):Turn P w K tg (CA lo n) [it] it (λi h=>IsRangeIter h it (lo+(i:Nat)*1) ((n:Int)-(i:Nat)) 1) where
 mem:=by simp
 obj:=λi h st b hb=>by
  have e:b=it:=by simpa using hb
  subst e;exact⟨_,st,λv z=>by
   have z':Data.fields _=Data.cell v:=z;cases z'⟩
 keep:=λi h h' st k=>k it (by simp) _ st
 item:=by
  intro X hP hw hK hc i pins s U H E I hf st hg;subst hP hw hK;obtain⟨f0,f1,f2,f3,f4,f5⟩:=hf it (by simp)
  have W:=Walks.range (prog:=X.prog) (w:=X.w) (I.ok.hd hc) it lo 1 n;refine W.item i s _ _ hg st λv h' tk hv st' kk=>?_
  obtain⟨t,rfl⟩:=hv;have I1:Inv X pins U H { s with heap:=h',toks:=tk }:=I.turned (λb o hb e=>kk b o (by simpa using hb) e) f0 f1 f3 f4 f5
  refine⟨_,rfl,z9 (s:={ s with heap:=h',toks:=tk }) (n:="range_iterator") st' rfl rfl (by decide) ⟨.int (lo+i),H,I1,⟨t,?_⟩,⟨rfl,rfl⟩,st',λb hb=>(hf b hb).1⟩⟩
  rw[Int.mul_one]
 done:=by
  intro X hP hw hK hc i pins s U H E I hf st hg;subst hP hw hK;obtain⟨f0,f1,f2,f3,f4,f5⟩:=hf it (by simp)
  exact wpAny_pyNext_range_end (I.ok.hd hc) st (by have:n<=i:=hg;lia) λh' eb=>⟨rfl,I.turned (t':=s.toks) (λb o hb e=>eb b o hb e) f0 f1 f3 f4 f5⟩
 self:=λ_ _ _ _ _ st h=>wpAny_pyIter_rangeiter st h
section
variable{X:Cx}{tg:Expr}
def uM{pins:Rt}{U:St}{H:Hp}{s:Shared}{R:It->Hp->Prop}{E:Ro}{lo hi:Int}{t u v:Tok}{tk:Nat}(I:Inv X pins U H s)(h1:-(2^62)<=lo)(h2:lo<2^62)(h3:-(2^62)<=hi)(h4:hi<2^62)(q:R (CA lo (hi-lo).toNat) H):wpAny (model X.prog X.w) X.A (pyIter (.ref s.heap.objs.size)) (Fy X pins U tg R) E { s with heap:=s.heap.push { cls:=.type "range",data:=.fields #[.int lo t,.int hi u,.int 1 v] },toks:=tk }:=by
 refine wpAny_pyIter_range (IsRange.new ..) (small_one h1 h2 h3 h4) ?_;have I1:Inv X pins U H { s with heap:=s.heap.push { cls:=.type "range",data:=.fields #[.int lo t,.int hi u,.int 1 v] },toks:=tk }:=I.kept λb o e=>O1 _ e;refine⟨(s.heap.push { cls:=.type "range",data:=.fields #[.int lo t,.int hi u,.int 1 v] }).objs.size,[(s.heap.push { cls:=.type "range",data:=.fields #[.int lo t,.int hi u,.int 1 v] }).objs.size],_,_,H,rfl,
  I1.kept (t':=tk) λb o e=>O1 _ e,Av _ lo (hi-lo).toNat,?_,λb hb=>?_,q⟩
 .have e1:lo+((0:Nat):Int)*1=lo:=by simp
  have e2:(((hi-lo).toNat:Nat):Int)-((0:Nat):Int)=Builtin.Range.rangeSize lo hi 1:=by rw[rangeSize_one];split<;>lia
  show IsRangeIter _ _ (lo+((0:Nat):Int)*1) ((((hi-lo).toNat:Nat):Int)-((0:Nat):Int)) 1;rw[e1,e2];exact OC _ rfl
 have e:b=(s.heap.push { cls:=.type "range",data:=.fields #[.int lo t,.int hi u,.int 1 v] }).objs.size:=by simpa using hb
 subst e;exact I1.nk (N5 _) (I1.hok.fresh (N5 _))
inductive Bq(R:(It->Hp->Prop))(vs:List V)(H1:Hp):Prop
 |mk:∀j:Int,(vs=[.int j])->(-(2^62)<=j)->(j<2^62)->(R (CA 0 j.toNat) H1)->Bq R vs H1
noncomputable def K0 (ta:TA):TI:=λU H R=>ta U H λvs H1=>Bq R vs H1
inductive AK(R:(It->Hp->Prop))(vs:List V)(H1:Hp):Prop
 |mk:∀i j:Int,(vs=[.int i,.int j])->((-(2^62)<=i/\i<2^62/\-(2^62)<=j/\j<2^62))->(R (CA i (j-i).toNat) H1)->AK R vs H1
noncomputable def K1 (ta:TA):TI:=λU H R=>ta U H λvs H1=>AK R vs H1
def Cv{a:Expr}{ta:TA}{p pos:Pos}(hg:Gl X "range")(hm:X.mg "range"=none)(ha:PA X [a] ta)(hs:starEach [a] X.env=[(false,eval a X.env)]:=by rfl):PI X tg (.Call (.Name "range" p) [a] [] pos) (K0 ta):=by
 intro pins s U H R I h;refine Call_ (jk I hg hm boot_range (Po (aQ (ha pos pins s U H _ I h) λus s1 ⟨vs,H1,I1,r1,q1⟩=>?_) hs rfl));obtain⟨j,e,q1,q2,q⟩:=q1;subst e;cases r1 with
 |cons r rr=>cases rr;obtain⟨t,rfl⟩:=r;exact call_range_1 (uM I1 (by lia) (by lia) q1 q2 (by simpa using q))
def Bs{a b:Expr}{ta:TA}{p pos:Pos}(hg:Gl X "range")(hm:X.mg "range"=none)(ha:PA X [a,b] ta)(hs:starEach [a,b] X.env=[(false,eval a X.env),(false,eval b X.env)]:=by rfl)(hs2:starEach [b] X.env=[(false,eval b X.env)]:=by rfl) : PI X tg (.Call (.Name "range" p) [a,b] [] pos) (K1 ta):=by
 intro pins s U H R I h;refine Call_ (jk I hg hm boot_range (Po (aQ (ha pos pins s U H _ I h) λus s1 ⟨vs,H1,I1,r1,q1⟩=>?_) (by rw[hs,hs2]) (by rw[hs2];rfl)));obtain⟨i,j,e,⟨q1,q2,q3,q4⟩,q⟩:=q1;subst e;cases r1 with
 |cons r rr=>
  cases rr with
  |cons r' rr=>cases rr;obtain⟨t,rfl⟩:=r;obtain⟨t',rfl⟩:=r';exact call_range_2 (uM I1 q1 q2 q3 q4 q)
noncomputable def My (wi:TI)(g:TG)(tb:TS):TS:=λD U H=>wi U H λJ H1=>∃W:Nat->Nat->St->Hp->Prop,(∃m,W 0 m U H1)/\∀i m U H,W i m U H->
 (J.stop i H/\D.nx U H)\/(J.go i H/\∃N:St->Hp->Prop,(∀σ' H',N σ' H'->∃m',m'<m/\W (i+1) m' σ' H')/\∀x H',J.pC i H x H'->g x U H' λσ2 H2=>tb { D with nx:=N,ct:=N,bk:=D.nx } σ2 H2)
noncomputable def j5 (fp:SH)(h:Heap):Rt:=fp.filterMap λb=>(h.get? b).map λo=>(b,o)
def jD{fp:SH}{h:Heap}{b:Addr}{o:Obj}(hb:b∈fp)(e:h.get? b=some o):(b,o)∈j5 fp h:=RB.mpr ⟨b,hb,by rw[e];rfl⟩
def sY{fp:SH}{h:Heap}{p:Addr×Obj}(hp:p∈j5 fp h):p.1∈fp/\h.get? p.1=some p.2:=by
 obtain⟨b,hb,e⟩:=RB.mp hp;cases q:h.get? b with
 |none=>rw[q]at e;cases e
 |some o=>rw[q]at e;have e':(b,o)=p:=Option.some.inj e;subst e';exact⟨hb,q⟩
def Inv.pinned{pins:Rt}{U:St}{H:Hp}{s:Shared}{fp:SH}(I:Inv X pins U H s)(hf:∀b∈fp,gu X pins H b)(ho:∀b∈fp,∃o,s.heap.get? b=some o/\∀v,o.data≠.cell v):Inv X (pins++j5 fp s.heap) U H s:=
 I.lK λp hp=>(O7.mp hp).elim (λz=>I.pin p (Og _ z)) λz=>by obtain⟨hb,e⟩:=sY z;obtain⟨f0,f1,f2,_⟩:=hf p.1 hb;obtain⟨o,e',d⟩:=ho p.1 hb;rw[e]at e';cases e';exact⟨e,f0,f1,f2,d⟩
def Inv.pY{pins pl:Rt}{U:St}{H:Hp}{s:Shared}(I:Inv X (pins++pl) U H s):Inv X pins U H s:=I.lK λp hp=>I.pin p (Og _ (List.mem_append_left _ hp))
def IV{iter:Expr}{body:SM}{wi:TI}{g:TG}{tb:TS}{pos:Pos}(hp:PassesOwn (model X.prog X.w) X.A X.env X.xe)(hc:X.calm=true)(hi:PI X tg iter wi)(hg:PG X tg g)(hb:m5 X body tb)(hs:∀x,foldedSetIterable iter X.env x=pure x:=by intro _;rfl):PS X (.For tg iter body [] pos) (My wi g tb):=by
 intro pins s U H D I h;refine wpAny_For (aQ (hi pins s U H _ I h) λv s1 h1=>aQ h1 λitv s2 h2=>?_) hs
 obtain⟨it,fp,tn,J,H2,e,I2,T,st2,f2,W,⟨m0,w0⟩,turn⟩:=h2;subst e
 -- what stays true of the iterator's objects through the loop
 have stat:∀{H':Hp},(∀b∈fp,H' b=none)->∀b∈fp,gu X pins H' b:=λhn b hb=>⟨hn b hb,(f2 b hb).2⟩
 refine codeAny_forLoop_any (λn s'=>∃i σ' H',Inv X pins σ' H' s'/\tn i s'.heap/\(∀b∈fp,H' b=none)/\W i n σ' H') ?_ m0 ⟨0,U,H2,I2,st2,λb hb=>(f2 b hb).1,w0⟩
 rintro n s3⟨i,σ3,H3,I3,st3,fr3,w3⟩;rcases turn i n σ3 H3 w3 with⟨stop,qn⟩|⟨go,N,hN,step⟩
 .refine PZ hp (aQ (T.done X rfl rfl rfl hc i pins s3 σ3 H3 X.xe I3 (stat fr3) st3 stop) λr s4 ⟨hr,I4⟩=>?_)
  subst hr;exact QT ⟨σ3,H3,I4,qn⟩
 .refine PZ hp (aQ (T.item X rfl rfl rfl hc i pins s3 σ3 H3 X.xe I3 (stat fr3) st3 go) λr s4 ⟨u,hr,h4⟩=>?_)
  subst hr;refine PZ hp (aQ h4 λ_ s5 ⟨x,H5,I5,r5,y5,st5,fr5⟩=>?_)
  have I5':=I5.pinned (stat fr5) (T.obj _ _ st5);refine PZ hp (aQ (hg _ s5 σ3 H5 x u _ I5' r5 (step x H5 y5)) λ_ s6 ⟨σ6,H6,I6,q6⟩=>?_)
  refine PZ hp (aQ (hb _ s6 σ6 H6 _ I6 q6) λf s7 q7=>?_)
  have again:∀{σ7:St}{H7:Hp},Inv X (pins++j5 fp s5.heap) σ7 H7 s7->N σ7 H7->∃m,m<n/\∃i σ' H',Inv X pins σ' H' s7/\tn i s7.heap/\(∀b∈fp,H' b=none)/\W i m σ' H':=λ{σ7 H7} I7 n7=>by
   obtain⟨m',hm,w7⟩:=hN σ7 H7 n7;refine⟨m',hm,i+1,σ7,H7,I7.pY,T.keep _ _ _ st5 λb hb o e=>(I7.pin (b,o) (Og _ (Og _ (jD hb e)))).1,λb hb=>?_,w7⟩
   obtain⟨o,e,d⟩:=T.obj _ _ st5 b hb;exact(I7.pin (b,o) (Og _ (Og _ (jD hb e)))).2.1
  cases f with
  |next=>obtain⟨σ7,H7,I7,n7⟩:=q7;exact again I7 n7
  |cont=>obtain⟨σ7,H7,I7,n7⟩:=q7;exact again I7 n7
  |brk=>obtain⟨σ7,H7,I7,q7⟩:=q7;exact⟨σ7,H7,I7.pY,q7⟩
  |ret v=>obtain⟨x7,σ7,H7,I7,r7,q7⟩:=q7;exact⟨x7,σ7,H7,I7.pY,r7,q7⟩
end
noncomputable abbrev R2:=V->V->Hp->VK->Prop
noncomputable def bA (X:Cx)(f:Value->Value->Sem Value)(r:R2):Prop:=
 ∀(pins:Rt)(s:Shared)(U:St)(H:Hp) (x y:V)(v u:Value)(Q:VK),Inv X pins U H s->RelV x v->RelV y u->r x y H Q->
  wpAny (model X.prog X.w) X.A (f v u) (EP X pins U Q) X.xe s
noncomputable def EZ (X:Cx)(f:Value->Sem Value)(r:V->Hp->VK->Prop):Prop:=
 ∀(pins:Rt)(s:Shared)(U:St)(H:Hp) (x:V)(v:Value)(Q:VK),Inv X pins U H s->RelV x v->r x H Q->
  wpAny (model X.prog X.w) X.A (f v) (EP X pins U Q) X.xe s
noncomputable def cJ (X:Cx)(f:Value)(r:List V->Hp->VK->Prop):Prop:=
 ∀(pins:Rt)(s:Shared)(U:St)(H:Hp)(xs:List V)(us:SG)(Q:VK),Inv X pins U H s->Vals xs us->r xs H Q->
  wpAny (model X.prog X.w) X.A (call f us) (EP X pins U Q) X.xe s
noncomputable def MQ (X:Cx)(r:V->Hp->(Bool->Hp->Prop)->Prop):Prop:=
 ∀(pins:Rt)(s:Shared)(U:St)(H:Hp) (x:V)(v:Value)(Q:Bool->Hp->Prop),Inv X pins U H s->RelV x v->r x H Q->
  wpAny (model X.prog X.w) X.A (truthy v) (TP X pins U Q) X.xe s
noncomputable def Jw (r:R2)(ta tb:TE):TE:=λU H Q=>ta U H λx H1=>tb U H1 λy H2=>r x y H2 Q
noncomputable def Np (r:V->Hp->VK->Prop)(ta:TE):TE:=λU H Q=>ta U H λx H1=>r x H1 Q
inductive Ml(C:Int->Int->Prop)(g:Int->Int->V) (x:V) (y:V)(H:Hp)(Q:VK):Prop
 |mk:∀i j,(x=.int i)->(y=.int j)->(C i j)->(Q (g i j) H)->Ml C g x y H Q
noncomputable def rI (C:Int->Int->Prop)(g:Int->Int->V):R2:=λx y H Q=>Ml C g x y H Q
inductive JT(g:Int->Int->V) (x:V) (y:V)(H:Hp)(Q:VK):Prop
 |mk:∀i j,(x=.int i)->(y=.int j)->(Q (g i j) H)->JT g x y H Q
noncomputable def mU (g:Int->Int->V):R2:=λx y H Q=>JT g x y H Q
inductive Mb(g:Int->V) (x:V)(H:Hp)(Q:VK):Prop
 |mk:∀i,(x=.int i)->(Q (g i) H)->Mb g x H Q
noncomputable def rU (g:Int->V):V->Hp->VK->Prop:=λx H Q=>Mb g x H Q
section
variable{X:Cx}{a b c:Expr}{ta tb tc:TE}{pos:Pos}
def CY(ha:PE X a ta)(hb:PE X b tb){pins:Rt}{s:Shared}{U:St}{H:Hp}{R:V->V->Hp->Prop}(I:Inv X pins U H s)(h:ta U H λx H1=>tb U H1 λy H2=>R x y H2){Q:Ro}{f:Value->Value->Sem Value}(hf:∀v u s2 x y H2,Inv X pins U H2 s2->RelV x v->RelV y u->R x y H2->wpAny (model X.prog X.w) X.A (f v u) Q X.xe s2) : wpAny (model X.prog X.w) X.A (eval a X.env) (λv s₁=>wpAny (model X.prog X.w) X.A (eval b X.env) (λu s₂=>wpAny (model X.prog X.w) X.A (f v u) Q X.xe s₂) X.xe s₁) X.xe s:=by refine aQ (ha pins s U H _ I h) λv s1 ⟨x,H1,I1,r1,q1⟩=>?_;refine aQ (hb pins s1 U H1 _ I1 q1) λu s2 ⟨y,H2,I2,r2,q2⟩=>?_;exact hf v u s2 x y H2 I2 r1 r2 q2
def K9{op:Operator}{r:R2}(ho:bA X (binaryOp op) r)(ha:PE X a ta)(hb:PE X b tb):PE X (.BinOp a op b pos) (Jw r ta tb):=by intro pins s U H Q I h;exact wpAny_BinOp (CY ha hb I h λv u s2 x y H2 I2 rx ry q=>ho pins s2 U H2 x y v u Q I2 rx ry q)
def KL{op:UnaryOp}{r:V->Hp->VK->Prop}(ho:EZ X (unaryOp op) r)(ha:PE X a ta):PE X (.UnaryOp op a pos) (Np r ta):=by intro pins s U H Q I h;exact UnaryOp_ (aQ (ha pins s U H _ I h) λv s1 ⟨x,H1,I1,r1,q1⟩=>ho pins s1 U H1 x v Q I1 r1 q1)
def x6{f:Value->Value->Sem Value}{C:Int->Int->Prop}{g:Int->Int->Int}(rule:∀(i j:Int)(t u:Tok)(s:Shared)(Q:Ro)(E:Ro),C i j->Q (.int (g i j) s.toks) { s with toks:=s.toks+1 }->wpAny (model X.prog X.w) X.A (f (.int i t) (.int j u)) Q E s) : bA X f (rI C λi j=>.int (g i j)):=by intro pins s U H x y v u Q I rx ry h;obtain⟨i,j,rfl,rfl,hc,q⟩:=h;obtain⟨t,rfl⟩:=rx;obtain⟨t',rfl⟩:=ry;exact rule i j t t' s _ _ hc ⟨.int (g i j),H,I.tok _,⟨_,rfl⟩,q⟩
def Ij{f:Value->Value->Sem Value}{g:Int->Int->Int}(rule:∀(i j:Int)(t u:Tok)(s:Shared)(Q:Ro)(E:Ro),Q (.int (g i j) s.toks) { s with toks:=s.toks+1 }->wpAny (model X.prog X.w) X.A (f (.int i t) (.int j u)) Q E s) : bA X f (mU λi j=>.int (g i j)):=by intro pins s U H x y v u Q I rx ry h;obtain⟨i,j,rfl,rfl,q⟩:=h;obtain⟨t,rfl⟩:=rx;obtain⟨t',rfl⟩:=ry;exact rule i j t t' s _ _ ⟨.int (g i j),H,I.tok _,⟨_,rfl⟩,q⟩
def zW{f:Value->Value->Sem Value}{g:Ru}(rule:∀(i j:Int)(t u:Tok)(s:Shared)(Q:Ro)(E:Ro),Q (.bool (g i j)) s->wpAny (model X.prog X.w) X.A (f (.int i t) (.int j u)) Q E s) : bA X f (mU λi j=>.bl (g i j)):=by intro pins s U H x y v u Q I rx ry h;obtain⟨i,j,rfl,rfl,q⟩:=h;obtain⟨t,rfl⟩:=rx;obtain⟨t',rfl⟩:=ry;exact rule i j t t' s _ _ ⟨.bl (g i j),H,I,rfl,q⟩
noncomputable def vz (i j:Int):Prop:=0<=j/\j<=1000000/\i.natAbs<2^64
noncomputable def sC (i j:Int):Prop:=(-(2^64)<i/\i<2^64)\/(-(2^64)<j/\j<2^64)
def sC.ok{i j:Int}(h:sC i j):IntMulOk i j:=by rcases h with⟨h1,h2⟩|⟨h1,h2⟩;{exact .of_left (intBits_le_64 h1 h2)};exact .of_right (intBits_le_64 h1 h2)
def JS:bA X (binaryOp .Add) (mU λi j=>.int (i+j)):=Ij λ_ _ _ _ _ _ _ q=>add_int q
def JD:bA X (binaryOp .Sub) (mU λi j=>.int (i-j)):=Ij λ_ _ _ _ _ _ _ q=>sub_int q
def Kp:bA X (binaryOp .Mult) (rI sC λi j=>.int (i*j)):=x6 λ_ _ _ _ _ _ _ hc q=>mul_int q hc.ok
def Jo:bA X (binaryOp .Mod) (rI (λ_ j=>0<j) λi j=>.int (i%j)):=x6 λi j _ _ _ _ _ hc q=>by have h1:(0:Int)<j:=hc;exact mod_int' (by lia) (by rw[Int.fmod_eq_emod_of_nonneg i (by lia)];exact q)
def IS:bA X (binaryOp .Pow) (rI vz λi j=>.int (i^j.toNat)):=x6 λ_ _ _ _ _ _ _ hc q=>pow_int_small hc.1 hc.2.1 hc.2.2 q
def M9{f:Value->Sem Value}{g:Int->Int}(rule:∀(i:Int)(t:Tok)(s:Shared)(Q:Ro)(E:Ro),Q (.int (g i) s.toks) { s with toks:=s.toks+1 }->wpAny (model X.prog X.w) X.A (f (.int i t)) Q E s) : EZ X f (rU λi=>.int (g i)):=by intro pins s U H x v Q I rx h;obtain⟨i,rfl,q⟩:=h;obtain⟨t,rfl⟩:=rx;exact rule i t s _ _ ⟨.int (g i),H,I.tok _,⟨_,rfl⟩,q⟩
def HJ:EZ X (unaryOp .USub) (rU λi=>.int (-i)):=M9 λ_ _ _ _ _ q=>neg_int q
end
noncomputable def DV:V->V->Bool
 |.bq,.bq=>true | .bq,.int _=>true | .int _,.bq=>true | .bq,.bl _=>true | .bl _,.bq=>true | .bq,.str _=>true | .str _,.bq=>true
 |.int _,.int _=>true | .bl _,.bl _=>true | .str _,.str _=>true | .lE _,.lE _=>true
 |.int _,.str _=>true | .str _,.int _=>true | .bl _,.str _=>true | .str _,.bl _=>true
 |_,_=>false
noncomputable def L5:R2:=λx y H Q=>DV x y=true/\Q (.bl (decide (x=y))) H
noncomputable def Mh:R2:=λx y H Q=>DV x y=true/\Q (.bl (!decide (x=y))) H
def yH{i j:Int}:decide (V.int i=V.int j)=(i==j):=by rw[Ov];simp
def BB{i j:Bool}:decide (V.bl i=V.bl j)=(i==j):=by rw[Ov];simp
def yq{i j:Str}:decide (V.str i=V.str j)=(i==j):=by rw[Ov];simp
def xP{i j:Array UInt8}:decide (V.lE i=V.lE j)=(i.toList==j.toList):=by rw[Ov];cases i;cases j;simp
section
variable{X:Cx}{a b c:Expr}{ta tb tc:TE}{pos:Pos}
def bf{pins:Rt}{U:St}{H:Hp}{s:Shared}{Q:VK}{k k':Bool}(I:Inv X pins U H s)(q:Q (.bl k) H)(e:k=k'):EP X pins U Q (.bool k') s:=by subst e;exact⟨.bl k,H,I,rfl,q⟩
def LQ:bA X (compareOp .Eq) L5:=by
 intro pins s U H x y v u Q I rx ry h;obtain⟨hs,q⟩:=h;cases x with
 |bq=>
  cases rx;cases y with
  |bq=>cases ry;exact PySem.EqNone.eq_none_none (bf I q (by simp))
  |bl j=>cases ry;exact PySem.EqNone.eq_none_bool (bf I q (by simp))
  |int j=>obtain⟨t',rfl⟩:=ry;exact PySem.EqNone.eq_none_int (bf I q (by simp))
  |str j=>obtain⟨t',rfl⟩:=ry;exact PySem.EqNone.eq_none_str (bf I q (by simp))
  |_=>exact absurd (show false=true from hs) O9
 |bl i=>
  cases rx;cases y with
  |bq=>cases ry;exact PySem.EqNone.eq_bool_none (bf I q (by simp))
  |bl j=>cases ry;exact eq_bool (bf I q BB)
  |str j=>obtain⟨t',rfl⟩:=ry;exact PySem.EqMixed.eq_bool_str (bf I q (by simp))
  |_=>exact absurd (show false=true from hs) O9
 |int i=>
  obtain⟨t,rfl⟩:=rx;cases y with
  |bq=>cases ry;exact PySem.EqNone.eq_int_none (bf I q (by simp))
  |int j=>obtain⟨t',rfl⟩:=ry;exact eq_int (bf I q yH)
  |str j=>obtain⟨t',rfl⟩:=ry;exact PySem.EqMixed.eq_int_str (bf I q (by simp))
  |_=>exact absurd (show false=true from hs) O9
 |str i=>
  obtain⟨t,rfl⟩:=rx;cases y with
  |bq=>cases ry;exact PySem.EqNone.eq_str_none (bf I q (by simp))
  |bl j=>cases ry;exact PySem.EqMixed.eq_str_bool (bf I q (by simp))
  |int j=>obtain⟨t',rfl⟩:=ry;exact PySem.EqMixed.eq_str_int (bf I q (by simp))
  |str j=>obtain⟨t',rfl⟩:=ry;exact eq_str (bf I q yq)
  |_=>exact absurd (show false=true from hs) O9
 |lE i=>
  obtain⟨t,rfl⟩:=rx;cases y with
  |lE j=>obtain⟨t',rfl⟩:=ry;exact PySem.W.eq_bytes (bf I q xP)
  |_=>exact absurd (show false=true from hs) O9
 |_=>cases y<;>exact absurd (show false=true from hs) O9
def LF:bA X (compareOp .NotEq) Mh:=by
 intro pins s U H x y v u Q I rx ry h;obtain⟨hs,q⟩:=h;cases x with
 |bq=>
  cases rx;cases y with
  |bq=>cases ry;exact PySem.EqNone.ne_none_none (bf I q (by simp))
  |bl j=>cases ry;exact PySem.EqNone.ne_none_bool (bf I q (by simp))
  |int j=>obtain⟨t',rfl⟩:=ry;exact PySem.EqNone.ne_none_int (bf I q (by simp))
  |str j=>obtain⟨t',rfl⟩:=ry;exact PySem.EqNone.ne_none_str (bf I q (by simp))
  |_=>exact absurd (show false=true from hs) O9
 |bl i=>
  cases rx;cases y with
  |bq=>cases ry;exact PySem.EqNone.ne_bool_none (bf I q (by simp))
  |bl j=>cases ry;exact ne_bool (bf I q (congrArg not BB))
  |str j=>obtain⟨t',rfl⟩:=ry;exact PySem.EqMixed.ne_bool_str (bf I q (by simp))
  |_=>exact absurd (show false=true from hs) O9
 |int i=>
  obtain⟨t,rfl⟩:=rx;cases y with
  |bq=>cases ry;exact PySem.EqNone.ne_int_none (bf I q (by simp))
  |int j=>obtain⟨t',rfl⟩:=ry;exact ne_int (bf I q (congrArg not yH))
  |str j=>obtain⟨t',rfl⟩:=ry;exact PySem.EqMixed.ne_int_str (bf I q (by simp))
  |_=>exact absurd (show false=true from hs) O9
 |str i=>
  obtain⟨t,rfl⟩:=rx;cases y with
  |bq=>cases ry;exact PySem.EqNone.ne_str_none (bf I q (by simp))
  |bl j=>cases ry;exact PySem.EqMixed.ne_str_bool (bf I q (by simp))
  |int j=>obtain⟨t',rfl⟩:=ry;exact PySem.EqMixed.ne_str_int (bf I q (by simp))
  |str j=>obtain⟨t',rfl⟩:=ry;exact ne_str (bf I q (congrArg not yq))
  |_=>exact absurd (show false=true from hs) O9
 |lE i=>
  obtain⟨t,rfl⟩:=rx;cases y with
  |lE j=>obtain⟨t',rfl⟩:=ry;exact PySem.W.ne_bytes (bf I q (congrArg not xP))
  |_=>exact absurd (show false=true from hs) O9
 |_=>cases y<;>exact absurd (show false=true from hs) O9
def Af:bA X (compareOp .Lt) (mU λi j=>.bl (decide (i<j))):=zW λ_ _ _ _ _ _ _ q=>lt_int q
def K8:bA X (compareOp .LtE) (mU λi j=>.bl (decide (i<=j))):=zW λ_ _ _ _ _ _ _ q=>le_int q
def LH:bA X (compareOp .Gt) (mU λi j=>.bl (decide (j<i))):=zW λ_ _ _ _ _ _ _ q=>gt_int q
def KW:bA X (compareOp .GtE) (mU λi j=>.bl (decide (j<=i))):=zW λ_ _ _ _ _ _ _ q=>ge_int q
def IY:bA X (compareOp .Is) (λx y H Q=>y=.bq/\Q (.bl (decide (x=.bq))) H):=by
 intro pins s U H x y v u Q I rx ry h;obtain⟨rfl,q⟩:=h;cases ry;refine is_none_gen (bf I q ?_);cases x<;>first
  | (cases rx;rfl)
  | (obtain⟨t,rfl⟩:=rx;rfl)
def bA.or{f:Value->Value->Sem Value}{r r':R2}(h:bA X f r)(h':bA X f r'):bA X f (λx y H Q=>r x y H Q\/r' x y H Q):=by intro pins s U H x y v u Q I rx ry q;rcases q with q|q;{exact h pins s U H x y v u Q I rx ry q};exact h' pins s U H x y v u Q I rx ry q
def ff(b:Expr){op:CmpOp}(h:op≠.In:=by decide)(h2:op≠.NotIn:=by decide):behindInMarks op b=false:=by
 have e1:(op==CmpOp.In)=false:=by cases op<;>first|rfl|exact absurd rfl h
 have e2:(op==CmpOp.NotIn)=false:=by cases op<;>first|rfl|exact absurd rfl h2
 cases b<;>simp[behindInMarks,e1,e2]
def G7{op:CmpOp}{r:R2}(ho:bA X (compareOp op) r)(ha:PE X a ta)(hb:PE X b tb)(hm:behindInMarks op b=false):PE X (.Compare a [op] [b] pos) (Jw r ta tb):=by intro pins s U H Q I h;exact wpAny_Compare1 (CY ha hb I h λv u s2 x y H2 I2 rx ry q=>ho pins s2 U H2 x y v u Q I2 rx ry q) hm
inductive BV(Q:(Bool->Hp->Prop)) (x:V)(H':Hp):Prop
 |mk:∀k,(x=.bl k)->(Q k H')->BV Q x H'
noncomputable def Lu (t:TE):TT:=λU H Q=>t U H λx H'=>BV Q x H'
noncomputable def Io (r r':R2)(ta tb tc:TE):TE:=λU H Q=>ta U H λx H1=>tb U H1 λy H2=>r x y H2 λz H3=>∃k,z=.bl k /\
 (if k=true then tc U H3 λw' H4=>r' y w' H4 Q else Q (.bl false) H3)
def DB{op op':CmpOp}{r r':R2}(ho:bA X (compareOp op) r)(ho':bA X (compareOp op') r')(ha:PE X a ta)(hb:PE X b tb)(hc:PE X c tc)(hm:lastMarks [op,op'] [b,c]=false:=by with_unfolding_all rfl):PT X (.Compare a [op,op'] [b,c] pos) (Lu (Io r r' ta tb tc)):=by
 intro pins s U H Q I h;refine isTrue_chain (aQ (ha pins s U H _ I h) λv s1 ⟨x,H1,I1,r1,q1⟩=>test_link (aQ (hb pins s1 U H1 _ I1 q1) λu s2 ⟨y,H2,I2,r2,q2⟩=>
  aQ (ho pins s2 U H2 x y v u _ I2 r1 r2 q2) λd s3 ⟨z,H3,I3,r3,k,e,q3⟩=>?_)) hm
 subst e;cases r3;refine Pn ?_;cases k with
 |false=>obtain⟨k',e',q'⟩:=q3;cases e';exact ite_ff ⟨H3,I3,q'⟩
 |true=>refine ite_tt (test_last (aQ (hc pins s3 U H3 _ I3 q3) λw' s4 ⟨z',H4,I4,r4,q4⟩=>aQ (ho' pins s4 U H4 y z' u w' _ I4 r2 r4 q4) λd' s5 ⟨z2,H5,I5,r5,k2,e2,q5⟩=>?_));subst e2;cases r5;exact Pn ⟨H5,I5,q5⟩
noncomputable def rL (K:Rx) (x:V)(H:Hp)(k:Bool):Prop:=
 match x with
 |.bq=>k=false
 |.bl b=>k=b
 |.int i=>k=(i != 0)
 |.str y=>y.length<=sizeLine/\k=((y.length:Int) != 0)
 |.lE y=>y.size<=sizeLine/\k=((y.size:Int) != 0)
 |.ref p=>(∃xs,bX K H p xs/\k=!xs.isEmpty)\/(∃xs,aU K H p xs/\k=!xs.isEmpty)\/∃kvs,H p=some (.dK kvs)/\k=!kvs.isEmpty
 |_=>False
def zX{κ:Type}{kvs:List (κ×V)}{vs:List (κ×Value)}(r:KV kvs vs):(!vs.isEmpty)=!kvs.isEmpty:=by cases r<;>rfl
def q8{xs:List V}{its:SG}(r:Vals xs its):(!its.toArray.isEmpty)=!xs.isEmpty:=by cases r<;>simp
def lQ:(sizeLine:Nat)<2^63:=by rw[sizeLine_eq];decide
def Ci:MQ X (λx H Q=>∃k,rL X.K x H k/\Q k H):=by
 intro pins s U H x v Q I rx h;obtain⟨k,e,q⟩:=h;have hl:=lQ;have hs:sizeLine=16777216:=sizeLine_eq;cases x with
 |bq=>cases rx;have e':k=false:=e;subst e';exact truthy_none ⟨H,I,q⟩
 |bl b=>cases rx;have e':k=b:=e;subst e';exact Pn ⟨H,I,q⟩
 |int i=>obtain⟨t,rfl⟩:=rx;have e':k=(i != 0):=e;subst e';exact PySem.P.truthy_int ⟨H,I,q⟩
 |str y=>obtain⟨t,rfl⟩:=rx;obtain⟨hy,e'⟩:y.length<=sizeLine/\k=((y.length:Int) != 0):=e;subst e';exact PySem.P.truthy_str (by lia) ⟨H,I.tok _,q⟩
 |lE y=>obtain⟨t,rfl⟩:=rx;obtain⟨hy,e'⟩:y.size<=sizeLine/\k=((y.size:Int) != 0):=e;subst e';exact PySem.W.truthy_bytes (by lia) ⟨H,I.tok _,q⟩
 |ref p=>cases rx;have e':(∃xs,bX X.K H p xs/\k=!xs.isEmpty)\/(∃xs,aU X.K H p xs/\k=!xs.isEmpty)\/∃kvs,H p=some (.dK kvs)/\k=!kvs.isEmpty:=e;rcases e' with⟨xs,hx,e'⟩|⟨xs,hx,e'⟩|⟨kvs,hx,e'⟩;{subst e';obtain⟨its,r,pl,hz⟩:=I.list hx;have hlen:=r.length;exact wpAny_truthy_list pl.isList (by simp only[O0];lia) ⟨H,I.tok _,by rw[q8 r];exact q⟩};{subst e';obtain⟨its,r,pl,hz⟩:=I.tuple hx;have hlen:=r.length;exact truthy_tuple pl (by simp only[O0];lia) ⟨H,I.tok _,by rw[q8 r];exact q⟩};subst e';obtain⟨hz,hS,vs,r,m⟩:kvs.length<=sizeLine/\(p==sysModules)=false/\∃vs,KV kvs vs/\s.heap.DictOf (cS X.prog X.w) p vs:=I.hok p _ hx;have hlen:kvs.length=vs.length:=Paired.length r;exact wpAny_truthy_dict hS m (by lia) ⟨H,I.tok _,by rw[zX r];exact q⟩
 |_=>exact(show False from e).elim
def vd(ha:PE X a ta)(he:∀whole,isTrue a X.env whole=(do let v <-whole;standAt a.pos;holding [v] (truthy v))) :
  PT X a (λU H Q=>ta U H λx H'=>∃k,rL X.K x H' k/\Q k H'):=by
 intro pins s U H Q I h;exact isTrue_plain (aQ (ha pins s U H _ I h) λv s1 ⟨x,H1,I1,r1,q1⟩=>Ci pins s1 U H1 x v Q I1 r1 q1) (he _)
def zp:bA X (binaryOp .Add) (λx y H Q=>∃i j,x=.str i/\y=.str j/\i.length+j.length<=sizeLine/\Q (.str (i++j)) H):=by intro pins s U H x y v u Q I rx ry h;obtain⟨i,j,rfl,rfl,hz,q⟩:=h;obtain⟨t,rfl⟩:=rx;obtain⟨t',rfl⟩:=ry;exact add_str (λt' tk=>⟨.str (i++j),H,I.tok _,⟨_,rfl⟩,q⟩) hz
def vals1{x:V}{us:SG}(r:Vals [x] us):∃u,us=[u]/\RelV x u:=by
 cases r with
 |cons r1 r2=>cases r2;exact⟨_,rfl,r1⟩
def vals2{x y:V}{us:SG}(r:Vals [x,y] us):∃u w',us=[u,w']/\RelV x u/\RelV y w':=by
 cases r with
 |cons r1 r2=>
  cases r2 with
  |cons r3 r4=>cases r4;exact⟨_,_,rfl,r1,r3⟩
def Ck(hc:X.calm=true):cJ X (.builtin "min") (λxs H Q=>∃i j,xs=[.int i,.int j]/\Q (.int (if j<i then j else i)) H):=by intro pins s U H xs us Q I r h;obtain⟨i,j,rfl,q⟩:=h;obtain⟨u,w',rfl,⟨t,rfl⟩,⟨t',rfl⟩⟩:=vals2 r;refine min_two_ints (I.ok.hd hc) λh' tk k=>⟨_,H,I.kept k,?_,q⟩;by_cases hj:j<i;{rw[if_pos hj,if_pos hj];exact⟨_,rfl⟩};rw[if_neg hj,if_neg hj];exact⟨_,rfl⟩
def A8:cJ X (.type "int") (λxs H Q=>(∃i,xs=[.int i]/\Q (.int i) H)\/∃k,xs=[.bl k]/\Q (.int (if k then 1 else 0)) H):=by intro pins s U H xs us Q I r h;rcases h with⟨i,rfl,q⟩|⟨k,rfl,q⟩;{obtain⟨u,rfl,t,rfl⟩:=vals1 r;exact call_int_int ⟨.int i,H,I,⟨_,rfl⟩,q⟩};obtain⟨u,rfl,r1⟩:=vals1 r;cases r1;exact call_int_bool ⟨.int (if k then 1 else 0),H,I.tok _,⟨_,rfl⟩,q⟩
end
structure CZ(h:Heap)(x dx C:Addr)(mA:Rr):Prop where
 obj:h.get? x=some (PySem.W.instObj C dx)
 ns:h.Ns1 dx mA
 ne:dx≠x
def Ba{h:Heap}{dx:Addr}{mA:Rr}(n:h.Ns1 dx mA):∃od,h.get? dx=some od/\∀name,PySem.W.lookIn name od=some (mA name):=by
 obtain⟨o,es,ep,ho,hd,hk,_,hm⟩:=n;refine⟨o,ho,λname=>?_⟩;have e:=hm name;unfold nsFind findBy at e;rw[<-RC]at e;unfold PySem.W.lookIn;rw[hd];dsimp only;split;{rename_i y q;rw[q]at e;exact congrArg some e};rename_i q;rw[q]at e;have a:es.toList.any (·.refKey)=false:=by rw[List.any_eq_false];intro y hy;obtain⟨z,t,hkey⟩:=hk y (Array.mem_toList_iff.mp hy);simp[DictEntry.refKey,hkey]
 have a':¬es.toList.any (·.refKey)=true:=by rw[a];exact O9
 rw[if_neg a'];exact congrArg some e
def CZ.look{h:Heap}{x dx C:Addr}{mA:Rr}(I:CZ h x dx C mA):∃od,PySem.W.InstAt h x (PySem.W.instObj C dx) C (some od)/\∀name,PySem.W.lookIn name od=some (mA name):=
 let⟨od,ho,hl⟩:=Ba I.ns
 ⟨od,⟨I.obj,rfl,rfl,ho⟩,hl⟩
def kE.some_of{v:V}{o:Ry}(r:kE (some v) o):∃u,o=some u/\RelV v u:=by
 cases o with
 |none=>exact(show False from r).elim
 |some u=>exact⟨u,rfl,r⟩
section
variable{P:Program}{w:World}{H H':Hp}{h h':Heap}{a C dx:Addr}{fs fs':List (Str×V)}
def FN(hok:cX P w H h)(e:H a=some (.ins C dx fs)):∃mA,CZ h a dx C mA/\(∀f,kE (fs.lookup f) (mA f))/\PySem.Within mA (fs.map (·.1))/\fs.length<=1000/\H dx=some (.own a):=by obtain⟨d,z,ne,ob,mA,n,r,q⟩:=(show bP P w H h a (.ins C dx fs)from hok a _ e);exact⟨mA,⟨ob,n,ne⟩,r,q,z,d⟩
end
structure Ie(K:Rx)(C:Addr):Prop where
 pg:PySem.W.plainGet K C Str.empty=true
 hd:PySem.W.hasDictIn K C=true
 po:PySem.W.plainOver K C=true
 sa:PySem.W.findIn K (.ref C) "__setattr__"=some (some (.builtin "object.__setattr__"))
def Ie.get{K:Rx}{C:Addr}(c:Ie K C) (f:Str):PySem.W.plainGet K C f=true:=c.pg
section
variable{X:Cx}{pins:Rt}{U:St}{H:Hp}{s:Shared}{A:Around}{E:Ro}{Q:Ro}{c:Value}{b:Bool}
inductive f6(K:Rx)(H:Hp):V->Value->Prop where
 |bq:f6 K H .bq (.type "NoneType")
 |bl (x:Bool):f6 K H (.bl x) (.type "bool")
 |int (i:Int):f6 K H (.int i) (.type "int")
 |str (x:Str):f6 K H (.str x) (.type "str")
 |yF (x:UInt64):f6 K H (.yF x) (.type "float")
 |lst {a:Addr}{xs:List V}(e:H a=some (.lst xs)):f6 K H (.ref a) (.type "list")
 |dZ {a:Addr}{o:Obj}{xs:List V}(e:H a=some (.dZ o (.lst xs))):f6 K H (.ref a) (.type "list")
 |kl {a:Addr}{its:Rz}{n:Nat}(e:K.lookup a=some { cls:=.type "list",data:=.seq its n }):f6 K H (.ref a) (.type "list")
 |tup {a:Addr}{xs:List V}(e:H a=some (.tup xs)):f6 K H (.ref a) (.type "tuple")
 |dK {a:Addr}{kvs:List (Key×V)}(e:H a=some (.dK kvs)):f6 K H (.ref a) (.type "dict")
 |dT {a:Addr}{kvs:List (List Key×V)}(e:H a=some (.dT kvs)):f6 K H (.ref a) (.type "dict")
 |ins {a C dx:Addr}{fs:List (Str×V)}(e:H a=some (.ins C dx fs))(cl:Ie K C)(ha:PySem.W.findIn K (.ref C) "__class__"=some (some (.builtin "object.__class__")))
   (hn:PySem.W.specialIn K (.builtin "object.__class__") "__get__"=some (some (.builtin "getset_descriptor.__get__")))(htk:PySem.W.takesIn K (.builtin "object.__class__")=some true)
   (hm:PySem.W.mroIn K C (.type "object")=some true):f6 K H (.ref a) (.ref C)
def CN{x:V}{u t:Value}(I:Inv X pins U H s)(rx:RelV x u)(ty:f6 X.K H x t)(e:PySem.W.kitOne X.K t c=some b)(h:∀tk,Q (.bool b) { s with toks:=tk }) : wpAny (model X.prog X.w) A (call (.builtin "isinstance") [u,c]) Q E s:=by
 cases ty with
 |bq=>cases (show u=Value.none from rx);exact Oh PySem.W.kitx_none I.gK P8 e (λz=>nomatch z) h
 |bl y=>cases (show u=Value.bool y from rx);exact Oh PySem.W.kitx_bool I.gK P8 e (λz=>nomatch z) h
 |int i=>obtain⟨t,q⟩:=(show ∃t,u=Value.int i t from rx);cases q;exact Oh PySem.W.kitx_int I.gK P8 e (λz=>nomatch z) h
 |str y=>obtain⟨t,q⟩:=(show ∃t,u=Value.str y t from rx);cases q;exact Oh PySem.W.kitx_str I.gK P8 e (λz=>nomatch z) h
 |yF y=>obtain⟨t,q⟩:=(show ∃t,u=Value.float y t from rx);cases q;exact Oh PySem.W.kitx_float I.gK P8 e (λz=>nomatch z) h
 |@lst a xs ea=>cases (show u=Value.ref a from rx);obtain⟨_,_,n,_,h1⟩:=(show bP X.prog X.w H s.heap a (.lst xs)from I.hok a _ ea);exact Oh RD I.gK ⟨_,h1,rfl⟩ e (λz=>nomatch z) h
 |@dZ a ob xs ea=>cases (show u=Value.ref a from rx);obtain⟨_,_,_,n,_,h1⟩:=(show bP X.prog X.w H s.heap a (.dZ ob (.lst xs))from I.hok a _ ea);exact Oh RD I.gK ⟨_,h1,rfl⟩ e (λz=>nomatch z) h
 |@kl a its n ea=>cases (show u=Value.ref a from rx);exact Oh RD I.gK ⟨_,I.gK a _ ea,rfl⟩ e (λz=>nomatch z) h
 |@tup a xs ea=>cases (show u=Value.ref a from rx);obtain⟨_,_,_,p⟩:=(show bP X.prog X.w H s.heap a (.tup xs)from I.hok a _ ea);obtain⟨o,h1,h2,_⟩:=p;exact Oh PySem.W.kitx_tuple I.gK ⟨o,h1,h2⟩ e (λz=>nomatch z) h
 |@dK a kvs ea=>cases (show u=Value.ref a from rx);obtain⟨_,_,vs,_,p⟩:=(show bP X.prog X.w H s.heap a (.dK kvs)from I.hok a _ ea);obtain⟨o,es,ep,h1,h2,_⟩:=p;exact Oh PySem.W.kitx_dict I.gK ⟨o,h1,h2.1⟩ e (λz=>nomatch z) h
 |@dT a kvs ea=>cases (show u=Value.ref a from rx);obtain⟨_,_,xs,_,o,es,ep,h1,h2,_⟩:=(show bP X.prog X.w H s.heap a (.dT kvs)from I.hok a _ ea);exact Oh PySem.W.kitx_dict I.gK ⟨o,h1,h2.1⟩ e (λz=>nomatch z) h
 |@ins a C dx fs ea cl ha hn htk hm=>cases (show u=Value.ref a from rx);obtain⟨mA,O,_⟩:=FN I.hok ea;obtain⟨od,J,_⟩:=O.look;exact Oh (PySem.W.kitx_own (cl.get _) cl.hd ha hn htk hm) I.gK J e (λz=>nomatch z) h
end
structure dD(k:Nat)(A:Around):Prop where
 hd:A.handled=none
 dp:A.depth+3*k+5<recursionLimit
 un:A.units+16*k+200<cLine
def dD.mono{j k:Nat}{A:Around}(r:dD k A)(h:j<=k):dD j A:=⟨r.hd,by have:=r.dp;lia,by have:=r.un;lia⟩
theorem dD.deeper{k:Nat}{A:Around}(r:dD (k+1) A)(env:Env):dD k (A.deeper env):=
 ⟨r.hd,by have:=r.dp;show A.depth+1+3*k+5<_;lia,by have:=r.un;show A.units+3+16*k+200<_;lia⟩
theorem dD.depth{k:Nat}{A:Around}(r:dD k A):A.depth<recursionLimit:=by have:=r.dp;lia
theorem dD.units{k:Nat}{A:Around}(r:dD k A):A.units+64<cLine:=by have:=r.un;lia
noncomputable def MI:TA:=λ_ H Q=>Q [] H
noncomputable def Ky (ta:TE)(tr:TA):TA:=λU H Q=>ta U H λx H1=>tr U H1 λxs H2=>Q (x::xs) H2
section
variable{X:Cx}{e:Expr}{es:SK}{te:TE}{t:TA}{pos:Pos}
def nW:PA X [] MI:=λ_ _ _ _ H Q I h=>Calls.spliced_nil ⟨[],H,I,.nil,h⟩
def jK(ha:PE X e te)(hr:PA X es t)(hs:starEach (e::es) X.env=(false,eval e X.env)::starEach es X.env:=by rfl):PA X (e::es) (Ky te t):=by intro pos pins s U H Q I h;rw[hs];show wpAny _ _ (spliced ((false,eval e X.env)::backTo pos (starEach es X.env))) _ _ s;refine Calls.spliced_cons (aQ (ha pins s U H _ I h) λu s1 ⟨x,H1,I1,r1,q1⟩=>?_);exact aQ (hr pos pins s1 U H1 _ I1 q1) λus s2 ⟨xs,H2,I2,r2,q2⟩=>⟨x::xs,H2,I2,.cons r1 r2,q2⟩
noncomputable def MA (t:TA):TE:=λU H Q=>t U H λxs H1=>xs.length<=sizeLine/\∀p,H1 p=none->Q (.ref p) (upd H1 p (.tup xs))
noncomputable def MS (t:TA):TE:=λU H Q=>t U H λxs H1=>xs.length<=sizeLine/\∀p,H1 p=none->Q (.ref p) (upd H1 p (.lst xs))
def Jv{x1}(h:PA X es t):PE X (.Tuple es x1 pos) (MA t):=by intro pins s U H Q I hq;refine wpAny_Tuple_spliced (aQ (h pos pins s U H _ I hq) λus s1 ⟨xs,H1,I1,r,z,q⟩=>⟨by rw[<-r.length];exact z,?_⟩);have hf:H1 s1.heap.objs.size=none:=I1.hok.fresh (N5 _);refine⟨.ref s1.heap.objs.size,upd H1 s1.heap.objs.size (.tup xs),I1.laid (t':=s1.toks) (λb u e=>O1 _ e) (N5 _) ?_,rfl,q _ hf⟩;exact⟨z,us,r,⟨_,OC _ rfl,rfl,_,rfl⟩⟩
def Ip(h:PA X es t):PE X (.List es pos) (MS t):=by intro pins s U H Q I hq;refine wpAny_List_spliced (aQ (h pos pins s U H _ I hq) λus s1 ⟨xs,H1,I1,r,z,q⟩=>⟨by rw[<-r.length];exact z,?_⟩);have hf:H1 s1.heap.objs.size=none:=I1.hok.fresh (N5 _);refine⟨.ref s1.heap.objs.size,upd H1 s1.heap.objs.size (.lst xs),I1.laid (t':=s1.toks) (λb u e=>O1 _ e) (N5 _) ?_,rfl,q _ hf⟩;exact⟨z,us,0,r,OC _ rfl⟩
end
noncomputable abbrev Sp:=List V->Hp->VK->XK->Prop
noncomputable abbrev kR:=List Env->Hp->Shared->XK->Value->Shared->Prop
structure zm(P:Program)(w:World)(K:Rx)(mg:Rr)(base:Heap)(A:Around)(outer:List Env)(s:Shared)(H:Hp):Prop where
 frames:A.frames=some outer
 mod:Mod K mg base
 bs:∀b o,base.get? b=some o->s.heap.get? b=some o/\H b=none
 yL:base.objs.size<=s.heap.objs.size
 ly:s.heap.FunFrames base outer
 Cs:∀b∈frs outer,H b=none
 hok:cX P w H s.heap
 bare:AllBare s.gens
noncomputable def CE (outer:List Env)(P:Program)(w:World)(H:Hp)(s:Shared)(Q:VK)(u:Value)(s':Shared):Prop:=
 ∃v H',s'.os=s.os/\AllBare s'.gens/\Un (frs outer) [] H H' s.heap s'.heap/\cX P w H' s'.heap/\RelV v u/\Q v H'
noncomputable def CR (CX:kR)(outer:List Env)(P:Program)(w:World)(H:Hp)(s:Shared)(Q:VK)(E:XK)(r:Result)(s':Shared):Prop:=
 match r with
 |.ok (.ret u)=>CE outer P w H s Q u s'
 |.ok _=>False
 |.error e=>CX outer H s E e s'
structure fW(P:Program)(w:World)(K:Rx)(mg:Rr)(base:Heap)(CX:kR) (k:Nat)(f:Addr)(fd:FuncData)(ps:SQ)(sp:Sp):Prop where
 len:∀vs H Q E,sp vs H Q E->vs.length=ps.length
 run:∀(A:Around)(outer:List Env)(s:Shared)(H:Hp)(args:Args)(us:SG)(vs:List V)(Q:VK)(E:XK),dD k A->zm P w K mg base A outer s H->BindsTo s fd args (ps.zip us)->Vals vs us->sp vs H Q E->
  codeAny (model P w) A (.call (.ref f) args) (CR CX outer P w H s Q E) s
def fW.imp{P:Program}{w:World}{K:Rx}{mg:Rr}{base:Heap}{CX:kR}{k:Nat}{f:Addr}{fd:FuncData}{ps:SQ}{sp sp':Sp}(F:fW P w K mg base CX k f fd ps sp)(h:∀vs H Q E,sp' vs H Q E->sp vs H Q E):fW P w K mg base CX k f fd ps sp':=
 ⟨λvs H Q E q=>F.len vs H Q E (h _ _ _ _ q),λA outer s H args us vs Q E hr he hb hv hs=>F.run A outer s H args us vs Q E hr he hb hv (h _ _ _ _ hs)⟩
section
variable{X:Cx}{pins:Rt}{U:St}{H:Hp}{s s':Shared}
def Inv.MY(I:Inv X pins U H s):zm X.prog X.w X.K X.mg X.base X.A X.stack s H:=
 ⟨I.ok.frames,I.ok.mod,I.bs,NZ I.ok.yL I.sz,I.stack,I.rM,I.hok,I.bare⟩
def Inv.after{Q:VK}{u:Value}(I:Inv X pins U H s)(h:CE X.stack X.prog X.w H s Q u s'):EP X pins U Q u s':=by obtain⟨v,H',os,bare,un,hok,r,q⟩:=h;obtain⟨hh,g,d,t,os'⟩:=s';obtain rfl:os'=s.os:=os;exact⟨v,H',I.call (h':=hh) (g':=g) (d':=d) (t':=t) (ch:=[]) un hok bare (λb z=>absurd z (by simp)),r,q⟩
end
noncomputable def KO (sp:Sp)(dvs:List V)(E:XK)(t:TA):TE:=λU H Q=>t U H λvs H1=>sp (vs++dvs) H1 Q E
noncomputable def Binds (K:Rx)(fd:FuncData)(ps:SQ)(ds:SG):Prop:=
 ∀(s:Shared)(us:SG),K.In s.heap->(us++ds).length=ps.length->BindsTo s fd ⟨us,[]⟩ (ps.zip (us++ds))
def Binds.all{K:Rx}{fd:FuncData}{ps:SQ}(h:∀us:SG,us.length=ps.length->bindArgs fd ⟨us,[]⟩=pure (ps.zip us)):Binds K fd ps []:=λs us _ hl=>by rw[OV]at hl⊢;exact .of_eq (h us hl)
noncomputable def Passes (CX:kR)(X:Cx)(E:XK):Prop:=∀(pins:Rt)(U:St)(H:Hp)(s:Shared)(e:Value)(s':Shared),Inv X pins U H s->CX X.stack H s E e s'->X.xe e s'
section
variable{X:Cx}{CX:kR}{k:Nat}{f C:Addr}{fd:FuncData}{ps:SQ}{sp:Sp}{dvs:List V}{ds:SG}{E:XK}{x m:Str}{p pos apos:Pos}{e o:Expr}{es:SK}{ta:TE}{t:TA}
def HH{pins:Rt}{U:St}{H:Hp}{s:Shared}{Q:VK}{us:SG}{vs:List V}(F:fW X.prog X.w X.K X.mg X.base CX k f fd ps sp)(hr:dD k X.A)(hb:Binds X.K fd ps ds)(hd:Vals dvs ds)(hx:Passes CX X E)(I:Inv X pins U H s)(r:Vals vs us)(h:sp (vs++dvs) H Q E):wpAny (model X.prog X.w) X.A (call (.ref f) us) (EP X pins U Q) X.xe s:=by
 have r2:Vals (vs++dvs) (us++ds):=r.append hd;have hl:(us++ds).length=ps.length:=by rw[<-r2.length];exact F.len _ _ _ _ h
 refine wpAny_call (codeAny_mono (F.run X.A X.stack s H ⟨us,[]⟩ (us++ds) (vs++dvs) Q E hr I.MY (hb s us I.gK hl) r2 h) λr s' hq=>?_);cases r with
 |error e=>exact hx pins U H s e s' I hq
 |ok fl=>
  cases fl with
  |ret u=>exact I.after hq
  |next=>exact False.elim hq
  |brk=>exact False.elim hq
  |cont=>exact False.elim hq
def yx(F:fW X.prog X.w X.K X.mg X.base CX k f fd ps sp)(hr:dD k X.A)(hg:Gl X x)(hm:X.mg x=some (.ref f))(hk:PySem.W.keepIn X.K (.ref f)=true)(hb:Binds X.K fd ps ds)(hd:Vals dvs ds)(hx:Passes CX X E)(ha:PA X (e::es) t)(hdb:(x==("__debug__":Str))=false:=by decide)(he:starEach (e::es) X.env=(false,eval e X.env)::starEach es X.env:=by rfl)(hpl:(backTo pos (starEach es X.env)).any (·.1)=false:=by rfl) : PE X (.Call (.Name x p) (e::es) [] pos) (KO sp dvs E t):=by intro pins s U H Q I h;refine RE (xQ I hg hm ?_ hdb);refine PySem.W.callWith_K (h₀:=X.base) I.ok.mod.ni hk (aQ (ha pos pins s U H _ I h) λus s1 ⟨vs,H1,I1,r,q⟩=>⟨I1.gK,?_⟩) he hpl;exact HH F hr hb hd hx I1 r q
end
structure aT(N P:SQ)(sc:Scope):Prop where
 kind:sc.kind=.function
 co:sc.isCoroutine=false
 gen:sc.isGenerator=false
 nd:N.Nodup
 pre:N.take P.length=P
 par:∀x∈P,sc.names.lookup x=some .local\/sc.names.lookup x=some .cell
 Ir:∀y∈sc.names,y.2≠.free
theorem sU{kindOf:Str->Option NameKind}{x:Str}:∀{binds:List (Str×Value)}{m:Rr},(∀v,(x,v)∉binds)->bindL kindOf binds m x=m x
 |[],_,_=>rfl
 | (n,v)::r,m,h=>by
  unfold bindL;rw[sU λw hw=>h w (NX _ hw)];split
  .have:x≠n:=by rintro rfl;exact h v N6
   simp[this]
  rfl
theorem sW{kindOf:Str->Option NameKind}{x:Str}:∀{binds:List (Str×Value)}{m:Rr},(∀v,(x,v)∉binds)->bindC kindOf binds m x=m x
 |[],_,_=>rfl
 | (n,v)::r,m,h=>by
  unfold bindC;rw[sW λw hw=>h w (NX _ hw)];split;{rfl};have:x≠n:=by rintro rfl;exact h v N6
  simp[this]
theorem sQ{kindOf:Str->Option NameKind}{x:Str}{v:Value}:∀{P:SQ}{vs:SG}{i:Nat}{m:Rr},P.Nodup->P[i]?=some x->vs[i]?=some v->kindOf x=some .local-> bindL kindOf (P.zip vs) m x=some v
 |[],_,_,_,_,h,_,_=>by simp at h
 |_::_,[],_,_,_,_,h,_=>by simp at h
 |p::P,w::vs,0,m,nd,h1,h2,hk=>by simp at h1 h2;subst h1;subst h2;show bindL kindOf ((p,w)::P.zip vs) m p=_;unfold bindL;rw[sU λv hv=>(OW.mp nd).1 (QU hv).1,if_pos hk];simp
 |p::P,w::vs,i+1,m,nd,h1,h2,hk=>by show bindL kindOf ((p,w)::P.zip vs) m x=_;unfold bindL;exact sQ (i:=i) (OW.mp nd).2 (by simpa using h1) (by simpa using h2) hk
theorem tD{kindOf:Str->Option NameKind}{x:Str}{v:Value}:∀{P:SQ}{vs:SG}{i:Nat}{m:Rr},P.Nodup->P[i]?=some x->vs[i]?=some v->kindOf x≠some .local-> bindC kindOf (P.zip vs) m x=some v
 |[],_,_,_,_,h,_,_=>by simp at h
 |_::_,[],_,_,_,_,h,_=>by simp at h
 |p::P,w::vs,0,m,nd,h1,h2,hk=>by simp at h1 h2;subst h1;subst h2;show bindC kindOf ((p,w)::P.zip vs) m p=_;unfold bindC;rw[sW λv hv=>(OW.mp nd).1 (QU hv).1,if_neg hk];simp
 |p::P,w::vs,i+1,m,nd,h1,h2,hk=>by show bindC kindOf ((p,w)::P.zip vs) m x=_;unfold bindC;exact tD (i:=i) (OW.mp nd).2 (by simpa using h1) (by simpa using h2) hk
noncomputable def start (N:SQ)(vs:List V):St:=vs.map some++List.replicate (N.length-vs.length) none
noncomputable def fS (CX:kR)(P:Program)(w:World)(K:Rx)(mg:Rr)(base:Heap)(N:SQ) (qual:Str)(scope:Scope)(f:Addr)(cd:Value)(A:Around)(outer:List Env)(s:Shared)(H:Hp)(E:XK):Cx where
 prog:=P
 w:=w
 K:=K
 mg:=mg
 base:=base
 A:=A.deeper (envOfC qual scope s.heap.objs.size f cd)
 N:=N
 s₀:=s
 H₀:=H
 env:=envOfC qual scope s.heap.objs.size f cd
 outer:=outer
 stack:=envOfC qual scope s.heap.objs.size f cd::outer
 ex:=[]
 calm:=true
 fn:=λ_=>true
 pn:=[]
 xe:=λe s'=>wpAny (model P w) (A.deeper (envOfC qual scope s.heap.objs.size f cd)) (leaving (envOfC qual scope s.heap.objs.size f cd) e) (λ_ s''=>CX outer H s E e s'') (λe' s''=>CX outer H s E e' s'') s'
def wj{sc:Scope}{n:Nat}{x:Str}(h:sc.names.lookup x=some .cell):∃c,(cellsFrom n sc.names []).lookup x=some c:=by have q:=PySem.W.cellsFrom_some sc.names n [] (.inl h);exact Option.isSome_iff_exists.mp q
def CH{CX:kR}{P:Program}{w:World}{K:Rx}{mg:Rr}{base:Heap}{N ps:SQ}{qual:Str}{scope:Scope}{f:Addr}{cd:Value}{A:Around}{outer:List Env}{s s1:Shared}{H:Hp}{E:XK}{us:SG}{vs:List V}(S:aT N ps scope)(hd:A.handled=none)(e0:zm P w K mg base A outer s H)(hl:vs.length=ps.length)(r:Vals vs us)(x:InCallC s s.heap.objs.size (bindL (envOfC qual scope s.heap.objs.size f cd).kindOf (ps.zip us) λ_=>none) (cellsFrom (s.heap.objs.size+1) scope.names []) (bindC (envOfC qual scope s.heap.objs.size f cd).kindOf (ps.zip us) λ_=>none) s1) : Inv (fS CX P w K mg base N qual scope f cd A outer s H E) [] (start N vs) H s1:=by
 have hpl:ps.length<=N.length:=by have:=congrArg List.length S.pre;rw[OM]at this;lia
 obtain⟨h1,tk,rfl,hk⟩:=x.done;have noA:∀b:Addr,b∉(fS CX P w K mg base N qual scope f cd A outer s H E).ex:=λb z=>absurd (show b∈([]:SH)from z) (by simp);refine⟨⟨e0.mod,S.kind,rfl,rfl,N5 _,λy z c h1 h2=>?_,λy hy=>?_,λy c _ h=>?_,λ_=>hd,Around.frames_deeper e0.frames,.inr ⟨rfl,rfl⟩,λb z=>absurd z (noA b),e0.bs,e0.yL,λb _ _=>noA b,λb z=>absurd z (noA b),e0.ly,e0.Cs⟩,
  rfl,e0.bare,Un.kept hk,⟨_,x.toInCall.ns,λi y v h1 h2 h3=>?_⟩,λy c h=>⟨_,x.cell y c h⟩,e0.hok.fresh (N5 _),λy c h=>?_,λp hp=>absurd (show p∈([]:Rt)from hp) (by simp),e0.hok.kept hk,?_⟩
 .exact name_of_addr x.apart (QD h1) (QD h2)
 .have hy:scope.names.lookup y=some .cell\/scope.names.lookup y=some .free:=hy;rcases hy with hy|hy;{exact wj hy};exact absurd rfl (S.Ir _ (QD hy))
 .exact Nat.le_of_lt (x.above y c (QD h))
 .have hi:i<vs.length:=by unfold start at h2;by_cases hi:i<vs.length;{exact hi};rw[QV (by simpa using hi)]at h2;rw[List.getElem?_replicate]at h2;split at h2<;>cases h2
  have ha:vs[i]?=some v:=by
   unfold start at h2;rw[QE (by simpa using hi),O4]at h2;cases e:vs[i]? with
   |none=>rw[e]at h2;cases h2
   |some a=>rw[e]at h2;cases h2;rfl
  obtain⟨u,hu,rv⟩:=r.get ha;have hp:ps[i]?=some y:=by rw[<-S.pre,List.getElem?_take_of_lt (by lia)];exact h1
  have ndP:ps.Nodup:=by rw[<-S.pre];exact S.nd.sublist (List.take_sublist _ _)
  refine⟨u,rv,?_⟩;rcases S.par y (OD hp)with k|k;{exact .inl ⟨k,sQ ndP hp hu k⟩};obtain⟨c,e⟩:=wj (n:=s.heap.objs.size+1) k;refine .inr ⟨.inl k,c,e,?_⟩;have q:=x.cell y c e;rw[tD ndP hp hu (by show scope.names.lookup y≠_;rw[k];decide)]at q;exact q
 .exact e0.hok.fresh (Nat.le_of_lt (x.above y c (QD h)))
 unfold start;show _=N.length;rw[NU,NS,PD];lia
def LO{CX:kR}{P:Program}{w:World}{K:Rx}{mg:Rr}{base:Heap}{k:Nat}{f:Addr}{name qual:Str}{params:Arguments}{body:SM}{scope:Scope}{dV kV doc pm cdv ct oc:Value}{an od:SD}{osl:Rn}{N ps:SQ}{sp:Sp}(lk:K.lookup f=some ⟨oc,od,.func (PySem.W.fnOf name qual params body scope dV kV doc pm an cdv ct),osl⟩)(hcd:PySem.W.codeIn K cdv qual=true)(S:aT N ps scope)(len:∀vs H Q E,sp vs H Q E->vs.length=ps.length)(hbody:∀(A:Around)(outer:List Env)(s:Shared)(H:Hp)(vs:List V)(Q:VK)(E:XK),dD k (A.deeper (envOfC qual scope s.heap.objs.size f cdv))->sp vs H Q E-> ∃t,m5 (fS CX P w K mg base N qual scope f cdv A outer s H E) body t/\t { nx:=λ_ H'=>Q .bq H',rt:=Q } (start N vs) H) : fW P w K mg base CX (k+1) f (PySem.W.fnOf name qual params body scope dV kV doc pm an cdv ct) ps sp:=by
 refine⟨len,λA outer s H args us vs Q E hr e0 hb r hsp=>?_⟩;have hl:=len _ _ _ _ hsp;have KX:K.In s.heap:=e0.mod.ni.keeps λb o e=>(e0.bs b o e).1;have lim:s.heap.NoLimit:=e0.mod.nolimit.keeps λb o e=>(e0.bs b o e).1;have hkind:∀y∈ps.zip us,scope.names.lookup y.1=some .local\/(scope.names.lookup y.1=some .cell/\((cellsFrom (s.heap.objs.size+1) scope.names []).lookup y.1).isSome=true):=λ⟨n,v⟩ hy=>by rcases S.par n (QU hy).1 with q|q;{exact .inl q};exact .inr ⟨q,PySem.W.cellsFrom_some _ _ _ (.inl q)⟩
 refine codeAny_call_function hr.depth (KX _ _ lk) rfl S.co S.gen rfl (PySem.W.codeRec_of KX hcd) (hb _ _ _ _ ?_);refine wpAny_newFunctionEnv_cells S.kind hkind λenv he s1 x=>?_;subst he;refine⟨lim.keeps x.toInCall.keep,codeAny_func ?_⟩;obtain⟨t,ht,hq⟩:=hbody A outer s H vs Q E (hr.deeper _) hsp;have I:Inv (fS CX P w K mg base N qual scope f cdv A outer s H E) [] (start N vs) H s1:=CH S hr.hd e0 hl r x;refine Od (ht [] s1 (start N vs) H _ I hq) (λfl s' hs=>?_) λe s' hs=>hs;have fin:∀{σ':St}{H':Hp}{v:V}{u:Value},Inv (fS CX P w K mg base N qual scope f cdv A outer s H E) [] σ' H' s'->RelV v u->Q v H'->CE outer P w H s Q u s':=
  λ{σ' H' v u} J rv q=>⟨v,H',J.os,J.bare,J.base,J.hok,rv,q⟩
 cases fl with
 |ret u=>obtain⟨v,σ',H',J,rv,q⟩:=hs;exact fin J rv q
 |next=>obtain⟨σ',H',J,q⟩:=hs;exact fin (v:=V.bq) (u:=Value.none) J rfl q
 |brk=>obtain⟨_,_,_,q⟩:=hs;exact False.elim q
 |cont=>obtain⟨_,_,_,q⟩:=hs;exact False.elim q
section
variable{X:Cx}{x:Str}{p pos:Pos}{e:Expr}{es:SK}{t:TA}{id T:String}{r:List V->Hp->VK->Prop}
noncomputable def Mn (r:List V->Hp->VK->Prop)(t:TA):TE:=λU H Q=>t U H λvs H1=>r vs H1 Q
def vm(hc:cJ X (.builtin id) r)(hg:Gl X x)(hm:X.mg x=none)(hv:bootBuiltins x=some (.builtin id))(ha:PA X (e::es) t)(hn:x≠"__name__":=by decide)(hdb:(x==("__debug__":Str))=false:=by decide)(he:starEach (e::es) X.env=(false,eval e X.env)::starEach es X.env:=by rfl)(hpl:(backTo pos (starEach es X.env)).any (·.1)=false:=by rfl):PE X (.Call (.Name x p) (e::es) [] pos) (Mn r t):=by intro pins s U H Q I h;refine RE (jk I hg hm hv ?_ hn hdb);exact PyProof.Rows.callWith_builtin1 (aQ (ha pos pins s U H _ I h) λus s1 ⟨vs,H1,I1,r1,q1⟩=>hc pins s1 U H1 vs us Q I1 r1 q1) he hpl
def nK(hc:cJ X (.type T) r)(hg:Gl X x)(hm:X.mg x=none)(hv:bootBuiltins x=some (.type T))(ha:PA X (e::es) t)(hn:x≠"__name__":=by decide)(hdb:(x==("__debug__":Str))=false:=by decide)(he:starEach (e::es) X.env=(false,eval e X.env)::starEach es X.env:=by rfl)(hpl:(backTo pos (starEach es X.env)).any (·.1)=false:=by rfl):PE X (.Call (.Name x p) (e::es) [] pos) (Mn r t):=by intro pins s U H Q I h;refine RE (jk I hg hm hv ?_ hn hdb);exact Po (aQ (ha pos pins s U H _ I h) λus s1 ⟨vs,H1,I1,r1,q1⟩=>hc pins s1 U H1 vs us Q I1 r1 q1) he hpl
end
end L2
namespace HT
open PySem PyProof.Rows
section
variable{prog:Program}{w:World}{A:Around}{E:Ro}{s:Shared}
def Gb{t b:Addr}{vs ws:SG}{Q:Ro}(ht:IsTup s.heap t vs.toArray)(hb:IsTup s.heap b ws.toArray)(hv:vs≠[])(h1:ws=[]->Q (.ref t) s)(h2:ws≠[]->Q (.ref s.heap.objs.size) { s with heap:=s.heap.push { cls:=.type "tuple",data:=.seq (vs++ws).toArray } })(hsz:vs.length+ws.length<=sizeLine):wpAny (model prog w) A (binaryOp .Add (.ref t) (.ref b)) Q E s:=by
 obtain⟨⟨cls,dd,data,sl⟩,ho,hc,n,hd⟩:=id ht;obtain⟨⟨cls2,dd2,data2,sl2⟩,ho2,hc2,n2,hd2⟩:=id hb;simp only at hc hd hc2 hd2;subst hc hd hc2 hd2;have e:vs.toArray++ws.toArray=(vs++ws).toArray:=by simp
 by_cases hw:ws=[]
 .exact concat_meets ⟨_,ho,rfl⟩ ⟨_,ho2,rfl⟩ RG seq_tuple_add RH RI (RJ _ _)
   (tuple_addW1 t b vs.toArray ws.toArray n n2 dd dd2 sl sl2 (by simpa using hv) (by simp[hw])) ⟨ho,ho2,h1 hw⟩
 refine concat_meets ⟨_,ho,rfl⟩ ⟨_,ho2,rfl⟩ RG seq_tuple_add RH RI (RJ _ _)
  (tuple_addW2 t b vs.toArray ws.toArray n n2 dd dd2 sl sl2 (by simpa using hv) (by simpa using hw) (by rw[O0,O0];exact hsz)) ⟨ho,ho2,?_⟩
 rw[e];exact h2 hw
noncomputable def aO (n d:Nat):Option Int->Nat
 |none=>d
 |some v=>if v<0 then(v+(n:Int)).toNat else min v.toNat n
def oM(n d k:Nat):aO n d (some (k:Int))=min k n:=by show(if(k:Int)<0 then((k:Int)+(n:Int)).toNat else min (k:Int).toNat n)=min k n;rw[if_neg (by lia),Pq]
def Ib(n d:Nat)(hd:d<=n)(o:Option Int):aO n d o<=n:=by
 cases o with
 |none=>exact hd
 |some v=>show(if v<0 then(v+(n:Int)).toNat else min v.toNat n)<=n;by_cases hv:v<0;{rw[if_pos hv];lia};rw[if_neg hv];exact RK _ _
def yK(v:Int) (n d:Nat):(if v<0 then max (v+(n:Int)) 0 else min v (n:Int))=((aO n d (some v):Nat):Int):=by show(if v<0 then max (v+(n:Int)) 0 else min v (n:Int))=(((if v<0 then(v+(n:Int)).toNat else min v.toNat n):Nat):Int);by_cases hv:v<0;{simp only[if_pos hv];lia};simp only[if_neg hv];lia
def zv(lo hi:Option Int) (n:Nat):Builtin.Slice.sliceAdjust lo hi 1 (n:Int)=(((aO n 0 lo:Nat):Int),((aO n n hi:Nat):Int)):=by
 have h1:¬((1:Int)<0):=by lia
 unfold Builtin.Slice.sliceAdjust;simp only[h1,if_false];refine Prod.ext ?_ ?_
 .cases lo with
  |none=>rfl
  |some v=>exact yK v n 0
 cases hi with
 |none=>rfl
 |some v=>exact yK v n n
def yY(i j:Nat):Builtin.Slice.slicePlaces (i:Int) (j:Int) 1=j-i:=by
 unfold Builtin.Slice.slicePlaces;have h1:(1:Int)>0:=by lia
 simp only[h1,if_true,Int.ediv_one];split<;>lia
def qO{v:Value}{o:Option Int}{Q:Option Int->Shared->Prop}(p:IsPart v o)(h:Q o s):wpAny (model prog w) A (Builtin.Slice.slicePartIndex v) Q E s:=by
 cases p with
 |none=>exact slicePart_none h
 |int i t=>exact slicePart_int h
def jW{sl:Addr}{vl vu:Value}{lo hi:Option Int}{n:Nat}{Q:Int×Int×Nat->Shared->Prop}(hs:s.heap.IsSliceOf sl vl vu .none)(pl:IsPart vl lo)(pu:IsPart vu hi)(h:Q (((aO n 0 lo:Nat):Int),1,aO n n hi-aO n 0 lo) s):wpAny (model prog w) A (Builtin.Slice.sliceApplied (.ref sl) (pure (n:Int))) Q E s:=by obtain⟨os,hos,hcs,hds⟩:=id hs;unfold Builtin.Slice.sliceApplied Builtin.Slice.sliceFields;refine N1 (N1 (O8 hos hds (x:=vl) rfl (N1 (O8 hos hds (x:=vu) rfl (N1 (O8 hos hds (x:=.none) rfl (N4 ?_)))))));refine N1 (slicePart_none ?_);show wpAny _ _ (if((1:Int)==0)=true then _ else _) _ _ s;rw[if_neg (by decide)];refine N1 (qO pl (N1 (qO pu (N1 (N4 ?_)))));show wpAny _ _ (match Builtin.Slice.sliceAdjust lo hi 1 (n:Int)with|(lo,hi)=>pure (lo,(1:Int),Builtin.Slice.slicePlaces lo hi 1)) _ _ s;rw[zv lo hi n];show wpAny _ _ (pure (((aO n 0 lo:Nat):Int),(1:Int),Builtin.Slice.slicePlaces ((aO n 0 lo:Nat):Int) ((aO n n hi:Nat):Int) 1)) _ _ s;rw[yY];exact N4 h
def Dj(xs:Rz) (i k:Nat):((List.range k).filterMap λ(m:Nat)=>xs[((i:Int)+(m:Int)*1).toNat]?).toArray=((xs.toList.drop i).take k).toArray:=by
 have e:(λ(m:Nat)=>xs[((i:Int)+(m:Int)*1).toNat]?)=λm=>xs[i+m]?:=by
  funext m;have:((i:Int)+(m:Int)*1).toNat=i+m:=by lia
  rw[this]
 rw[e];have:=pick_run xs i k;rw[List.filterMap_map]at this;have e2:((λx=>xs[x]?)∘λx=>i+x)=λm=>xs[i+m]?:=rfl;rw[e2]at this;rw[this]
def oR{t sl:Addr}{items:Rz}{vl vu:Value}{lo hi:Option Int}{Q:Ro}(ht:IsTup s.heap t items)(hs:s.heap.IsSliceOf sl vl vu .none)(pl:IsPart vl lo)(pu:IsPart vu hi)(hw:¬(aO items.size 0 lo=0/\aO items.size items.size hi=items.size))(h:Q (.ref s.heap.objs.size) { s with heap:=s.heap.push { cls:=.type "tuple",data:=.seq ((items.toList.drop (aO items.size 0 lo)).take (aO items.size items.size hi-aO items.size 0 lo)).toArray } })(hsz:items.size<=sizeLine):wpAny (model prog w) A (getItem (.ref t) (.ref sl)) Q E s:=by
 have htake:sizeOk (.seq ((items.toList.drop (aO items.size 0 lo)).take (aO items.size items.size hi-aO items.size 0 lo)).toArray):=by show((items.toList.drop (aO items.size 0 lo)).take (aO items.size items.size hi-aO items.size 0 lo)).toArray.size<=sizeLine;rw[O0,OM,OO,PY];exact NZ (RK _ _) (NZ (Nat.sub_le _ _) hsz)
 have hj:aO items.size items.size hi<=items.size:=Ib _ _ (N5 _) hi;obtain⟨os,hos,hcs,hds⟩:=id hs;have hTs:s.TypeIs (.ref sl) "slice":=⟨os,hos,hcs⟩;unfold getItem;try with_reducible refine Oz ?_
 first|refine N1 (N4 ?_)|skip
 refine N1 (wpAny_sequenceKey ht.typeIs (by decide) ?_);refine N1 (PF (name:=Str.ofString "__getitem__") ht.typeIs QW
  (P0 QW ht.typeIs entry_tuple_getitem ?_ (args_tuple_getitem _ _)))
 show wpAny _ _ (Builtin.Tuple.tupleItemsOf (.ref t)>>=_) _ _ s;refine N1 (tupleItemsOf_ ht ?_);refine N1 (QX hTs ?_);rw[if_pos (by decide)];refine N1 (jW hs pl pu ?_);have hno:¬((((aO items.size 0 lo:Nat):Int)==0&&(1:Int)==1&&(aO items.size items.size hi-aO items.size 0 lo)==items.size)=true):=by intro q;rw[N9,N9]at q;have q1:((aO items.size 0 lo:Nat):Int)=0:=Pa q.1.1;have q2:aO items.size items.size hi-aO items.size 0 lo=items.size:=Pa q.2;exact hw ⟨by lia,by lia⟩
 show wpAny _ _ (if(((aO items.size 0 lo:Nat):Int)==0&&(1:Int)==1&&(aO items.size items.size hi-aO items.size 0 lo)==items.size)=true then _ else _) _ _ s;rw[if_neg hno,Dj];first
  |exact N1 (m:=Builtin.Tuple.tupleExact _) (PJ (N4 ⟨_,rfl,N4 h⟩) htake)
  |exact N1 (m:=Builtin.Tuple.tupleExact _) (PJ (N1 (N4 (N4 ⟨_,rfl,N4 h⟩))) htake)
  |exact N1 (N1 (m:=Builtin.Tuple.tupleExact _) (PJ (N4 (N4 ⟨_,rfl,N4 h⟩)) htake))
  |exact N1 (N1 (m:=Builtin.Tuple.tupleExact _) (PJ (N4 ⟨_,rfl,N4 h⟩) htake))
end
end HT
namespace L2
open PySem PySem.Spec PyProof.Rows
noncomputable abbrev TO:=St->Hp->(Option Int->Hp->Prop)->Prop
noncomputable def PO (X:Cx)(e:Option Expr)(t:TO):Prop:=
 ∀(pins:Rt)(s:Shared)(U:St)(H:Hp)(Q:Option Int->Hp->Prop),Inv X pins U H s->t U H Q->
  wpAny (model X.prog X.w) X.A (evalPart e X.env) (λu s'=>∃o H',Inv X pins U H' s'/\IsPart u o/\Q o H') X.xe s
noncomputable def F7:TO:=λ_ H Q=>Q none H
noncomputable def LV (t:TE):TO:=λU H Q=>t U H λx H1=>∃i,x=.int i/\Q (some i) H1
section
variable{X:Cx}{e:Expr}{te:TE}{lo hi:Option Expr}{tl th:TO}{pos p2:Pos}
def xD:PO X none F7:=by intro pins s U H Q I h;rw[evalPart_none];exact N4 ⟨none,H,I,.none,h⟩
def yS(h:PE X e te):PO X (some e) (LV te):=by intro pins s U H Q I hw;rw[evalPart_some];refine aQ (h pins s U H _ I hw) λu s1 ⟨x,H1,I1,r1,q1⟩=>?_;obtain⟨i,rfl,q⟩:=q1;obtain⟨t,rfl⟩:=r1;exact⟨some i,H1,I1,.int i t,q⟩
noncomputable def AL (X:Cx)(r:V->Option Int->Option Int->Hp->VK->Prop):Prop:=
 ∀(pins:Rt)(s:Shared)(U:St)(H:Hp) (x:V)(v vl vu:Value)(lo hi:Option Int)(sl:Addr)(Q:VK),Inv X pins U H s->RelV x v->s.heap.IsSliceOf sl vl vu .none->IsPart vl lo->IsPart vu hi->r x lo hi H Q->
  ∃T id,typeLookup (.type T) "__getitem__"=pure (some (.builtin id))/\s.TypeIs v T/\wpAny (model X.prog X.w) X.A (getItem v (.ref sl)) (EP X pins U Q) X.xe s
noncomputable def NI (r:V->Option Int->Option Int->Hp->VK->Prop)(te:TE)(tl th:TO):TE:=λU H Q=>te U H λx H1=>tl U H1 λl H2=>th U H2 λu H3=>r x l u H3 Q
def vF{r:V->Option Int->Option Int->Hp->VK->Prop}(hr:AL X r)(he:PE X e te)(hl:PO X lo tl)(hu:PO X hi th):PE X (.Subscript e (.Slice lo hi none p2) pos) (NI r te tl th):=by intro pins s U H Q I h;refine Subscript_ (aQ (he pins s U H _ I h) λv s1 ⟨x,H1,I1,r1,q1⟩=>?_);refine wpAny_Slice (aQ (hl pins s1 U H1 _ I1 q1) λvl s2 ⟨l,H2,I2,pl,q2⟩=>aQ (hu pins s2 U H2 _ I2 q2) λvu s3 ⟨u,H3,I3,pu,q3⟩=>?_);rw[evalPart_none];refine N4 ?_;have I4:Inv X pins U H3 { s3 with heap:=s3.heap.push { cls:=.type "slice",data:=.fields #[vl,vu,.none] } }:=I3.kept (t':=s3.toks) λb ob q=>O1 _ q;obtain⟨T,id,hT,ht,hg⟩:=hr pins { s3 with heap:=s3.heap.push { cls:=.type "slice",data:=.fields #[vl,vu,.none] } } U H3 x v vl vu l u s3.heap.objs.size Q I4 r1 (Heap.IsSliceOf.new ..) pl pu q3;show wpAny (model X.prog X.w) X.A (subscriptTail e (.Slice lo hi none p2) v (.ref s3.heap.objs.size)) (EP X pins U Q) X.xe { s3 with heap:=s3.heap.push { cls:=.type "slice",data:=.fields #[vl,vu,.none] } };exact tail_any (ops:=[.ref s3.heap.objs.size,v]) ht hT hg (by with_unfolding_all rfl)
noncomputable def mD (xs:List V)(lo hi:Option Int):List V:=(xs.drop (HT.aO xs.length 0 lo)).take (HT.aO xs.length xs.length hi-HT.aO xs.length 0 lo)
def oV(xs:List V)(lo hi:Option Int):(mD xs lo hi).length<=xs.length:=by unfold mD;rw[OM,OO];exact NZ (RK _ _) (Nat.sub_le _ _)
noncomputable def M1 (K:Rx):V->Option Int->Option Int->Hp->VK->Prop:=λx lo hi H Q=>∃a xs,x=.ref a/\aU K H a xs /\
 ¬(HT.aO xs.length 0 lo=0/\HT.aO xs.length xs.length hi=xs.length)/\∀p,H p=none->Q (.ref p) (upd H p (.tup (mD xs lo hi)))
def J9:AL X (M1 X.K):=by
 intro pins s U H x v vl vu lo hi sl Q I rx hs pl pu h;obtain⟨a,xs,rfl,hx,hw,q⟩:=h;cases rx;obtain⟨its,r,ht,hz⟩:=I.tuple hx;have hlen:its.toArray.size=xs.length:=by rw[O0];exact r.length.symm
 refine⟨"tuple",_,Rk,ht.typeIs,?_⟩;refine HT.oR ht hs pl pu (by rw[hlen];exact hw) ?_ (by rw[hlen];exact hz);rw[hlen];refine⟨.ref s.heap.objs.size,_,I.laid (t':=s.toks) (o:=.tup (mD xs lo hi)) (λb ob q=>O1 _ q) (N5 _) ?_,rfl,q _ (I.hok.fresh (N5 _))⟩;exact⟨NZ (oV xs lo hi) hz,_,(r.drop (HT.aO xs.length 0 lo)).take (HT.aO xs.length xs.length hi-HT.aO xs.length 0 lo),IsTup.new _ _⟩
noncomputable def Fi (K:Rx):R2:=λx y H Q=>∃a b xs ys,x=.ref a/\y=.ref b/\aU K H a xs/\aU K H b ys/\xs≠[]/\xs.length+ys.length<=sizeLine /\
 (ys=[]->Q (.ref a) H)/\(ys≠[]->∀p,H p=none->Q (.ref p) (upd H p (.tup (xs++ys))))
def Vals.rS{xs:List V}{us:SG}(r:Vals xs us):us=[]↔xs=[]:=by
 cases r with
 |nil=>simp
 |cons _ _=>simp
def G8:bA X (binaryOp .Add) (Fi X.K):=by intro pins s U H x y v u Q I rx ry h;obtain⟨a,b,xs,ys,rfl,rfl,ha,hb,hx,hz,q1,q2⟩:=h;cases rx;cases ry;obtain⟨its,r1,p1,_⟩:=I.tuple ha;obtain⟨its2,r2,p2,_⟩:=I.tuple hb;refine HT.Gb p1 p2 (λz=>hx (r1.rS.mp z)) (λz=>⟨.ref a,H,I,rfl,q1 (r2.rS.mp z)⟩) (λz=>?_) (by rw[<-r1.length,<-r2.length];exact hz);refine⟨.ref s.heap.objs.size,_,I.laid (t':=s.toks) (o:=.tup (xs++ys)) (λb ob q=>O1 _ q) (N5 _) ?_,rfl,q2 (λw=>z (r2.rS.mpr w)) _ (I.hok.fresh (N5 _))⟩;exact⟨by rw[NU];exact hz,_,r1.append r2,IsTup.new _ _⟩
end
noncomputable def mZ (n:Nat) (i:Int):Option Nat:=if 0<=i then(if i<n then some i.toNat else none)else if-(n:Int)<=i then some (i+n).toNat else none
noncomputable def cR {α:Type}(xs:List α) (i:Int):Option α:=(mZ xs.length i).bind λj=>xs[j]?
def yJ{n:Nat}{i:Int}{j:Nat}(h:mZ n i=some j):seqIndex? i n=some j/\j<n/\-(n:Int)<=i/\i<n:=by unfold mZ at h;by_cases h0:0<=i;{rw[if_pos h0]at h;by_cases h1:i<n;{rw[if_pos h1]at h;have e:i.toNat=j:=Option.some.inj h;exact⟨by rw[seqIndex_of h0 h1,e],by lia,by lia,h1⟩};rw[if_neg h1]at h;cases h};rw[if_neg h0]at h;by_cases h1:-(n:Int)<=i;{rw[if_pos h1]at h;have e:(i+n).toNat=j:=Option.some.inj h;exact⟨by rw[seqIndex_neg (by lia) h1,e],by lia,h1,by lia⟩};rw[if_neg h1]at h;cases h
def rO{α:Type}{xs:List α}{i:Int}{v:α}(h:cR xs i=some v):∃j,seqIndex? i xs.length=some j/\xs[j]?=some v/\j<xs.length/\-(xs.length:Int)<=i/\i<xs.length:=by
 unfold cR at h;cases e:mZ xs.length i with
 |none=>rw[e]at h;cases h
 |some j=>rw[e]at h;obtain⟨h1,h2,h3,h4⟩:=yJ e;exact⟨j,h1,h,h2,h3,h4⟩
noncomputable def lN (b:Expr):Prop:=∀o i,subscripted b false o i=operate [o,i] (getItem o i)
noncomputable def mW (X:Cx)(r:R2):Prop:=
 ∀(value slice:Expr)(pins:Rt)(s:Shared)(U:St)(H:Hp) (x y:V)(v u:Value)(Q:VK),Inv X pins U H s->RelV x v->RelV y u->r x y H Q->
  subscripted slice false v u=operate [v,u] (getItem v u)->wpAny (model X.prog X.w) X.A (subscriptTail value slice v u) (EP X pins U Q) X.xe s
noncomputable def Mp (X:Cx)(id:String)(r:V->List V->Hp->VK->Prop):Prop:=
 ∀(pins:Rt)(s:Shared)(U:St)(H:Hp) (x:V)(xs:List V)(v:Value)(us:SG)(Q:VK),Inv X pins U H s->RelV x v->Vals xs us->r x xs H Q->
  wpAny (model X.prog X.w) X.A (call (.builtin id) (v::us)) (EP X pins U Q) X.xe s
section
variable{X:Cx}{a b:Expr}{ta tb:TE}{pos:Pos}
def mW.or{r r':R2}(h:mW X r)(h':mW X r'):mW X (λx y H Q=>r x y H Q\/r' x y H Q):=by intro value slice pins s U H x y v u Q I rx ry q hs;rcases q with q|q;{exact h value slice pins s U H x y v u Q I rx ry q hs};exact h' value slice pins s U H x y v u Q I rx ry q hs
def ES{r:R2}(hr:mW X r)(ha:PE X a ta)(hb:PE X b tb)(hs:lN b):PE X (.Subscript a b pos) (Jw r ta tb):=by intro pins s U H Q I h;exact Subscript_ (CY ha hb I h λv u s2 x y H2 I2 rx ry q=>hr a b pins s2 U H2 x y v u Q I2 rx ry q (hs _ _))
inductive EF(K:Rx) (x:V) (y:V)(H:Hp)(Q:VK):Prop
 |mk:∀p xs i v,(x=.ref p)->(y=.int i)->(bX K H p xs)->(cR xs i=some v)->(Q v H)->EF K x y H Q
noncomputable def Kf (K:Rx):R2:=λx y H Q=>EF K x y H Q
inductive EH(K:Rx) (x:V) (y:V)(H:Hp)(Q:VK):Prop
 |mk:∀p xs i v,(x=.ref p)->(y=.int i)->(aU K H p xs)->(cR xs i=some v)->(Q v H)->EH K x y H Q
noncomputable def Im (K:Rx):R2:=λx y H Q=>EH K x y H Q
inductive EA(x:V) (y:V)(H:Hp)(Q:VK):Prop
 |mk:∀z i c,(x=.str z)->(y=.int i)->(z.length<=sizeLine)->(cR z.cps.toList i=some c)->(Q (.str ⟨#[c]⟩) H)->EA x y H Q
noncomputable def J7:R2:=λx y H Q=>EA x y H Q
def FT:mW X (Kf X.K):=by
 intro value slice pins s U H x y v u Q I rx ry h hs;obtain⟨p,xs,i,z,rfl,rfl,hq,he,q⟩:=h;cases rx;obtain⟨t,rfl⟩:=ry;obtain⟨its,r,pl,hz⟩:=I.list hq;obtain⟨j,h1,h2,h3,h4,h5⟩:=rO he;obtain⟨w,ew,rw'⟩:=r.get h2;have hl:=r.length;have hn:=lQ;have fin:EP X pins U Q w s:=⟨z,H,I,rw',q⟩;by_cases h0:0<=i
 .have hj:i.toNat=j:=by rw[seqIndex_of h0 h5]at h1;exact Option.some.inj h1
  exact item_listR pl.isList h0 (by lia) (by rw[hj];simpa using ew) fin hs
 have hj:(i+(its.toArray.size:Int)).toNat=j:=by rw[seqIndex_neg (by lia) h4]at h1;rw[O0,<-hl];exact Option.some.inj h1
 exact subscriptTail_builtinR (x:=w) pl.isList.typeIs slot_list_getitem.lookup
  (wpAny_getItem_list_neg (Q:=λr s'=>r=w/\EP X pins U Q r s') pl.isList (by lia) (by rw[O0]<;>lia) (by lia) (by rw[hj];simpa using ew) ⟨rfl,fin⟩) hs
def HV:mW X (Im X.K):=by
 intro value slice pins s U H x y v u Q I rx ry h hs;obtain⟨p,xs,i,z,rfl,rfl,hq,he,q⟩:=h;cases rx;obtain⟨t,rfl⟩:=ry;obtain⟨its,r,pl,hz⟩:=I.tuple hq;obtain⟨j,h1,h2,h3,h4,h5⟩:=rO he;obtain⟨w,ew,rw'⟩:=r.get h2;have hl:=r.length;have hn:=lQ;have fin:EP X pins U Q w s:=⟨z,H,I,rw',q⟩;exact subscriptTail_builtinR (x:=w) pl.typeIs slot_tuple_getitem.lookup
  (getItem_tuple (j:=j) (Q:=λr s'=>r=w/\EP X pins U Q r s') pl (by lia) (by lia) (by rw[O0,<-hl];exact h1) (by simpa using ew) ⟨rfl,fin⟩) hs
def Ho:mW X J7:=by
 intro value slice pins s U H x y v u Q I rx ry h hs;obtain⟨z,i,c,rfl,rfl,hz,he,q⟩:=h;obtain⟨t,rfl⟩:=rx;obtain⟨t',rfl⟩:=ry;obtain⟨j,h1,h2,h3,h4,h5⟩:=rO he;have hl:z.cps.toList.length=z.length:=by simp[Str.length]
 rw[hl]at h1 h4 h5;have hn:=lQ;exact tail_any (typeIs_str s z t) slot_str_getitem.lookup (getItem_str (c:=c) (by
  have e1:decide (i < -(2^63:Int))=false:=Ol (by lia)
  have e2:decide (i >= 2^63)=false:=Ol (by lia)
  rw[e1,e2,Bool.or_false]) (by rw[h1];simpa using h2) ⟨.str ⟨#[c]⟩,H,I.tok _,⟨_,rfl⟩,q⟩) hs
noncomputable def Kn (K:Rx):R2:=λx y H Q=>Kf K x y H Q\/Im K x y H Q\/J7 x y H Q
def BA:mW X (Kn X.K):=FT.or (HV.or Ho)
def zF(its:SG) (n j:Nat)(u:Value):Obj.mapSeq (·.setIfInBounds j u) { cls:=.type "list",data:=.seq its.toArray n }={ cls:=.type "list",data:=.seq (its.set j u).toArray n }:=by simp[Obj.mapSeq]
theorem Inv.lst{pins:Rt}{U:St}{H:Hp}{s:Shared}{p:Addr}{xs:List V}(I:Inv X pins U H s)(h:H p=some (.lst xs)) : ∃(its:SG) (n:Nat),Vals xs its/\s.heap.get? p=some { cls:=.type "list",data:=.seq its.toArray n }/\xs.length<=sizeLine:=by obtain⟨z,its,n,r,e⟩:=I.hok p _ h;exact⟨its,n,r,e,z⟩
def Inv.Iv{pins:Rt}{U:St}{H:Hp}{s:Shared}{p:Addr}{xs ys:List V}{its its':SG}{n n':Nat}{f:Obj->Obj}(I:Inv X pins U H s)(h:H p=some (.lst xs))(ho:s.heap.get? p=some { cls:=.type "list",data:=.seq its.toArray n })(hf:f { cls:=.type "list",data:=.seq its.toArray n }={ cls:=.type "list",data:=.seq its'.toArray n' })(r:Vals ys its')(hz:ys.length<=sizeLine) (t:Nat) : Inv X pins U (upd H p (.lst ys)) { s with heap:=s.heap.update p f,toks:=t }:=by
 have e:(s.heap.update p f).get? p=some { cls:=.type "list",data:=.seq its'.toArray n' }:=by rw[QF f ho (by rw[hf]<;>rfl),hf]
 refine I.write (x:=p) (e:=p) (by rw[h];trivial) (.inl rfl) (λb u hb q=>(Om _ _ (Ne.symm hb)).trans q) ⟨_,e⟩ ?_;exact⟨hz,its',n',r,e⟩
inductive AV(o:V) (i:V) (v:V)(H:Hp)(Q:(Hp->Prop)):Prop
 |mk:∀p xs k j,(o=.ref p)->(i=.int k)->(H p=some (.lst xs))->(mZ xs.length k=some j)->(Q (upd H p (.lst (xs.set j v))))->AV o i v H Q
noncomputable def EI:V->V->V->Hp->(Hp->Prop)->Prop:=λo i v H Q=>AV o i v H Q
def set_list:DZ X EI:=by
 intro pins s U H o i v ov iv u Q I ro ri rv h;obtain⟨p,xs,k,j,rfl,rfl,hp,hj,q⟩:=h;cases ro;obtain⟨t,rfl⟩:=ri;obtain⟨its,n,r,ho,hz⟩:=I.lst hp;obtain⟨h1,h2,h3,h4⟩:=yJ hj;have hl:=r.length;have hn:=lQ;have I':Inv X pins U (upd H p (.lst (xs.set j v))) { s with heap:=s.heap.update p (Obj.mapSeq (·.setIfInBounds j u)) }:=
  I.Iv hp ho (zF its n j u) (r.set rv j) (by rw[OR];exact hz) s.toks
 by_cases h0:0<=k
 .have hk:k.toNat=j:=by rw[seqIndex_of h0 h4]at h1;exact Option.some.inj h1
  exact PySem.W.ki_setAt ho h0 (by lia) (by rw[O0,<-hl];exact h4) (by rw[hk];exact⟨_,I',q⟩)
 have hk:(k+(its.toArray.size:Int)).toNat=j:=by rw[seqIndex_neg (by lia) h3]at h1;rw[O0,<-hl];exact Option.some.inj h1
 exact PySem.W.ki_setBack ho (by lia) (by rw[O0,<-hl];exact h3) (by lia) (by rw[hk];exact⟨_,I',q⟩)
def vK(lo hi:Option Int) (n:Nat):(sliceBounds lo hi none n).1=((HT.aO n 0 lo:Nat):Int)/\(sliceBounds lo hi none n).2.1=((HT.aO n n hi:Nat):Int)/\(sliceBounds lo hi none n).2.2=1:=by
 have one:∀i:Int,(sliceBounds (some i) none none n).1=((HT.aO n 0 (some i):Nat):Int):=λi=>by simp only[sliceBounds,HT.aO,Option.getD_none,show(1:Int)>0 by decide,if_true];by_cases h:i<0;{simp only[h,if_true]<;>lia};simp only[h,if_false]<;>lia
 refine⟨?_,?_,rfl⟩
 .cases lo with
  |none=>simp[sliceBounds,HT.aO]
  |some i=>exact one i
 cases hi with
 |none=>simp[sliceBounds,HT.aO]
 |some i=>exact one i
def ux(its:SG)(lo hi:Option Int):slicePick its.toArray lo hi none=((its.drop (HT.aO its.length 0 lo)).take (HT.aO its.length its.length hi-HT.aO its.length 0 lo)).toArray:=by obtain⟨h1,h2,h3⟩:=vK lo hi its.toArray.size;unfold slicePick;rw[h1,h2,h3];simp only[sliceRange_one,pick_run,O0]<;>rfl
inductive Fv(K:Rx) (x:V)(lo:Option Int)(hi:Option Int)(H:Hp)(Q:VK):Prop
 |mk:∀a xs,(x=.ref a)->(bX K H a xs)->(∀p,H p=none->Q (.ref p) (upd H p (.lst (mD xs lo hi))))->Fv K x lo hi H Q
noncomputable def Hx (K:Rx):V->Option Int->Option Int->Hp->VK->Prop:=λx lo hi H Q=>Fv K x lo hi H Q
def FU:AL X (Hx X.K):=by intro pins s U H x v vl vu lo hi sl Q I rx hs pl pu h;obtain⟨a,xs,rfl,hx,q⟩:=h;cases rx;obtain⟨its,r,ht,hz⟩:=I.list hx;have hlen:=r.length;refine⟨"list",_,slot_list_getitem.lookup,ht.isList.typeIs,?_⟩;refine wpAny_getItem_list_slice ht.isList hs pl pu .none (by simp) ?_ (by rw[O0]<;>lia);rw[ux,<-hlen];refine⟨.ref s.heap.objs.size,_,I.laid (t':=s.toks) (o:=.lst (mD xs lo hi)) (λb ob q=>O1 _ q) (N5 _) ?_,rfl,q _ (I.hok.fresh (N5 _))⟩;exact⟨NZ (oV xs lo hi) hz,_,0,(r.drop (HT.aO xs.length 0 lo)).take (HT.aO xs.length xs.length hi-HT.aO xs.length 0 lo),OC _ rfl⟩
def vY:cJ X (.builtin "len") (λxs H Q=>∃p ys,xs=[.ref p]/\(bX X.K H p ys\/aU X.K H p ys)/\Q (.int ys.length) H):=by intro pins s U H xs us Q I r h;obtain⟨p,ys,rfl,hq,q⟩:=h;obtain⟨u,rfl,rx⟩:=vals1 r;cases rx;have hn:=lQ;rcases hq with hq|hq;{obtain⟨its,r',pl,hz⟩:=I.list hq;have hlen:=r'.length;exact Calls.call_len_list pl.isList (by simp only[O0]<;>lia) ⟨.int ys.length,H,I.tok _,⟨s.toks+1,by rw[O0,hlen]⟩,q⟩};obtain⟨its,r',pl,hz⟩:=I.tuple hq;have hlen:=r'.length;exact len_tuple pl (by simp only[O0]<;>lia) ⟨.int ys.length,H,I.tok _,⟨s.toks+1,by rw[O0,hlen]⟩,q⟩
def cJ.or{f:Value}{r r':List V->Hp->VK->Prop}(h:cJ X f r)(h':cJ X f r'):cJ X f (λxs H Q=>r xs H Q\/r' xs H Q):=by intro pins s U H xs us Q I rs q;rcases q with q|q;{exact h pins s U H xs us Q I rs q};exact h' pins s U H xs us Q I rs q
def vS:cJ X (.type "list") (λxs H Q=>∃p ys,xs=[.ref p]/\(bX X.K H p ys\/aU X.K H p ys)/\∀l,H l=none->Q (.ref l) (upd H l (.lst ys))):=by
 intro pins s U H xs us Q I r h;obtain⟨p,ys,rfl,hq,q⟩:=h;obtain⟨u,rfl,rx⟩:=vals1 r;cases rx;have fin:∀(its:SG),Vals ys its->ys.length<=sizeLine->∀(h':Heap) (c':Nat),(∀b o',s.heap.get? b=some o'->h'.get? b=some o')->
   h'.get? s.heap.objs.size=some { cls:=.type "list",dict:=none,data:=.seq its.toArray c',slots:=#[] }->EP X pins U Q (.ref s.heap.objs.size) { s with heap:=h' }:=λits r' hz h' c' kp e=>
  ⟨.ref s.heap.objs.size,_,I.laid (t':=s.toks) kp (N5 _) (show bP X.prog X.w _ h' _ (.lst ys)from⟨hz,its,c',r',e⟩),rfl,q _ (I.hok.fresh (N5 _))⟩
 rcases hq with hq|hq;{obtain⟨its,r',pl,hz⟩:=I.list hq;have hlen:=r'.length;obtain⟨o,ho,hc,n,hd⟩:=pl.isList;exact call_list_seq p (.inl rfl) ho hc hd (λh' c' kp e=>fin its r' hz h' c' kp e) (by simp only[O0]<;>lia)};obtain⟨its,r',pl,hz⟩:=I.tuple hq;have hlen:=r'.length;obtain⟨o,ho,hc,n,hd⟩:=pl;exact call_list_seq p (.inr rfl) ho hc hd (λh' c' kp e=>fin its r' hz h' c' kp e) (by simp only[O0]<;>lia)
def t7:cJ X (.type "tuple") (λxs H Q=>∃p ys,xs=[.ref p]/\((bX X.K H p ys/\∀l,H l=none->Q (.ref l) (upd H l (.tup ys)))\/(aU X.K H p ys/\Q (.ref p) H))):=by
 intro pins s U H xs us Q I r h;obtain⟨p,ys,rfl,h⟩:=h;obtain⟨u,rfl,rx⟩:=vals1 r;cases rx;rcases h with⟨hq,q⟩|⟨hq,q⟩
 .obtain⟨its,r',pl,hz⟩:=I.list hq;have hlen:=r'.length;refine call_tuple_list pl.isList (λh' kp=>?_) (by simp only[O0]<;>lia);have I1:Inv X pins U H { s with heap:=h' }:=I.kept (t':=s.toks) kp;have I2:Inv X pins U (upd H h'.objs.size (.tup ys)) { s with heap:=h'.push { cls:=.type "tuple",data:=.seq its.toArray } }:=
   I1.laid (t':=s.toks) (λb o e=>O1 _ e) (N5 _) (show bP X.prog X.w _ _ _ (.tup ys)from⟨hz,its,r',IsTup.new _ _⟩)
  exact⟨.ref h'.objs.size,_,I2,rfl,q _ (I1.hok.fresh (N5 _))⟩
 obtain⟨its,r',pl,hz⟩:=I.tuple hq;exact call_tuple_same pl ⟨.ref p,H,I,rfl,q⟩
noncomputable def HU (K:Rx)(T:String) (x:V)(H:Hp):Prop:=match x with
 |.str _=>T="str"
 |.int _=>T="int"
 |.ref p=>(T="list"/\∃xs,bX K H p xs)\/(T="tuple"/\∃o,K.lookup p=some o/\o.cls=.type "tuple"/\o.dict=none) \/
   (T="dict"/\((∃kvs,H p=some (.dK kvs))\/∃kvs,H p=some (.dT kvs)))\/(T="set"/\∃S n,H p=some (.set S n))
 |_=>False
def AY{pins:Rt}{U:St}{H:Hp}{s:Shared}{T:String}{x:V}{v:Value}(I:Inv X pins U H s)(r:RelV x v)(ty:HU X.K T x H) : s.TypeIs v T/\∀a,v=.ref a->∃ob,s.heap.get? a=some ob/\ob.dict=none:=by
 cases x with
 |str z=>obtain⟨t,rfl⟩:=r;cases (show T="str" from ty);exact⟨typeIs_str s z t,λ_ e=>nomatch e⟩
 |int i=>obtain⟨t,rfl⟩:=r;cases (show T="int" from ty);exact⟨typeIs_int s i t,λ_ e=>nomatch e⟩
 |ref p=>
  cases r;rcases ty with⟨rfl,xs,hq⟩|⟨rfl,o,hk,hc,hd⟩|⟨rfl,hk⟩|⟨rfl,S,n,hk⟩;{obtain⟨its,_,pl,_⟩:=I.list hq;refine⟨pl.isList.typeIs,λa e=>?_⟩;cases e;obtain⟨o,n,e,c,hd,_⟩:=pl;exact⟨o,e,hd⟩};{refine⟨⟨o,I.gK p o hk,hc⟩,λa e=>?_⟩;cases e;exact⟨o,I.gK _ o hk,hd⟩}
  .have z:∃o,s.heap.get? p=some o/\o.ExactDict:=by rcases hk with⟨kvs,hk⟩|⟨kvs,hk⟩;{obtain⟨_,_,_,_,o,_,_,e,ex,_⟩:=I.hok p _ hk;exact⟨o,e,ex⟩};obtain⟨_,_,_,_,o,_,_,e,ex,_⟩:=I.hok p _ hk;exact⟨o,e,ex⟩
   obtain⟨o,e,ex⟩:=z;refine⟨⟨o,e,ex.1⟩,λa e2=>?_⟩;cases e2;exact⟨o,e,ex.2.1⟩
  obtain⟨o,_,_,_,e,ex,_⟩:=I.hok p _ hk;refine⟨⟨o,e,ex.1⟩,λa e2=>?_⟩;cases e2;exact⟨o,e,ex.2.1⟩
 |_=>exact False.elim ty
noncomputable def M5 (K:Rx)(T:String)(r:V->List V->Hp->VK->Prop)(to:TE):TE:=λU H Q=>to U H λx H1=>HU K T x H1/\r x [] H1 Q
noncomputable def Ny (K:Rx)(T:String)(r:V->List V->Hp->VK->Prop)(to:TE)(t:TA):TE:=λU H Q=>to U H λx H1=>HU K T x H1/\t U H1 λxs H2=>r x xs H2 Q
variable{o e:Expr}{es:SK}{to:TE}{t:TA}{name:Str}{apos cpos:Pos}{T id:String}{r:V->List V->Hp->VK->Prop}
def HF(pa:PlainAttrs T)(slot:Slot T name id)(hty:typeOf (.builtin id)=pure (.type "method_descriptor"))(hm:Mp X id r)(ho:PE X o to)(hbase:attributeBase o name X.env (eval o X.env)=eval o X.env:=by rfl)(hline:(apos.endLine==cpos.line)=true:=by rfl):PE X (.Call (.Attribute o name apos) [] [] cpos) (M5 X.K T r to):=by intro pins s U H Q I h;refine wpAny_Call_method0_late hbase hline (aQ (ho pins s U H _ I h) λv s1 ⟨x,H1,I1,r1,ty,q1⟩=>?_);obtain⟨h1,h2⟩:=AY I1 r1 ty;exact⟨T,id,pa,slot,hty,h1,h2,Calls.callWith_builtin rfl (PySem.evalArgs_none (hm pins s1 U H1 x [] v [] Q I1 r1 .nil q1))⟩
def zD(pa:PlainAttrs T)(slot:Slot T name id)(hty:typeOf (.builtin id)=pure (.type "method_descriptor"))(hm:Mp X id r)(ho:PE X o to)(ha:PA X (e::es) t)(hbase:attributeBase o name X.env (eval o X.env)=eval o X.env:=by rfl)(hfew:((backTo cpos (starEach (e::es) X.env)).all (λx=>!x.1)&&(backToKw cpos (keywordEach [] X.env)).all (λx=>x.1.isSome) && decide ((e::es).length+([]:List Keyword).length+(if([]:List Keyword).isEmpty then 0 else 1)<30))=true:=by rfl)(hline:(apos.endLine==cpos.line)=true:=by rfl)(hs:starEach (e::es) X.env=(false,eval e X.env)::starEach es X.env:=by rfl)(hplain:(backTo cpos (starEach es X.env)).any (·.1)=false:=by rfl) : PE X (.Call (.Attribute o name apos) (e::es) [] cpos) (Ny X.K T r to t):=by intro pins s U H Q I h;refine wpAny_Call_method_late hbase hfew hline rfl (aQ (ho pins s U H _ I h) λv s1 ⟨x,H1,I1,r1,ty,q1⟩=>?_);obtain⟨h1,h2⟩:=AY I1 r1 ty;refine⟨T,id,pa,slot,hty,h1,h2,?_⟩;have hA:=ha cpos pins s1 U H1 _ I1 q1;rw[hs]at hA⊢;refine Calls.callWith_builtin (by show(false||(backTo cpos (starEach es X.env)).any (·.1))=false;rw[hplain]<;>rfl) (Calls.evalArgs_plain ?_);exact aQ hA λus s2 ⟨vs,H2,I2,r2,q2⟩=>hm pins s2 U H2 x vs v us Q I2 r1 r2 q2
end
noncomputable def qu (X:Cx)(id:String)(r:V->List V->Hp->VK->Prop):Prop:=
 ∀(pins:Rt)(s:Shared)(U:St)(H:Hp) (x:V)(xs:List V)(v:Value)(us:SG)(Q:VK),Inv X pins U H s->RelV x v->Vals xs us->r x xs H Q->
  wpAny (model X.prog X.w) X.A (call (.builtin id) (v::us)) (EP X pins U Q) X.xe s
def Vals.one{x:V}{us:SG}(h:Vals [x] us):∃u,us=[u]/\RelV x u:=by cases h with|cons r t=>cases t;exact⟨_,rfl,r⟩
def Vals.two{x y:V}{us:SG}(h:Vals [x,y] us):∃u v,us=[u,v]/\RelV x u/\RelV y v:=by cases h with|cons r t=>cases t with|cons q t=>cases t;exact⟨_,_,rfl,r,q⟩
theorem Vals.rep{xs:List V}{us:SG}(h:Vals xs us):∀k:Nat,Vals (List.replicate k xs).flatten (List.replicate k us).flatten
 |0=>.nil
 |k+1=>by rw[P9,P9,Pc,Pc];exact Vals.append h (Vals.rep h k)
theorem foldl_rep(its:SG):∀(k:Nat)(acc:SG), List.foldl (λx1 x2=>x1++x2) acc.toArray (List.replicate k its.toArray)=(acc++(List.replicate k its).flatten).toArray
 |0,acc=>by simp
 |k+1,acc=>by
  have e:acc.toArray++its.toArray=(acc++its).toArray:=by simp
  have e2:(acc++its)++(List.replicate k its).flatten=acc++(List.replicate (k+1) its).flatten:=by rw[P9,Pc,OS]
  rw[<-e2,<-foldl_rep its k (acc++its),<-e,P9,List.foldl_cons]
section
variable{X:Cx}{pins:Rt}{U:St}{H:Hp}{s:Shared}{l b:Addr}{xs ys zs:List V}
def Inv.yV{its its':SG}{n:Nat}{f:Rz->Rz}{t':Nat}(I:Inv X pins U H s)(hH:H l=some (.lst xs))(e:s.heap.get? l=some { cls:=.type "list",data:=.seq its.toArray n })(hf:f its.toArray=its'.toArray)(hv:Vals ys its')(hz:ys.length<=sizeLine) : Inv X pins U (upd H l (.lst ys)) { s with heap:=s.heap.update l (Obj.mapSeq f),toks:=t' }:=by have q:=PySem.IsL.update e f;rw[hf]at q;refine I.write (x:=l) (e:=l) (by rw[hH];exact trivial) (.inl rfl) (λb' u hb hu=>(Om s.heap (Obj.mapSeq f) (Ne.symm hb)).trans hu) ⟨_,q⟩ ?_;exact⟨hz,its',_,hv,q⟩
def Inv.HM{its:SG}{t':Nat}(I:Inv X pins U H s)(hv:Vals ys its)(hz:ys.length<=sizeLine) : Inv X pins U (upd H s.heap.objs.size (.lst ys)) { s with heap:=s.heap.push { cls:=.type "list",data:=.seq its.toArray },toks:=t' }:=
 I.laid (λ_ _ q=>O1 _ q) (N5 _) ⟨hz,its,0,hv,OC _ rfl⟩
theorem Inv.fresh(I:Inv X pins U H s):H s.heap.objs.size=none:=I.hok.fresh (N5 _)
def Inv.zz(I:Inv X pins U H s)(hH:H l=some (.lst xs)):xs.length<=sizeLine/\∃(its:SG) (n:Nat),Vals xs its/\xs.length=its.length/\s.heap.get? l=some { cls:=.type "list",data:=.seq its.toArray n }:=by obtain⟨z,its,n,r,e⟩:=I.hok l _ hH;exact⟨z,its,n,r,r.length,e⟩
def qt{n:Nat}(h:n<=sizeLine):Builtin.List.listTooLong n=false:=by unfold Builtin.List.listTooLong;exact Ol (by lia)
end
section
variable{X:Cx}
noncomputable def yG:V->List V->Hp->VK->Prop:=λx vs H Q=>∃l xs y,x=.ref l/\vs=[y]/\H l=some (.lst xs)/\xs.length<sizeLine/\Q .bq (upd H l (.lst (xs++[y])))
def cG:qu X "list.append" yG:=by intro pins s U H x vs v us Q I rx rv h;obtain⟨l,xs,y,rfl,rfl,hH,hz,q⟩:=h;cases rx;obtain⟨u,rfl,ru⟩:=rv.one;obtain⟨z,its,n,r,hl,e⟩:=I.zz hH;refine Pd F.slot_list_append ⟨_,e,rfl⟩ F.entry_list_append (F.args_list_append_2 _ _) (PySem.list_append l its.toArray n u (by rw[O0];lia)) ⟨e,?_⟩;refine⟨.bq,_,I.yV (its':=its++[u]) hH e (by simp) (r.append (.cons ru .nil)) ?_,rfl,q⟩;rw[NU,List.length_singleton];lia
def len_rep{α:Type}(xs:List α) (k:Nat):(List.replicate k xs).flatten.length=k*xs.length:=by
 induction k with
 |zero=>simp
 |succ k ih=>rw[P9,Pc,NU,ih,Nat.succ_mul,Nat.add_comm]
end
section
variable{κ:Type} [DecidableEq κ]
noncomputable def cP (kvs:List (κ×V))(k:κ):Option V:=(kvs.find? λkv=>decide (kv.1=k)).map (·.2)
noncomputable def putK (kvs:List (κ×V))(k:κ) (v:V):List (κ×V):=
 if(kvs.any λkv=>decide (kv.1=k))=true then kvs.map (λkv=>if kv.1=k then(kv.1,v)else kv)else kvs++[(k,v)]
def pZ{p:κ×V}{r:List (κ×V)}{k:κ}(e:p.1=k):cP (p::r) k=some p.2:=by simp[cP,Pu,e]
def qk{p:κ×V}{r:List (κ×V)}{k:κ}(e:¬p.1=k):cP (p::r) k=cP r k:=by simp[cP,Pu,e]
theorem wC(k:κ):∀kvs:List (κ×V),(kvs.any λkv=>decide (kv.1=k))=(cP kvs k).isSome
 |[]=>rfl
 |p::r=>by rw[Pe];by_cases e:p.1=k;{simp only[pZ e,Pw e,Bool.true_or,Option.isSome_some]};rw[qk e,Ol e,Bool.false_or];exact wC k r
def oY(kvs:List (κ×V))(k:κ) (v:V):(putK kvs k v).length<=kvs.length+1:=by unfold putK;split;{rw[NS];lia};rw[NU,OF,List.length_nil];lia
def kE.jf{o:Option V}{u:Ry}(r:kE o u):o.isSome=u.isSome:=by
 cases o with
 |none=>cases u with
  |none=>rfl
  |some _=>exact(show False from r).elim
 |some _=>cases u with
  |none=>exact(show False from r).elim
  |some _=>rfl
def KV.val{kvs:List (κ×V)}{vs:List (κ×Value)}(r:KV kvs vs)(k:κ):kE (cP kvs k) (valueAt vs k):=by
 unfold KV at r;induction r with
 |nil=>exact P8
 |@cons p q ps qs h t ih=>
  obtain⟨h1,h2⟩:=h;by_cases e:p.1=k
  .have e':q.1=k:=h1.symm.trans e;have b:valueAt (q::qs) k=some q.2:=by simp[valueAt,Pu,e']
   rw[pZ e,b];exact h2
  have e':¬q.1=k:=λz=>e (h1.trans z);have b:valueAt (q::qs) k=valueAt qs k:=by simp[valueAt,Pu,e']
  rw[qk e,b];exact ih
theorem KV.any{kvs:List (κ×V)}{vs:List (κ×Value)}(r:KV kvs vs)(k:κ):(kvs.any λkv=>decide (kv.1=k))=vs.any λkv=>decide (kv.1=k):=by
 unfold KV at r;induction r with
 |nil=>rfl
 |cons h t ih=>rw[Pe,Pe,ih,h.1]
def KV.repl{kvs:List (κ×V)}{vs:List (κ×Value)}(r:KV kvs vs)(k:κ){y:V}{u:Value}(ry:RelV y u) : KV (kvs.map λkv=>if kv.1=k then(kv.1,y)else kv) (vs.map λkv=>if kv.1=k then(kv.1,u)else kv):=by
 unfold KV at r⊢;induction r with
 |nil=>exact .nil
 |@cons p q ps qs h t ih=>rw[OP,OP];refine .cons ?_ ih;obtain⟨h1,h2⟩:=h;by_cases e:p.1=k;{rw[if_pos e,if_pos (h1.symm.trans e)];exact⟨h1,ry⟩};rw[if_neg e,if_neg (λz=>e (h1.trans z))];exact⟨h1,h2⟩
def KV.put{kvs:List (κ×V)}{vs:List (κ×Value)}(r:KV kvs vs)(k:κ){y:V}{u:Value}(ry:RelV y u):KV (putK kvs k y) (stored vs k u):=by unfold putK stored;rw[r.any k];by_cases e:(vs.any λkv=>decide (kv.1=k))=true;{rw[if_pos e,if_pos e];exact r.repl k ry};rw[if_neg e,if_neg e];exact Paired.snoc r ⟨rfl,ry⟩
theorem KV.length{kvs:List (κ×V)}{vs:List (κ×Value)}(r:KV kvs vs):kvs.length=vs.length:=Paired.length r
end
def qM{P:Program}{w:World}{k:Key}{u:Value}(r:RelV (kV k) u):(cS P w).is k u=true:=by
 cases k with
 |inl i=>obtain⟨t,e⟩:=(show ∃t,u=Value.int i t from r);subst e;exact xg P w i t
 |inr x=>obtain⟨t,e⟩:=(show ∃t,u=Value.str x t from r);subst e;exact w4 P w x t
theorem tN{P:Program}{w:World}:∀{ks:List Key}{us:SG},Vals (ks.map kV) us->ItemsAre (cS P w) ks us
 |[],_,r=>by rw[List.map_nil]at r;cases r;exact .nil
 |k::ks,_,r=>by
  rw[OP]at r;cases r with
  |cons h t=>exact .cons (qM h) (tN t)
noncomputable abbrev KT (H:Hp):List (List Key×V)->List (List Key×Addr×Value)->Prop:=Paired λp q=>p.1=q.1/\H q.2.1=some (.tup (p.1.map kV))/\RelV p.2 q.2.2
def KT.val{H:Hp}{kvs:List (List Key×V)}{xs:List (List Key×Addr×Value)}(r:KT H kvs xs)(k:List Key):kE (cP kvs k) ((atKey xs k).map (·.2)):=by
 induction r with
 |nil=>exact P8
 |@cons p q ps qs h t ih=>
  obtain⟨h1,_,h2⟩:=h;by_cases e:p.1=k
  .have e':q.1=k:=h1.symm.trans e;have b:atKey (q::qs) k=some q.2:=by simp[atKey,Pu,e']
   rw[pZ e,b];exact h2
  have e':¬q.1=k:=λz=>e (h1.trans z);have b:atKey (q::qs) k=atKey qs k:=by simp[atKey,Pu,e']
  rw[qk e,b];exact ih
def KT.repl{H:Hp}{kvs:List (List Key×V)}{xs:List (List Key×Addr×Value)}(r:KT H kvs xs)(k:List Key){y:V}{u:Value}(ry:RelV y u) : KT H (kvs.map λkv=>if kv.1=k then(kv.1,y)else kv) (xs.map (putAt k u)):=by
 induction r with
 |nil=>exact .nil
 |@cons p q ps qs h t ih=>rw[OP,OP];refine .cons ?_ ih;obtain⟨h1,h2,h3⟩:=h;unfold putAt;by_cases e:p.1=k;{rw[if_pos e,if_pos (h1.symm.trans e)];exact⟨h1,h2,ry⟩};rw[if_neg e,if_neg (λz=>e (h1.trans z))];exact⟨h1,h2,h3⟩
def KT.put{H:Hp}{kvs:List (List Key×V)}{xs:List (List Key×Addr×Value)}(r:KT H kvs xs)(k:List Key){b:Addr}{y:V}{u:Value}(hb:H b=some (.tup (k.map kV)))(ry:RelV y u) : KT H (putK kvs k y) (storedH xs k b u):=by
 have e:(kvs.any λkv=>decide (kv.1=k))=(atKey xs k).isSome:=by rw[wC,(r.val k).jf,RL]
 unfold putK storedH;rw[e];by_cases q:(atKey xs k).isSome=true;{rw[if_pos q,if_pos q];exact r.repl k ry};rw[if_neg q,if_neg q];exact Paired.snoc r ⟨rfl,hb,ry⟩
def KT.keeps{H H':Hp}{kvs:List (List Key×V)}{xs:List (List Key×Addr×Value)}(r:KT H kvs xs)(ht:∀b ys,H b=some (.tup ys)->H' b=some (.tup ys)):KT H' kvs xs:=
 Paired.DO r λ_ _ z=>⟨z.1,ht _ _ z.2.1,z.2.2⟩
section
variable{P:Program}{w:World}{H:Hp}{h:Heap}{a:Addr}
def E7{u:HO}(ok:cX P w H h)(e:Rd H a u):bP P w H h a u:=e.ok ok
def oJ{kvs:List (Key×V)}(ok:cX P w H h)(e:Rd H a (.dK kvs)):kvs.length<=sizeLine/\(a==sysModules)=false/\∃vs,KV kvs vs/\h.DictOf (cS P w) a vs:=
 show bP P w H h a (.dK kvs)from E7 ok e
def Ld{kvs:List (Key×V)}(ok:cX P w H h)(e:H a=some (.dK kvs)):kvs.length<=sizeLine/\(a==sysModules)=false/\∃vs,KV kvs vs/\h.DictOf (cS P w) a vs:=oJ ok (.inl e)
def om{ks:List Key}(ok:cX P w H h)(e:H a=some (.tup (ks.map kV))):(tupleKind (cS P w)).is h ks a:=by obtain⟨_,its,r,o,h1,h2,n,h3⟩:=(show bP P w H h a (.tup (ks.map kV))from ok a _ e);exact⟨o,its.toArray,n,h1,h2,h3,by simpa using tN r⟩
def rD{kvs:List (List Key×V)}(ok:cX P w H h)(e:Rd H a (.dT kvs)):kvs.length<=sizeLine/\(a==sysModules)=false /\ ∃xs,KT H kvs xs/\h.DictOfH (tupleKind (cS P w)) a xs:=by
 obtain⟨z,y,xs,r,o,es,ep,h1,h2,h3,h4,h5⟩:=(show bP P w H h a (.dT kvs)from E7 ok e);refine⟨z,y,xs,r,o,es,ep,h1,h2,h3,h4,λx hx=>?_,h5⟩;have all:∀{l:List (List Key×V)}{m:List (List Key×Addr×Value)},KT H l m->∀x∈m,(tupleKind (cS P w)).is h x.1 x.2.1:=by
  intro l m q;induction q with
  |nil=>intro x hx;exact nomatch hx
  |@cons p q ps qs hq t ih=>intro x hx;rcases NY.mp hx with e|hx;{subst e;exact om ok (by rw[<-hq.1];exact hq.2.1)};exact ih x hx
 exact all r x hx
def Li{kvs:List (List Key×V)}(ok:cX P w H h)(e:H a=some (.dT kvs)):kvs.length<=sizeLine/\(a==sysModules)=false /\ ∃xs,KT H kvs xs/\h.DictOfH (tupleKind (cS P w)) a xs:=rD ok (.inl e)
end
noncomputable def gZ (H:Hp)(a:Addr) (y:V)(r:Option V):Prop:=
 (∃kvs k,Rd H a (.dK kvs)/\y=kV k/\r=cP kvs k)\/∃kvs k b,Rd H a (.dT kvs)/\y=.ref b/\H b=some (.tup (k.map kV))/\r=cP kvs k
noncomputable def nX (H:Hp)(a:Addr) (y v:V)(H':Hp):Prop:=
 (∃kvs k,H a=some (.dK kvs)/\y=kV k/\kvs.length<sizeLine/\H'=upd H a (.dK (putK kvs k v))) \/
 ∃kvs k b,H a=some (.dT kvs)/\y=.ref b/\H b=some (.tup (k.map kV))/\kvs.length<sizeLine/\H'=upd H a (.dT (putK kvs k v))
theorem gZ.k{H:Hp}{a:Addr}{kvs:List (Key×V)}{k:Key}(e:H a=some (.dK kvs)):gZ H a (kV k) (cP kvs k):=.inl ⟨kvs,k,.inl e,rfl,rfl⟩
def gZ.t{H:Hp}{a b:Addr}{kvs:List (List Key×V)}{k:List Key}(e:H a=some (.dT kvs))(eb:H b=some (.tup (k.map kV))):gZ H a (.ref b) (cP kvs k):=.inr ⟨kvs,k,b,.inl e,rfl,eb,rfl⟩
theorem nX.k{H:Hp}{a:Addr}{kvs:List (Key×V)}{k:Key}{v:V}(e:H a=some (.dK kvs))(hl:kvs.length<sizeLine):nX H a (kV k) v (upd H a (.dK (putK kvs k v))):=.inl ⟨kvs,k,e,rfl,hl,rfl⟩
def nX.t{H:Hp}{a b:Addr}{kvs:List (List Key×V)}{k:List Key}{v:V}(e:H a=some (.dT kvs))(eb:H b=some (.tup (k.map kV)))(hl:kvs.length<sizeLine) : nX H a (.ref b) v (upd H a (.dT (putK kvs k v))):=.inr ⟨kvs,k,b,e,rfl,eb,hl,rfl⟩
section
variable{X:Cx}{pins:Rt}{U:St}{H:Hp}{s:Shared}{a:Addr}{y v:V}{u r:Value}{o:Option V}{A:Around}{E:Ro}
def AZ{Q:Ro}(hu:A.units+1<cLine)(I:Inv X pins U H s)(g:gZ H a y (some v))(ry:RelV y u)(h:∀w' s',Inv X pins U H s'->RelV v w'->Q w' s') : wpAny (model X.prog X.w) A (getItem (.ref a) u) Q E s:=by rcases g with⟨kvs,k,e,ey,l⟩|⟨kvs,k,b,e,ey,eb,l⟩;{subst ey;obtain⟨z,hd,vs,rel,dd⟩:=oJ I.hok e;obtain⟨w',hw,rw'⟩:=kE.some_of (v:=v) (o:=valueAt vs k) (by rw[l];exact rel.val k);exact wpAny_getItem_of (qM ry) dd.mapOf hw (h w' _ (I.tok _) rw')};subst ey;cases (show u=Value.ref b from ry);obtain⟨z,hd,xs,rel,dd⟩:=rD I.hok e;obtain⟨w',hw,rw'⟩:=kE.some_of (v:=v) (o:=(atKey xs k).map (·.2)) (by rw[l];exact rel.val k);obtain⟨p,hp,hp2⟩:=Px.mp hw;refine wpAny_getItem_heap (QY hu) (om I.hok eb) dd hp ?_;rw[hp2];exact h w' _ (I.tok _) rw'
def MC{Q:Ro}(hu:A.units+1<cLine)(I:Inv X pins U H s)(g:gZ H a y o)(ry:RelV y u)(h:∀s',Inv X pins U H s'->Q (.bool o.isSome) s') : wpAny (model X.prog X.w) A (compareOp .In u (.ref a)) Q E s:=by rcases g with⟨kvs,k,e,ey,l⟩|⟨kvs,k,b,e,ey,eb,l⟩;{subst ey;obtain⟨z,hd,vs,rel,dd⟩:=oJ I.hok e;refine wpAny_in_of (qM ry) hd dd.mapOf ?_;rw[<-(rel.val k).jf,<-l];exact h _ (I.tok _)};subst ey;cases (show u=Value.ref b from ry);obtain⟨z,hd,xs,rel,dd⟩:=rD I.hok e;refine wpAny_in_heap (QY hu) (om I.hok eb) hd dd ?_;have q:=(rel.val k).jf;rw[RL]at q;rw[<-q,<-l];exact h _ (I.tok _)
def G4{Q:Ro}(hu:A.units+1<cLine)(I:Inv X pins U H s)(g:gZ H a y o)(ry:RelV y u)(h:∀s',Inv X pins U H s'->Q (.bool (!o.isSome)) s') : wpAny (model X.prog X.w) A (compareOp .NotIn u (.ref a)) Q E s:=by rcases g with⟨kvs,k,e,ey,l⟩|⟨kvs,k,b,e,ey,eb,l⟩;{subst ey;obtain⟨z,hd,vs,rel,dd⟩:=oJ I.hok e;refine wpAny_notIn_of (qM ry) hd dd.mapOf ?_;rw[<-(rel.val k).jf,<-l];exact h _ (I.tok _)};subst ey;cases (show u=Value.ref b from ry);obtain⟨z,hd,xs,rel,dd⟩:=rD I.hok e;refine wpAny_notIn_heap (QY hu) (om I.hok eb) hd dd ?_;have q:=(rel.val k).jf;rw[RL]at q;rw[<-q,<-l];exact h _ (I.tok _)
def yi{h':Heap}{t':Nat}{ob:HO}(I:Inv X pins U H s)(mu:Ce (H a))(hs:Heap.SameBut a s.heap h')(he:∃q,h'.get? a=some q)(new:bP X.prog X.w (upd H a ob) h' a ob) : Inv X pins U (upd H a ob) { s with heap:=h',toks:=t' }:=
 I.write (x:=a) (e:=a) mu (.inl rfl) (λb q hb z=>(hs.2 b hb).trans z) he new
def HQ{P:Program}{w:World}{H':Hp}{h':Heap}{kvs:List (Key×V)}{vs:List (Key×Value)}(z:kvs.length<=sizeLine)(hd:(a==sysModules)=false)(rel:KV kvs vs)(dd:h'.DictOf (cS P w) a vs) : bP P w H' h' a (.dK kvs):=⟨z,hd,vs,rel,dd⟩
def BK{H':Hp}{Q:Unit->Shared->Prop}(hu:A.units+1<cLine)(I:Inv X pins U H s)(g:nX H a y v H')(ry:RelV y u)(rv:RelV v r)(h:∀s',Inv X pins U H' s'->Q () s') : wpAny (model X.prog X.w) A (setItem (.ref a) u r) Q E s:=by
 rcases g with⟨kvs,k,e,ey,l,eH⟩|⟨kvs,k,b,e,ey,eb,l,eH⟩
 .subst ey eH;obtain⟨z,hd,vs,rel,dd⟩:=Ld I.hok e;have hz:vs.length<=sizeLine:=by rw[<-rel.length];exact z
  have hl:(putK kvs k v).length<=sizeLine:=by have:=oY kvs k v;lia
  refine wpAny_setItem_pairs (hsz:=hz) (qM ry) dd λh' dd' hs=>h _ ?_;have he:∃q,h'.get? a=some q:=let⟨q,_,_,hq,_⟩:=dd';⟨q,hq⟩;exact yi I (by rw[e];exact P8) hs he (HQ hl hd (rel.put k rv) dd')
 subst ey eH;cases (show u=Value.ref b from ry);obtain⟨z,hd,xs,rel,dd⟩:=Li I.hok e;have hz:xs.length<=sizeLine:=by rw[<-Paired.length rel];exact z
 have hl:(putK kvs k v).length<=sizeLine:=by have:=oY kvs k v;lia
 refine wpAny_setItem_heap (hsz:=hz) (QY hu) (om I.hok eb) dd λh' dd' hs=>h _ ?_;obtain⟨q,es,ep,hq,h2,h3,h4,_,h5⟩:=dd';refine yi I (by rw[e];exact P8) hs ⟨q,hq⟩ ⟨hl,hd,_,(rel.put k eb rv).keeps λc ys ec=>?_,q,es,ep,hq,h2,h3,h4,h5⟩;rw[ao (KS ec e (λz=>nomatch z))];exact ec
end
section
variable{X:Cx}{pins:Rt}{U:St}{H:Hp}{s:Shared}{a:Addr}{kvs:List (Key×V)}{k:Key}{u:Value}{A:Around}{E:Ro}
def Ls{Q:Ro}(I:Inv X pins U H s)(e:Rd H a (.dK kvs))(h:∀t s',Inv X pins U H s'->Q (.int kvs.length t) s'):wpAny (model X.prog X.w) A (call (.builtin "len") [.ref a]) Q E s:=by obtain⟨z,hd,vs,rel,dd⟩:=oJ I.hok e;refine call_len_dict hd dd (by rw[<-rel.length];rw[sizeLine_eq]at z;lia) ?_;rw[<-rel.length];exact h _ _ (I.tok _)
end
def w9{X:Cx}{pins:Rt}{U:St}{H:Hp}{s:Shared}{a:Addr}{y:V}{o:Option V}(I:Inv X pins U H s)(g:gZ H a y o):s.TypeIs (.ref a) "dict":=by rcases g with⟨kvs,k,e,_,_⟩|⟨kvs,k,b,e,_,_,_⟩;{obtain⟨_,_,vs,_,dd⟩:=oJ I.hok e;exact dd.typeIs};obtain⟨_,_,xs,_,dd⟩:=rD I.hok e;exact dd.typeIs
end L2
namespace LW
open PySem PySem.W PySem.Calls PyProof.Rows
def qA{P:Params}{h:Heap}:∀(ns:SO)(vs:SG),WellAll P h vs (ns.map WData.int)->IntsAre vs ns:=by
 intro ns;induction ns with
 |nil=>intro vs w;rw[List.map_nil]at w;cases w;exact .nil
 |cons n ns ih=>
  intro vs w;rw[OP]at w;cases w with
  |cons a b=>cases a;exact .cons _ _ (ih _ b)
def AB{l:OpenLaw}{n:Nat}(hn:l.most=some n){P:Params}{h:Heap}{args:List WData}{vals:SG}(hpre:l.row.toRowW.claim.pre args=true)(hwl:WellAll P h vals args) : ∃a vs ns,vals=[Value.ref a]/\args=[WData.list (ns.map WData.int)]/\h.get? a=some { cls:=.type "list",data:=.seq vs.toArray }/\IntsAre vs ns/\ns.length<=n:=by
 have hsh:WShape.hasAll [] args [.list .int]=true:=(pre_splitW hpre).1;have hc:l.pre.holds [] { args:=args }=true:=(pre_splitW hpre).2;obtain⟨d,r,rfl,h1,h2⟩:=hasAllW_cons hsh;obtain rfl:=hasAllW_nil h2;obtain⟨xs,rfl,h3⟩:=hasW_list h1;obtain⟨ns,rfl⟩:=items_int h3;have hlen:ns.length<=n:=by
  unfold OpenLaw.pre at hc;have h4:(WTm.not (.lt (.lit (.int (n:Int))) (.len (.arg 0)))).holds [] { args:=[.list (ns.map .int)] }=true:=by have h4:=(holds_andW hc).1;rw[hn]at h4;exact h4
  have h5:=condW_of h4 (w_not (w_lt w_lit (w_len_list (w_arg rfl))));rw[NS]at h5;refine Nat.le_of_not_lt λq=>?_;have q':(n:Int)<((ns.length:Nat):Int):=by lia
  first
   | (rw[Pw q']at h5;exact absurd h5 (by decide))
   | (simp at h5;lia)
 cases hwl with
 |cons w1 w2=>
  cases w2;cases w1 with
  |list ho hall=>exact⟨_,_,ns,rfl,rfl,ho,qA ns _ hall,hlen⟩
def AO(l:OpenLaw)(args:List WData):l.row.toRowW.claim.post args (.bool true) args=true:=
 postW_of (r:=l.row.toRowW) (X:=(true==true))
  (show WShape.has [] (.bool true) .bool=true by first|rfl|decide|simp[WShape.has,WShape.arms,WShape.armsAll])
  (show(WTm.eq .res (.lit (.bool true))).value [] { args:=args,res:=some (.bool true),after:=args }=some (.bool (true==true))from w_eq_bool (w_res rfl) w_lit) rfl
def xq{l:OpenLaw}{n:Nat}{q:Program}{loose:SQ}{XP:(Rr)->Heap->Prop}{YP:World->Heap->Prop}{d:DefRec}(hn:l.most=some n)(hdf:d.params.defaults=[])(call:∀(w:World)(s₀ s₁:Shared)(mg mb:Rr)(fa:Addr)(o:Obj)(pm cd doc:Value)(a:Addr)(vs:SG)(ns:SO), Ground q loose [] XP w s₀ mg mb s₁.heap->YP w s₁.heap-> s₁.heap.get? fa=some o->o.data=.func (docDef d.name d.params d.body d.scope pm cd doc)->s₁.heap.CodeRec cd d.name->mg d.name=some (.ref fa)-> s₁.heap.get? a=some { cls:=.type "list",data:=.seq vs.toArray }->IntsAre vs ns->ns.length<=n->s₁.gens=#[]-> codeAny (model l.prog w) callerA (.call (.ref fa) ⟨[.ref a],[]⟩) (λr s'=>r=.ok (.ret (.bool true))/\OldK s₁.heap s'.heap/\s'.os=s₁.os/\AllBare s'.gens) s₁) : WalkO q loose XP YP l.row.toRowW d [] (λf vs=>PySem.call f vs):=by intro w s₀ s₁ mg mb G SV fa o pm cd doc dV kV ho hd hcd hD hmg hg args vals as hpre hlay hrd hwl hlo;obtain rfl:dV=.none:=Dflts.none hD hdf;obtain rfl:kV=.none:=Dflts.noKw hD;obtain⟨a,vs,ns,rfl,rfl,hobj,hints,hlen⟩:=AB hn hpre hwl;refine enter_call (codeAny_mono (call w s₀ s₁ mg mb fa o pm cd doc a vs ns G SV ho (fd_plain hd) hcd hmg hobj hints hlen hg) λr s' hq=>?_);obtain⟨rfl,h2,h3,h4⟩:=hq;exact⟨.inl ⟨.bool true,.bool true,[],rfl,λ_=>rfl,.bool true,AO l _,λ_=>⟨List.Pairwise.nil,λ_ hm=>(nomatch hm)⟩⟩,h2,h3,h4⟩
end LW
namespace L2
open PySem PySem.Spec PyProof.Rows
theorem tO:∀{vs:SG}{ns:SO},IntsAre vs ns->Vals (ns.map V.int) vs
 |_,_,.nil=>.nil
 |_,_,.cons n t h=>.cons ⟨t,rfl⟩ (tO h)
noncomputable def D9 (H:Hp):Prop:=∀b,H b=none\/∃o xs,H b=some (.dZ o (.lst xs))
end L2
namespace L2
open PySem PySem.Spec PyProof.Rows
noncomputable def iN (s:Stmt):Arguments:=match s with
 |.FunctionDef _ a _ _ _ _ _ _ _ _=>a
 |_=>{ posonlyargs:=[],args:=[],vararg:=none,kwonlyargs:=[],kw_defaults:=[],kwarg:=none,defaults:=[] }
noncomputable def fK (s:Stmt):SM:=match s with
 |.FunctionDef _ _ b _ _ _ _ _ _ _=>b
 |_=>[]
noncomputable def aq (s:Stmt):Scope:=match s with
 |.FunctionDef _ _ _ _ _ _ sc _ _ _=>sc
 |_=>{ kind:=.function,names:=[],isGenerator:=false,isCoroutine:=false }
noncomputable abbrev E0:XK:=λ_ _ _=>False
structure qv(K:Rx) (x qual:Str)(st:Stmt)(f:Addr)(fd:FuncData):Prop where
 ex:∃(oc:Value)(od:SD)(kV doc pm:Value)(an:SD)(cdv ct:Value)(osl:Rn),
  fd=PySem.W.fnOf x qual (iN st) (fK st) (aq st) .none kV doc pm an cdv ct/\K.lookup f=some ⟨oc,od,.func fd,osl⟩/\PySem.W.codeIn K cdv qual=true
 kp:PySem.W.keepIn K (.ref f)=true
section
variable{P:Program}{w:World}{K:Rx}{mg:Rr}{base:Heap}
def qv.binds{x qual:Str}{st:Stmt}{f:Addr}{fd:FuncData}{ps:SQ}(F:qv K x qual st f fd)(h:∀(kV doc pm:Value)(an:SD)(cdv ct:Value)(us:SG),us.length=ps.length->bindArgs (PySem.W.fnOf x qual (iN st) (fK st) (aq st) .none kV doc pm an cdv ct) ⟨us,[]⟩=pure (ps.zip us)):Binds K fd ps []:=by obtain⟨oc,od,kV,doc,pm,an,cdv,ct,osl,rfl,lk,hcd⟩:=F.ex;exact .all (h kV doc pm an cdv ct)
def JL{x qual:Str}{st:Stmt}{f:Addr}{oc:Value}{od an:SD}{osl:Rn}{kV doc pm cdv ct:Value}(l:K.lookup f=some ⟨oc,od,.func (PySem.W.fnOf x qual (iN st) (fK st) (aq st) .none kV doc pm an cdv ct),osl⟩)(c:PySem.W.codeIn K cdv qual=true)(k:PySem.W.keepIn K (.ref f)=true):qv K x qual st f (PySem.W.fnOf x qual (iN st) (fK st) (aq st) .none kV doc pm an cdv ct):=⟨⟨oc,od,kV,doc,pm,an,cdv,ct,osl,rfl,l,c⟩,k⟩
end
section
variable{X:Cx}
def CD:cJ X (.builtin "len") (λxs H Q=>∃a kvs,xs=[V.ref a]/\H a=some (.dK kvs)/\Q (.int kvs.length) H):=by intro pins s U H xs us Q I r h;obtain⟨a,kvs,rfl,ha,q⟩:=h;obtain⟨u,rfl,ru⟩:=vals1 r;cases ru;exact Ls I (.inl ha) λt s' I'=>⟨.int kvs.length,H,I',⟨t,rfl⟩,q⟩
end
def n6{A B:Prop}(h:B):if false=true then A else B:=by rw[if_neg O9];exact h
def nA{A B:Prop}(h:A):if true=true then A else B:=by rw[if_pos rfl];exact h
noncomputable def ah (H H':Hp):Prop:=∀b o,H b=some o->H' b=some o
def ah.refl(H:Hp):ah H H:=λ_ _ h=>h
def ah.trans{H H1 H2:Hp}(a:ah H H1)(b:ah H1 H2):ah H H2:=λc o h=>b c o (a c o h)
def ah.free{H H':Hp}(e:ah H H'){l:Addr}(h:H' l=Option.none):H l=Option.none:=by
 cases q:H l with
 |none=>rfl
 |some o=>rw[e l o q]at h;cases h
noncomputable def eF (cells:List (Str×Addr)):List (Str×NameKind)->List (Str×Addr)->List (Str×Addr)
 |[],acc=>acc
 | (n,k)::r,acc=>eF cells r (if(k==NameKind.free)=true then(n,(cells.lookup n).getD 0)::acc else acc)
theorem pI{c:Addr}:∀(names:List (Str×NameKind))(acc:List (Str×Addr)),(eF cells names acc).lookup y=some c->((y,NameKind.free)∈names/\(cells.lookup y).getD 0=c)\/acc.lookup y=some c
 |[],_,h=>.inr h
 | (n,k)::r,acc,h=>by
  rcases pI r _ h with⟨a,b⟩|z;{exact .inl ⟨NX _ a,b⟩};clear h;by_cases e:(k==NameKind.free)=true
  .rw[if_pos e]at z;rw[OZ]at z;cases q:(y==n)with
   |true=>
    rw[q]at z;have ek:k=NameKind.free:=by simpa using e
    have en:y=n:=by simpa using q
    subst ek en;exact .inl ⟨N6,Option.some.inj z⟩
   |false=>rw[q]at z;exact .inr z
  rw[if_neg e]at z;exact .inr z
theorem jG:∀(names:List (Str×NameKind))(acc:List (Str×Addr)),((y,NameKind.free)∈names\/∃c,acc.lookup y=some c)->∃c,(eF cells names acc).lookup y=some c
 |[],_,h=>by rcases h with h|h;{cases h};exact h
 | (n,k)::r,acc,h=>by
  refine jG r _ ?_;rcases h with h|⟨c,h⟩;{rcases NY.mp h with e|h;{cases e;refine .inr ⟨(cells.lookup y).getD 0,?_⟩;rw[if_pos (by decide),OZ,beq_self_eq_true]};exact .inl h};by_cases e:(k==NameKind.free)=true
  .rw[if_pos e,OZ];cases q:(y==n)with
   |true=>exact .inr ⟨_,rfl⟩
   |false=>exact .inr ⟨c,h⟩
  rw[if_neg e];exact .inr ⟨c,h⟩
def qw(h:∀n,(n,NameKind.free)∈scope.names->∃c,env.cells.lookup n=some c):closureFor scope env=pure (eF env.cells scope.names []):=by
 have key:∀(names:List (Str×NameKind))(cs:List (Str×Addr)),(∀n,(n,NameKind.free)∈names->∃c,env.cells.lookup n=some c)->
   (forIn names cs λ(x:Str×NameKind)(r:List (Str×Addr))=>(if(x.2==NameKind.free)=true then(cellOf env x.1>>=λa=>pure (ForInStep.yield ((x.1,a)::r)))else pure (ForInStep.yield r):Sem _))=pure (eF env.cells names cs):=by
  intro names
  induction names with
  |nil=>intro cs _;rfl
  |cons p r ih=>
   intro cs hp;obtain⟨n,k⟩:=p;rw[QG];by_cases e:(k==NameKind.free)=true
   .have ek:k=NameKind.free:=by simpa using e
    obtain⟨c,hc⟩:=hp n (by rw[ek];exact N6);rw[if_pos e];have e2:cellOf env n=pure c:=by unfold cellOf;rw[hc]
    show((cellOf env n>>=λa=>pure (ForInStep.yield ((n,a)::cs)))>>=_)=_;rw[e2];show(forIn r ((n,c)::cs) _:Sem _)=_;rw[ih _ λn' h'=>hp n' (NX _ h')];show _=pure (eF env.cells r (if(k==NameKind.free)=true then(n,(env.cells.lookup n).getD 0)::cs else cs));rw[if_pos e,hc];rfl
   rw[if_neg e];show(forIn r cs _:Sem _)=_;rw[ih _ λn' h'=>hp n' (NX _ h')];show _=pure (eF env.cells r (if(k==NameKind.free)=true then(n,(env.cells.lookup n).getD 0)::cs else cs));rw[if_neg e]
 unfold closureFor;have e:=key scope.names [] h;show((forIn scope.names [] λ(x:Str×NameKind)(r:List (Str×Addr))=>(if(x.2==NameKind.free)=true then(cellOf env x.1>>=λa=>pure (ForInStep.yield ((x.1,a)::r)))else pure (ForInStep.yield r):Sem _))>>=λr=>pure r)=_;rw[e];rfl
theorem iI{α:Type}{y:Str}{k:α}:∀{l:List (Str×α)},l.lookup y=some k->(y,k)∈l
 |[],h=>by cases h
 | (n,j)::r,h=>by
  rw[OZ]at h;cases q:(y==n)with
  |true=>
   rw[q]at h;have en:y=n:=by simpa using q
   cases h;rw[en];exact N6
  |false=>rw[q]at h;exact NX _ (iI h)
theorem qF{env:Env}{x:Str}{k:NameKind}:∀{names:List (Str×NameKind)},names.lookup x=some k->(relabel { (default:Scope)with names:=names } env).names.lookup x=some k\/(k=.free/\(relabel { (default:Scope)with names:=names } env).names.lookup x=some .cell)
 |[],h=>by cases h
 | (n,j)::r,h=>by
  have ih:=@qF env x k r;rw[OZ]at h;show List.lookup x ((if(j==NameKind.free&&env.scope.kind == .function&&env.kindOf n==some .cell)=true then(n,NameKind.cell)else(n,j))::_)=_\/(_/\List.lookup x ((if(j==NameKind.free&&env.scope.kind == .function&&env.kindOf n==some .cell)=true then(n,NameKind.cell)else(n,j))::_)=_);cases q:(x==n)with
  |true=>rw[q]at h;cases h;by_cases e:(k==NameKind.free&&env.scope.kind == .function&&env.kindOf n==some .cell)=true;{rw[if_pos e,OZ,q];refine .inr ⟨?_,rfl⟩;have z:=(N9 _ _▸(N9 _ _▸e).1:_/\_).1;simpa using z};rw[if_neg e,OZ,q];exact .inl rfl
  |false=>rw[q]at h;by_cases e:(j==NameKind.free&&env.scope.kind == .function&&env.kindOf n==some .cell)=true;{rw[if_pos e,OZ,q];exact ih h};rw[if_neg e,OZ,q];exact ih h
theorem v7{env:Env}{x:Str}{k:NameKind}:∀{names:List (Str×NameKind)},(relabel { (default:Scope)with names:=names } env).names.lookup x=some k->names.lookup x=some k\/(names.lookup x=some .free/\k=.cell)
 |[],h=>by cases h
 | (n,j)::r,h=>by
  have ih:=@v7 env x k r;have h:List.lookup x ((if(j==NameKind.free&&env.scope.kind == .function&&env.kindOf n==some .cell)=true then(n,NameKind.cell)else(n,j))::(relabel { (default:Scope)with names:=r } env).names)=some k:=h;rw[OZ];cases q:(x==n)with
  |true=>by_cases e:(j==NameKind.free&&env.scope.kind == .function&&env.kindOf n==some .cell)=true;{rw[if_pos e,OZ,q]at h;cases h;have z:=(N9 _ _▸(N9 _ _▸e).1:_/\_).1;exact .inr ⟨by simpa using z,rfl⟩};rw[if_neg e,OZ,q]at h;exact .inl h
  |false=>by_cases e:(j==NameKind.free&&env.scope.kind == .function&&env.kindOf n==some .cell)=true;{rw[if_pos e,OZ,q]at h;exact ih h};rw[if_neg e,OZ,q]at h;exact ih h
noncomputable def caps (ix:SN)(U:St):St:=ix.map λi=>(U[i]?).join
noncomputable def Cx.block (X:Cx)(scope:Scope)(C:Addr)(NB:SQ)(s2:Shared)(H2:Hp)(fp:SH):Cx:=
 { X with N:=NB,s₀:=s2,H₀:=H2,env:=compEnvC scope (eF X.env.cells scope.names []) C X.env,outer:=X.stack,ex:=fp,fn:=λ_=>false,pn:=[],xe:=λ_ _=>False }
noncomputable def tL (X:Cx)(ifs:SK)(t:TT):Prop:=
 ∀(pins:Rt)(s:Shared)(U:St)(H:Hp)(Q:Bool->Hp->Prop),Inv X pins U H s->t U H Q->
  wpAny (model X.prog X.w) X.A (forIn ifs true λc r=>if r=true then do let ok <-isTrue c X.env (eval c X.env);pure (ForInStep.yield ok)else pure (ForInStep.yield r)) (TP X pins U Q) X.xe s
noncomputable def MX:TT:=λ_ H Q=>Q true H
def GR:tL X [] MX:=λ_ _ _ H _ I h=>wpAny_tests_nil ⟨H,I,h⟩
def GJ(h:PT X c t):tL X [c] t:=λpins s U H Q I hw=>wpAny_tests_one (h pins s U H Q I hw)
noncomputable abbrev ic (its:SG) (n:Nat):Obj:={ cls:=.type "list",data:=.seq its.toArray n }
section
variable{X:Cx}{scope:Scope}{x:Str}{NB:SQ}{ix:SN}{pins:Rt}{U:St}{H2:Hp}{s2:Shared}{fp:SH}
def Dm(ix:SN)(U:St):(caps ix U).length=ix.length:=by unfold caps;rw[NS]
end
section
variable{X:Cx}{scope:Scope}{x:Str}{NB:SQ}{ix:SN}{pins:Rt}{U:St}{H2:Hp}{s2:Shared}{fp:SH}
def Bc{C D:Addr}{n:Nat}(I2:Inv X pins U H2 s2)(f2:∀b∈fp,gu X pins H2 b)(hD:s2.heap.objs.size<=D)(I4:Inv (X.block scope C NB s2 H2 fp) [(D,ic its n)] σB H' s4)(rv:Vals ys its)(hz:ys.length<=sizeLine):Inv X pins U (upd H' D (.lst ys)) s4:=by
 have hp:=I4.pin (D,ic its n) (by show _∈[]++[(D,ic its n)];simp);have hfree:H' D=none:=hp.2.1;have neD:∀b o,s2.heap.get? b=some o->b≠D:=λb o e=>O6 (OH (N8 e) hD);have neT:∀b o,H2 b=some o->b≠D:=λb o e=>O6 (OH (I2.hok.lt e) hD);have u:Un (frs X.stack) fp H2 H' s2.heap s4.heap:=I4.base;refine I2.FA (ch:=fp) I4.os ⟨u.keep,u.slot,λb o e n hx=>?_,u.there,λb xs e=>?_,λb o v e=>?_,λb ps e=>?_⟩ (λb o e=>?_) I4.bare λb hb=>?_;{rw[ao (neD b o e)];exact u.free b o e n hx};{rw[ao (neT b _ e)];exact u.tups b xs e};{rw[ao (neT b _ e)];exact u.ki b o v e};{rw[ao (neT b _ e)];exact u.kZ b ps e}
 .by_cases hb:b=D;{subst hb;rw[aG]at e;cases e;exact⟨hz,its,n,rv,hp.1⟩};rw[ao hb]at e;have ne:∀{c:Addr}{w:HO},H' c=some w->c≠D:=λ{c w} q z=>by rw[z,hfree]at q;cases q
  exact(I4.hok b o e).stay (λ_ _ _ q=>q) (λc q=>by rw[ao (ne q)];exact q) λc xs q=>by rw[ao (ne q)];exact q
 obtain⟨_,g1,g2,g3,g4,g5⟩:=f2 b hb;exact⟨g3,g1,g4,g5⟩
end
end L2
namespace L2
open PySem PySem.Spec PyProof.Rows PySem.W
noncomputable def lD (a C:Addr)(dd:SD):Heap->Prop:=λh=>∃(t0:Addr)(v1 v2 v3 v4 v5:Value)(sl:Rn),h.get? a=some ⟨.ref C,dd,.fields #[.ref t0,v1,v2,v3,v4,v5],sl⟩
def CC{a C:Addr}(x:lD a C dd h):bP P w H h a (.ext (lD a C dd)):=by obtain⟨t0,v1,v2,v3,v4,v5,sl,e⟩:=id x;exact⟨x,⟨_,e⟩,λh1 h2 ⟨t0,v1,v2,v3,v4,v5,sl,e⟩ k=>⟨t0,v1,v2,v3,v4,v5,sl,k _ e⟩⟩
noncomputable def six (newId:String)(l:List (Ry)):Bool:=l.length==6&&(match(l[4]?:Option (Ry))with|some (some (Value.builtin n))=>n==newId|_=>false)
noncomputable def yE (K:Frag)(C:Addr)(bmB:SG):SG->Bool
 |.ref C'::bm=>C'==C&&tailIn K bmB bm
 |_=>false
noncomputable def jN (K:Frag)(C:Addr)(bmB:SG)(newId:String)(r:Ry):Bool:=match K.lookup C with
 |some ob=>(match ob.cls with | .type t=>t == "type" | _=>false)&&(match ob.data with
  |.cls cd=>(yE K C bmB cd.mro&&six newId ob.slots.toList)&&!cd.hasDel&&(nsOkIn K cd.ns&&nsIn K cd.ns "__init__" == some r)
  |_=>false)
 |none=>false
def JY(h:six newId l=true):∃k0 k1 k2 k3 k5,l=[k0,k1,k2,k3,some (.builtin newId),k5]:=by
 unfold six at h;rw[N9]at h;obtain⟨h1,h2⟩:=h;have h1:l.length=6:=Pa h1;rcases l with _|⟨k0,_|⟨k1,_|⟨k2,_|⟨k3,_|⟨k4,_|⟨k5,_|⟨k6,l⟩⟩⟩⟩⟩⟩⟩
 case cons.cons.cons.cons.cons.cons.nil=>
  cases k4 with
  |none=>cases h2
  |some v=>
   cases v with
   |builtin n=>exact⟨k0,k1,k2,k3,k5,by rw[show n=newId from Pa h2]⟩
   |_=>cases h2
 case cons.cons.cons.cons.cons.cons.cons=>cases h1
 all_goals cases h1
def zY{K:Frag}{C:Addr}{bmB l:SG}(h:yE K C bmB l=true):∃bm,l=.ref C::bm/\tailIn K bmB bm=true:=by
 cases l with
 |nil=>cases h
 |cons v bm=>
  cases v with
  |ref a=>have h:(a==C&&tailIn K bmB bm)=true:=h;rw[N9]at h;exact⟨bm,by rw[show a=C from Pa h.1],h.2⟩
  |_=>cases h
structure M3(C:Addr)(bmB:SG)(newId:String)(r:Ry)(h:Heap):Prop where
 obj:∃bm N nm q bs hdct sn sub ab col dd k0 k1 k2 k3 k5 mN,h.get? C=some (excClassObj nm q C N bs bm hdct sn sub ab col dd k0 k1 k2 k3 k5 newId)/\h.Ns N mN/\mN "__init__"=r/\OwnTail h bmB bm
def Aw{K:Frag}{h:Heap}{N:Addr}{mg:Rr}(X:K.In h)(G:h.Ns N mg)(e:nsIn K N n=some r):mg n=r:=by
 obtain⟨o,es,ep,ho,hd,_,hf⟩:=G;unfold nsIn at e;split at e
 .rename_i c d es' n' sl q;have z:=X _ _ q;rw[ho]at z;cases z;cases hd;split at e
  .rename_i en he;rw[<-hf];unfold nsFind findBy;rw[<-RC,he];first
    | (cases e;rfl)
    | (split at e<;>cases e<;>rfl)
  rename_i he;rw[<-hf];unfold nsFind findBy;rw[<-RC,he];split at e;{cases e};cases e;rfl
 cases e
def GI{K:Frag}{C:Addr}(X:K.In h)(q:jN K C bmB newId r=true):M3 C bmB newId r h:=by
 unfold jN at q;cases ho:K.lookup C with
 |none=>rw[ho]at q;cases q
 |some ob=>
  rw[ho]at q;obtain⟨cls,dd,data,sl⟩:=ob;dsimp only at q;rw[N9]at q;obtain⟨q0,q⟩:=q;have hc:cls=.type "type":=by
   cases cls with
   |type t=>exact congrArg Value.type (Pa q0)
   |_=>cases q0
  subst hc;cases data with
  |cls cd=>
   dsimp only at q;rw[N9,N9,N9,N9]at q;obtain⟨⟨⟨q1,q2⟩,hdel⟩,hok,hni⟩:=q;obtain⟨bm,hm,ht⟩:=zY q1;obtain⟨l⟩:=sl;obtain⟨k0,k1,k2,k3,k5,hs⟩:=JY q2;have hs:l=_:=hs;obtain⟨nm,bs,mro,ns,qn,hd,sn,sub,ab,col,del⟩:=cd;dsimp only at hm hdel hok hni;have hdel:del=false:=by cases del<;>first|rfl|cases hdel
   have hni:=Pa hni;subst hm hdel hs;have G:h.Ns ns (h.nsMap ns):=.of_isNs (isNs_of_in X hok);exact⟨bm,ns,nm,qn,bs,hd,sn,sub,ab,col,dd,k0,k1,k2,k3,k5,_,X _ _ ho,G,Aw X G hni,tail_of_in X ht⟩
  |_=>cases q
def C8{a:Addr}(x:bP P w H h a o):∃ob,h.get? a=some ob:=by
 cases o with
 |lst xs=>obtain⟨_,_,_,_,e⟩:=x;exact⟨_,e⟩
 |tup xs=>obtain⟨_,_,_,ob,e,_⟩:=x;exact⟨_,e⟩
 |dK kvs=>obtain⟨_,_,_,_,ob,_,_,e,_⟩:=x;exact⟨_,e⟩
 |dT kvs=>obtain⟨_,_,_,_,ob,_,_,e,_⟩:=x;exact⟨_,e⟩
 |set S n=>obtain⟨ob,_,_,_,e,_⟩:=x;exact⟨_,e⟩
 |ins C dx fs=>obtain⟨_,_,_,e,_⟩:=x;exact⟨_,e⟩
 |own y=>exact x
 |xd fs=>obtain⟨_,⟨od,_,_,e,_⟩,_⟩:=x;exact⟨_,e⟩
 |pK lo hi=>obtain⟨_,_,_,e⟩:=x;exact⟨_,e⟩
 |dZ ob u=>obtain⟨e,_⟩:=x;exact⟨_,e⟩
 |tP ps=>exact⟨_,x⟩
 |met f y=>exact⟨_,x⟩
 |ext φ=>obtain⟨_,e,_⟩:=x;exact e
section
variable{X:Cx}{pins:Rt}{U:St}{H:Hp}{s:Shared}{h':Heap}
def Inv.lO(I:Inv X pins U H s){a:Addr}(hn:s.heap.get? a=none):H a=none:=by
 cases z:H a with
 |none=>rfl
 |some o=>obtain⟨ob,e⟩:=C8 (I.hok a o z);rw[hn]at e;cases e
def Inv.E8{a:Addr}{t':Nat}(I:Inv X pins U H s)(k:∀b u,s.heap.get? b=some u->h'.get? b=some u)(hn:s.heap.get? a=none)(new:bP X.prog X.w (upd H a o) h' a o) : Inv X pins U (upd H a o) { s with heap:=h',toks:=t' }:=by
 have hf:=I.lO hn;have neA:∀b u,s.heap.get? b=some u->b≠a:=λb u e z=>by rw[z,hn]at e;cases e
 have neT:∀b u,H b=some u->b≠a:=λb u e z=>by rw[z,hf]at e;cases e
 refine I.un ⟨λb u e _ _ _=>k b u e,λb u e _ _ _=>⟨u.slots,k b u e⟩,λb u e n _=>by rw[ao (neA b u e)];exact n,λb u e _=>⟨u,k b u e⟩,λb xs e=>by rw[ao (neT b _ e)];exact e,
  λb u v e=>by rw[ao (neT b _ e)];exact e,λb ps e=>⟨#[],by rw[ao (neT b _ e),e];simp⟩⟩ λb u e=>?_
 by_cases hb:b=a;{subst hb;rw[aG]at e;cases e;exact new};rw[ao hb]at e;exact(I.hok b u e).stay (λc v _ q=>k c v q) (λc q=>by rw[ao (neT c _ q)];exact q) λc xs q=>by rw[ao (neT c _ q)];exact q
end
noncomputable abbrev AA:SG:=[.type "ValueError",.type "Exception",.type "BaseException",.type "object"]
end L2
namespace L2
open PySem PySem.Spec PyProof.Rows
section
variable{X:Cx}
theorem yN:∀{xs:List V}{us:SG},Vals xs us->∀(i:Nat)(u:Value),us[i]?=some u->∃x,xs[i]?=some x/\RelV x u
 |_,_,.nil,i,u,h=>by cases h
 |_,_,.cons h r,0,u,e=>by cases e;exact⟨_,rfl,h⟩
 |_,_,.cons h r,i+1,u,e=>yN r i u e
end
end L2
namespace L2
open PySem PySem.Spec PyProof.Rows PySem.SeqAt PySem.W
mutual
inductive jC(K:Rx)(H:Hp):V->PyData->Prop
 |bq:jC K H .bq .none
 |bl (b:Bool):jC K H (.bl b) (.bool b)
 |int (i:Int):jC K H (.int i) (.int i)
 |str (x:Str):jC K H (.str x) (.str x)
 |lst {a:Addr}{xs:List V}{ds:SA}:bX K H a xs->lB K H xs ds->jC K H (.ref a) (.list ds)
 |tup {a:Addr}{xs:List V}{ds:SA}:aU K H a xs->lB K H xs ds->jC K H (.ref a) (.tuple ds)
inductive lB(K:Rx)(H:Hp):List V->SA->Prop
 |nil:lB K H [] []
 |cons {x:V}{d:PyData}{xs:List V}{ds:SA}:jC K H x d->lB K H xs ds->lB K H (x::xs) (d::ds)
end
section
variable{X:Cx}{pins:Rt}{U:St}{H:Hp}{s:Shared}
mutual
theorem Inv.reads(I:Inv X pins U H s):∀{v:V}{d:PyData}{u:Value},jC X.K H v d->RelV v u->∃as,Reads s.heap u d as
 |_,_,_,.bq,r=>by cases r;exact⟨_,.none⟩
 |_,_,_,.bl b,r=>by cases r;exact⟨_,.bool b⟩
 |_,_,_,.int i,r=>by obtain⟨t,rfl⟩:=r;exact⟨_,.int i t⟩
 |_,_,_,.str x,r=>by obtain⟨t,rfl⟩:=r;exact⟨_,.str x t⟩
 |_,_,_,.lst hq hs,r=>by cases r;obtain⟨its,rv,p,_⟩:=I.list hq;obtain⟨as,ra⟩:=I.readsAll hs rv;obtain⟨o,ho,hc,n,hd⟩:=p.isList;exact⟨_,.list ho hc hd (by simpa using ra)⟩
 |_,_,_,.tup hq hs,r=>by cases r;obtain⟨its,rv,p,_⟩:=I.tuple hq;obtain⟨as,ra⟩:=I.readsAll hs rv;obtain⟨o,ho,hc,n,hd⟩:=(show s.heap.IsTuple _ its.toArray from p);exact⟨_,.tuple ho hc hd (by simpa using ra)⟩
theorem Inv.readsAll(I:Inv X pins U H s):∀{vs:List V}{ds:SA}{us:SG},lB X.K H vs ds->Vals vs us->∃as,ReadsAll s.heap us ds as
 |_,_,_,.nil,r=>by cases r;exact⟨_,.nil⟩
 |_,_,_,.cons h hs,r=>by
  cases r with
  |cons r1 r2=>obtain⟨as,ra⟩:=I.reads h r1;obtain⟨bs,rb⟩:=I.readsAll hs r2;exact⟨_,.cons ra rb⟩
end
inductive E9(K:Rx)(neg:Bool) (x:V) (y:V)(H:Hp)(Q:VK):Prop
 |mk:∀d e,(jC K H x d)->(jC K H y e)->(shaped d=true)->(shaped e=true)->(noMix d e=true)->(Q (.bl (if neg then !same d e else same d e)) H)->E9 K neg x y H Q
noncomputable def DG (K:Rx)(neg:Bool):R2:=λx y H Q=>E9 K neg x y H Q
def JK(hu:X.A.units+64<cLine):bA X (compareOp .Eq) (DG X.K false):=by intro pins s U H x y v u Q I rx ry h;obtain⟨d,e,h1,h2,s1,s2,nm,q⟩:=h;obtain⟨as,ra⟩:=I.reads h1 rx;obtain⟨bs,rb⟩:=I.reads h2 ry;exact eq_dataH_same ra rb s1 s2 hu nm ⟨.bl _,H,I,rfl,q⟩
def IM(hu:X.A.units+64<cLine):bA X (compareOp .NotEq) (DG X.K true):=by intro pins s U H x y v u Q I rx ry h;obtain⟨d,e,h1,h2,s1,s2,nm,q⟩:=h;obtain⟨as,ra⟩:=I.reads h1 rx;obtain⟨bs,rb⟩:=I.reads h2 ry;exact ne_dataH_same ra rb s1 s2 hu nm ⟨.bl _,H,I,rfl,q⟩
end
end L2
namespace L2
open PySem PySem.Spec PyProof.Rows
section
variable{X:Cx}{e:Expr}{te:TE}
def BR(hc:X.calm=true):cJ X (.builtin "all") (λxs H Q=>∃(a:Addr)(bs:SJ),xs=[.ref a]/\bX X.K H a (bs.map V.bl)/\Q (.bl (bs.all id)) H):=by
 intro pins s U H xs us Q I r h;obtain⟨a,bs,rfl,hq,q⟩:=h;obtain⟨u,rfl,ru⟩:=vals1 r;cases ru;obtain⟨its,rv,p,_⟩:=I.list hq;have hl:=p.isList;have hlt:a<s.heap.objs.size:=by obtain⟨o,ho,_⟩:=id hl;exact N8 ho
 have hh:X.A.in1.handled=none:=by simp[I.ok.hd hc]
 refine call_all_walk (RM hl ?_);refine⟨_,_,_,_,_,_,λi=>bs.getD i false,rfl,Walks.list hh _ a (O6 hlt) its.toArray,⟨⟨_,OC _ rfl,rfl,rfl⟩,hl.push _⟩,λi v s' Q' E' hP hQ=>?_,λh' tk hk=>?_⟩
 .have hP':its[i]?=some v:=by simpa using hP
  obtain⟨x,hx,rx⟩:=yN rv i v hP';rw[O4]at hx;cases e:bs[i]? with
  |none=>rw[e]at hx;cases hx
  |some b=>
   rw[e]at hx;cases hx;cases rx;have e2:bs.getD i false=b:=by rw[OX,e];rfl
   dsimp only at hQ;rw[e2]at hQ;exact Pn hQ
 have kp:∀b o,s.heap.get? b=some o->h'.get? b=some o:=λb o hb=>hk b o (by
  have:=N8 hb;simp only[NV];exact O6 this) (O1 _ hb)
 have len:its.toArray.size=bs.length:=by rw[O0,<-rv.length,NS]
 refine⟨.bl _,H,I.kept (t':=tk) kp,rfl,?_⟩;have e:(List.range its.toArray.size).all (λi=>bs.getD i false)=bs.all id:=by rw[len];rw[Ov,N7,N7];constructor;{intro h b hb;obtain⟨i,hi⟩:=Py hb;have:=h i (OU.mpr (Ox.mp hi).1);rw[OX,hi]at this;exact this};intro h i hi;have hi':=OU.mp hi;rw[OX,O5 hi'];exact h _ (Pz hi')
 rw[e];exact q
end
end L2
namespace L2
open PySem PySem.Spec PyProof.Rows PySem.W Builtin Builtin.ObjectAttr
section
variable{X:Cx}{pins:Rt}{U:St}{H:Hp}{s:Shared}{a C:Addr}{dd:SD}
def D4:cJ X (.builtin "isinstance") (λxs H Q=>∃x c t b,xs=[x,c]/\f6 X.K H x t/\(∀u,RelV c u->kitOne X.K t u=some b)/\Q (.bl b) H):=by intro pins s U H xs us Q I r h;obtain⟨x,c,t,b,rfl,ty,k,q⟩:=h;obtain⟨u1,u2,rfl,ru1,ru2⟩:=r.two;exact CN I ru1 ty (k u2 ru2) λtk=>⟨.bl b,H,I.tok tk,rfl,q⟩
variable{o e value:Expr}{f y:Str}{pos pos' yp apos:Pos}{ta tv:TE}{es:SK}{t:TA}
end
end L2
namespace L2
open PySem PySem.Spec PyProof.Rows
def dm{a:Addr}(h:H a=none):ah H (upd H a o):=λb u e=>by rw[ao (fJ e h)];exact e
end L2
namespace Dv
open PySem L2 PySem.W
noncomputable def bI:Key->PyData
 |.inl i=>.int i
 |.inr x=>.str x
noncomputable def cu (K:Frag)(H:Hp)(a:Addr)(xs:List V):Prop:=Rd H a (.lst xs)\/∃(its:SG) (n:Nat),K.lookup a=some { cls:=.type "list",data:=.seq its.toArray n }/\its.length<=sizeLine/\Vals xs its
def Rd.mono{a:Addr}(s:ah H H'):Rd H a u->Rd H' a u
 |.inl h=>.inl (s _ _ h)
 |.inr ⟨o,h⟩=>.inr ⟨o,s _ _ h⟩
theorem cu.mono{a:Addr}(s:ah H H'):cu K H a xs->cu K H' a xs
 |.inl h=>.inl (Rd.mono s h)
 |.inr h=>.inr h
def cu.sq{a:Addr}(h:cu K H a xs):bX K H a xs:=by rcases h with h|⟨its,n,hk,hl,r⟩;{exact .inl h};exact .inr ⟨_,its.toArray,n,hk,rfl,rfl,rfl,by rw[O0];exact hl,by simpa using r⟩
theorem cu.get{a:Addr}(I:L2.Inv X pins U H s)(h:cu X.K H a xs):xs.length<=sizeLine/\∃its n,Vals xs its/\s.heap.get? a=some { cls:=.type "list",data:=.seq its.toArray n }:=by rcases h with h|⟨its,n,hk,hl,r⟩;{obtain⟨z,its,n,r,e⟩:=h.ok I.hok;exact⟨z,its,n,r,e⟩};exact⟨by rw[r.length];exact hl,its,n,r,I.gK a _ hk⟩
mutual
inductive Rp(K:Frag)(H:Hp):V->PyData->Prop
 |bq:Rp K H .bq .none
 |bl (b:Bool):Rp K H (.bl b) (.bool b)
 |int (i:Int):Rp K H (.int i) (.int i)
 |str (x:Str):Rp K H (.str x) (.str x)
 |lst {a:Addr}{xs:List V}{ds:SA}:cu K H a xs->av K H xs ds->Rp K H (.ref a) (.list ds)
 |tup {a:Addr}{xs:List V}{ds:SA}:H a=some (.tup xs)->av K H xs ds->Rp K H (.ref a) (.tuple ds)
 |dk {a:Addr}{kvs:List (Key×V)}{ds:Rm}:H a=some (.dK kvs)->eg K H kvs ds->Rp K H (.ref a) (.dict ds)
 |dt {a:Addr}{kvs:List (List Key×V)}{ds:Rm}:H a=some (.dT kvs)->eE K H kvs ds->Rp K H (.ref a) (.dict ((.none,.none)::ds))
 |exc {a C:Addr}{c:Str}:H a=some (.ext (lD a C none))->nsIn K mainGlobals c=some (some (.ref C))->Rp K H (.ref a) (.dict [(.none,.str c)])
inductive av(K:Frag)(H:Hp):List V->SA->Prop
 |nil:av K H [] []
 |cons {x:V}{d:PyData}{xs:List V}{ds:SA}:Rp K H x d->av K H xs ds->av K H (x::xs) (d::ds)
inductive eg(K:Frag)(H:Hp):List (Key×V)->List (PyData×PyData)->Prop
 |nil:eg K H [] []
 |cons {k:Key}{v:V}{d:PyData}{kvs:List (Key×V)}{ds:Rm}:Rp K H v d->eg K H kvs ds->eg K H ((k,v)::kvs) ((bI k,d)::ds)
inductive eE(K:Frag)(H:Hp):List (List Key×V)->List (PyData×PyData)->Prop
 |nil:eE K H [] []
 |cons {k:List Key}{v:V}{d:PyData}{kvs:List (List Key×V)}{ds:Rm}:Rp K H v d->eE K H kvs ds->eE K H ((k,v)::kvs) ((.tuple (k.map bI),d)::ds)
end
theorem Rp.mono(s:ah H H')(h:Rp K H v d):Rp K H' v d:=Rp.rec (motive_1:=λv d _=>Rp K H' v d) (motive_2:=λvs ds _=>av K H' vs ds) (motive_3:=λa b _=>eg K H' a b) (motive_4:=λa b _=>eE K H' a b) .bq .bl .int .str (λh _ ih=>.lst (cu.mono s h) ih) (λh _ ih=>.tup (s _ _ h) ih) (λh _ ih=>.dk (s _ _ h) ih) (λh _ ih=>.dt (s _ _ h) ih) (λh n=>.exc (s _ _ h) n) .nil (λ_ _ a b=>.cons a b) .nil (λ_ _ a b=>.cons a b) .nil (λ_ _ a b=>.cons a b) h
theorem av.mono(s:ah H H')(h:av K H vs ds):av K H' vs ds:=by
 induction ds generalizing vs with
 |nil=>cases h;exact .nil
 |cons d ds ih=>cases h with|cons a b=>exact .cons (a.mono s) (ih b)
theorem eg.mono(s:ah H H')(h:eg K H kvs ds):eg K H' kvs ds:=by
 induction kvs generalizing ds with
 |nil=>cases h;exact .nil
 |cons d kvs ih=>cases h with|cons a b=>exact .cons (a.mono s) (ih b)
theorem eE.mono(s:ah H H')(h:eE K H kvs ds):eE K H' kvs ds:=by
 induction kvs generalizing ds with
 |nil=>cases h;exact .nil
 |cons d kvs ih=>cases h with|cons a b=>exact .cons (a.mono s) (ih b)
noncomputable def nd:PyData->Bool
 |.list ds=>nds ds
 |.tuple ds=>nds ds
 |.dict _=>false
 |_=>true
where nds:SA->Bool
 |[]=>true
 |d::ds=>nd d&&nds ds
def Rp.oZ(h:Rp K H v d):nd d=true->jC K H v d:=
 Rp.rec (motive_1:=λv d _=>nd d=true->jC K H v d) (motive_2:=λvs ds _=>nd.nds ds=true->lB K H vs ds) (motive_3:=λ_ _ _=>True) (motive_4:=λ_ _ _=>True)
  (λ_=>.bq) (λb _=>.bl b) (λi _=>.int i) (λx _=>.str x) (λh _ ih e=>.lst h.sq (ih (by rw[nd]at e;exact e))) (λh _ ih e=>.tup (aU.of h) (ih (by rw[nd]at e;exact e))) (λ_ _ _ e=>by rw[nd]at e;cases e) (λ_ _ _ e=>by rw[nd]at e;cases e) (λ_ _ e=>by rw[nd]at e;cases e)
  (λ_=>.nil) (λ_ _ a b e=>by rw[nd.nds,N9]at e;exact .cons (a e.1) (b e.2)) trivial (λ_ _ _ _=>trivial) trivial (λ_ _ _ _=>trivial) h
theorem av.oZ(h:av K H vs ds):nd.nds ds=true->lB K H vs ds:=by
 induction ds generalizing vs with
 |nil=>cases h;exact λ_=>.nil
 |cons d ds ih=>
  cases h with
  |cons a b=>intro e;rw[nd.nds,N9]at e;exact .cons (a.oZ e.1) (ih b e.2)
noncomputable def kF (H H':Hp):Prop:=∀a xs,H a=some (.tup xs)->H' a=some (.tup xs)
theorem Rp.lf(s:kF H H')(h:Rp K H v d):Dv.lf d=true->Rp K H' v d:=
 Rp.rec (motive_1:=λv d _=>Dv.lf d=true->Rp K H' v d) (motive_2:=λvs ds _=>Dv.lf.lfs ds=true->av K H' vs ds) (motive_3:=λ_ _ _=>True) (motive_4:=λ_ _ _=>True)
  (λ_=>.bq) (λb _=>.bl b) (λi _=>.int i) (λx _=>.str x) (λ_ _ _ e=>by rw[Dv.lf]at e;cases e) (λh _ ih e=>.tup (s _ _ h) (ih (by rw[Dv.lf]at e;exact e))) (λ_ _ _ e=>by rw[Dv.lf]at e;cases e) (λ_ _ _ e=>by rw[Dv.lf]at e;cases e) (λ_ _ e=>by rw[Dv.lf]at e;cases e)
  (λ_=>.nil) (λ_ _ a b e=>by rw[Dv.lf.lfs,N9]at e;exact .cons (a e.1) (b e.2)) trivial (λ_ _ _ _=>trivial) trivial (λ_ _ _ _=>trivial) h
theorem av.lf(s:kF H H')(h:av K H vs ds):Dv.lf.lfs ds=true->av K H' vs ds:=by
 induction ds generalizing vs with
 |nil=>cases h;exact λ_=>.nil
 |cons d ds ih=>
  cases h with
  |cons a b=>intro e;rw[Dv.lf.lfs,N9]at e;exact .cons (a.lf s e.1) (ih b e.2)
section
variable{K:Frag}{H:Hp}
def av.len(h:av K H vs ds):vs.length=ds.length:=by
 induction ds generalizing vs with
 |nil=>cases h;rfl
 |cons d ds ih=>cases h with|cons a b=>exact congrArg (·+1) (ih b)
def av.get{i:Nat}(h:av K H vs ds)(e:ds[i]?=some d):∃v,vs[i]?=some v/\Rp K H v d:=by
 induction ds generalizing vs i with
 |nil=>cases e
 |cons d' ds ih=>
  cases h with
  |cons a b=>
   cases i with
   |zero=>cases e;exact⟨_,rfl,a⟩
   |succ i=>obtain⟨v,h1,h2⟩:=ih (i:=i) b (by simpa using e);exact⟨v,by simpa using h1,h2⟩
def av.Mz{i:Nat}(h:av K H vs ds)(e:vs[i]?=some v):∃d,ds[i]?=some d/\Rp K H v d:=by
 induction ds generalizing vs i with
 |nil=>cases h;cases e
 |cons d' ds ih=>
  cases h with
  |cons a b=>
   cases i with
   |zero=>cases e;exact⟨_,rfl,a⟩
   |succ i=>obtain⟨d,h1,h2⟩:=ih (i:=i) b (by simpa using e);exact⟨d,by simpa using h1,h2⟩
def av.app(h:av K H vs ds)(s:av K H us es):av K H (vs++us) (ds++es):=by
 induction ds generalizing vs with
 |nil=>cases h;exact s
 |cons d ds ih=>cases h with|cons a b=>exact .cons a (ih b)
def av.snoc(r:av K H vs ds)(h:Rp K H v d):av K H (vs++[v]) (ds++[d]):=r.app (.cons h .nil)
theorem av.take(n:Nat)(h:av K H vs ds):av K H (vs.take n) (ds.take n):=by
 induction ds generalizing vs n with
 |nil=>cases h;cases n<;>exact .nil
 |cons d ds ih=>
  cases h with
  |cons a b=>
   cases n with
   |zero=>exact .nil
   |succ n=>exact .cons a (ih n b)
theorem av.drop(n:Nat)(h:av K H vs ds):av K H (vs.drop n) (ds.drop n):=by
 induction ds generalizing vs n with
 |nil=>cases h;cases n<;>exact .nil
 |cons d ds ih=>
  cases n with
  |zero=>exact h
  |succ n=>cases h with|cons a b=>exact ih n b
theorem av.set(h:Rp K H v d) (i:Nat)(r:av K H vs ds):av K H (vs.set i v) (ds.set i d):=by
 induction ds generalizing vs i with
 |nil=>cases r;exact .nil
 |cons d' ds ih=>
  cases r with
  |cons a b=>
   cases i with
   |zero=>exact .cons h b
   |succ i=>exact .cons a (ih i b)
def av.rev(h:av K H vs ds):av K H vs.reverse ds.reverse:=by
 induction ds generalizing vs with
 |nil=>cases h;exact .nil
 |cons d ds ih=>
  cases h with
  |cons a b=>rw[List.reverse_cons,List.reverse_cons];exact(ih b).snoc a
end
inductive d7(K:Frag)(H Hm:Hp):List V->SA->SH->Prop
 |nil:d7 K H Hm [] [] []
 |j7 {x:V}{d:PyData}{xs:List V}{ds:SA}{fp:SH}:yD d=false->Rp K Hm x d->d7 K H Hm xs ds fp->d7 K H Hm (x::xs) (d::ds) fp
 |own {b:Addr}{ys:List V}{es:SA}{xs:List V}{ds:SA}{fp:SH}:H b=some (.lst ys)->av K Hm ys es->b∉fp->d7 K H Hm xs ds fp->d7 K H Hm (.ref b::xs) (.list es::ds) (b::fp)
inductive qH(K:Frag)(H Hm:Hp):List (List Key×V)->List (PyData×PyData)->SH->Prop
 |nil:qH K H Hm [] [] []
 |own {k:List Key}{b:Addr}{ys:List V}{es:SA}{kvs:List (List Key×V)}{ds:Rm}{fp:SH}:H b=some (.lst ys)->av K Hm ys es->b∉fp->qH K H Hm kvs ds fp->qH K H Hm ((k,.ref b)::kvs) ((.tuple (k.map bI),.list es)::ds) (b::fp)
noncomputable def NO (h:Heap)(a:Addr)(S:Int->Bool) (n:Nat):Prop:=∃o es ep t,h.get? a=some o/\o.ExactSet/\o.data=.set es ep t/\(∀e∈es.toList,(∃k,Value.isInt k e.2=true/\e.1=hashInt k)/\e.2.scannable=true)/\(∀k,S k=true↔∃e∈es.toList,Value.isInt k e.2=true)
 /\ es.size<scanBound/\t.fits es.size=true/\es.size=n
noncomputable def Mc (a:Addr)(ns:SO):HO:=.ext λh=>NO h a (λk=>decide (k∈ns)) ns.length
noncomputable def NR (ns:SO):PyData:=.dict ((.none,.bool true)::ns.map λn=>(.int n,.none))
inductive Own(K:Frag)(H Hm:Hp):Kd->V->PyData->SH->Prop
 |sh {v:V}{d:PyData}:Rp K Hm v d->Own K H Hm .sh v d []
 |ow {p:Bool}{a:Addr}{xs:List V}{ds:SA}:H a=some (.lst xs)->av K Hm xs ds->Own K H Hm (.ow p) (.ref a) (.list ds) [a]
 |dp {p:Bool}{a:Addr}{xs:List V}{ds:SA}{fp:SH}:H a=some (.lst xs)->a∉fp->d7 K H Hm xs ds fp->Own K H Hm (.dp p) (.ref a) (.list ds) (a::fp)
 |dk {p:Bool}{a:Addr}{kvs:List (Key×V)}{ds:Rm}:H a=some (.dK kvs)->eg K Hm kvs ds->Own K H Hm (.dk p) (.ref a) (.dict ds) [a]
 |dt {p:Bool}{a:Addr}{kvs:List (List Key×V)}{ds:Rm}:H a=some (.dT kvs)->eE K Hm kvs ds->Own K H Hm (.dt p) (.ref a) (.dict ((.none,.none)::ds)) [a]
 |st {p:Bool}{a:Addr}{kvs:List (List Key×V)}{ds:Rm}{fp:SH}:H a=some (.dT kvs)->a∉fp->qH K H Hm kvs ds fp->Own K H Hm (.st p) (.ref a) (.dict ((.none,.none)::ds)) (a::fp)
 |is {p:Bool}{a:Addr}{ns:SO}:H a=some (Mc a ns)->Own K H Hm (.st p) (.ref a) (.dict ((.none,.bool true)::ns.map λn=>(.int n,.none))) [a]
section
variable{K:Frag}{H H' Hm Hm':Hp}
def d7.step(s:ah Hm Hm'){xs:List V}{ds:SA}{fp:SH}(i:d7 K H Hm xs ds fp):(∀a∈fp,H' a=H a)->d7 K H' Hm' xs ds fp:=by
 induction i with
 |nil=>exact λ_=>.nil
 |j7 e r _ ih=>exact λh=>.j7 e (r.mono s) (ih h)
 |own e r n _ ih=>exact λh=>.own ((h _ N6).trans e) (r.mono s) n (ih λa ha=>h a (NX _ ha))
def d7.live(i:d7 K H Hm xs ds fp):∀a∈fp,∃ys,H a=some (.lst ys):=by
 induction i with
 |nil=>exact λ_ h=>absurd h Oa
 |j7 _ _ _ ih=>exact ih
 |own e _ _ _ ih=>intro a h;rcases NY.mp h with rfl|h;{exact⟨_,e⟩};exact ih a h
def qH.step(s:ah Hm Hm'){xs:List (List Key×V)}{ds:Rm}{fp:SH}(i:qH K H Hm xs ds fp):(∀a∈fp,H' a=H a)->qH K H' Hm' xs ds fp:=by
 induction i with
 |nil=>exact λ_=>.nil
 |own e r n _ ih=>exact λh=>.own ((h _ N6).trans e) (r.mono s) n (ih λa ha=>h a (NX _ ha))
def qH.live(i:qH K H Hm xs ds fp):∀a∈fp,∃ys,H a=some (.lst ys):=by
 induction i with
 |nil=>exact λ_ h=>absurd h Oa
 |own e _ _ _ ih=>intro a h;rcases NY.mp h with rfl|h;{exact⟨_,e⟩};exact ih a h
theorem Own.step{k:Kd}{v:V}{d:PyData}{fp:SH}(o:Own K H Hm k v d fp)(s:ah Hm Hm')(h:∀a∈fp,H' a=H a):Own K H' Hm' k v d fp:=by
 cases o with
 |sh r=>exact .sh (r.mono s)
 |ow e r=>exact .ow ((h _ N6).trans e) (r.mono s)
 |dp e n t=>exact .dp ((h _ N6).trans e) n (t.step s λa ha=>h a (NX _ ha))
 |dk e r=>exact .dk ((h _ N6).trans e) (r.mono s)
 |dt e r=>exact .dt ((h _ N6).trans e) (r.mono s)
 |st e n t=>exact .st ((h _ N6).trans e) n (t.step s λa ha=>h a (NX _ ha))
 |is e=>exact .is ((h _ N6).trans e)
noncomputable def nQ (u:HO):Prop:=∀xs,u≠.tup xs
def kJ:nQ (.lst xs):=λ_ z=>by cases z
def tQ:nQ (.dK xs):=λ_ z=>by cases z
def tE:nQ (.dT xs):=λ_ z=>by cases z
def NK:nQ (Mc a ns):=λ_ z=>by cases z
theorem Own.live(o:Own K H Hm k v d fp):∀a∈fp,∃u,H a=some u/\nQ u:=by
 intro a ha;cases o with
 |sh _=>cases ha
 |ow e _=>rw[NV.mp ha];exact⟨_,e,by first|exact kJ|exact tQ|exact tE⟩
 |dp e _ t=>rcases NY.mp ha with rfl|ha;{exact⟨_,e,by first|exact kJ|exact tQ|exact tE⟩};obtain⟨ys,e⟩:=t.live a ha;exact⟨_,e,by first|exact kJ|exact tQ|exact tE⟩
 |dk e _=>rw[NV.mp ha];exact⟨_,e,by first|exact kJ|exact tQ|exact tE⟩
 |dt e _=>rw[NV.mp ha];exact⟨_,e,by first|exact kJ|exact tQ|exact tE⟩
 |is e=>rw[NV.mp ha];exact⟨_,e,NK⟩
 |st e _ t=>rcases NY.mp ha with rfl|ha;{exact⟨_,e,by first|exact kJ|exact tQ|exact tE⟩};obtain⟨ys,e⟩:=t.live a ha;exact⟨_,e,by first|exact kJ|exact tQ|exact tE⟩
def d7.Nk(s:ah Hm Hm')(i:d7 K H Hm xs ds fp):(∀a∈fp,Hm' a=H a)->av K Hm' xs ds:=by
 induction i with
 |nil=>exact λ_=>.nil
 |j7 _ r _ ih=>exact λh=>.cons (r.mono s) (ih h)
 |own e r _ _ ih=>exact λh=>.cons (.lst (.inl (.inl ((h _ N6).trans e))) (r.mono s)) (ih λa ha=>h a (NX _ ha))
def Own.rp(o:Own K H Hm k v d fp)(hk:k.rd=true)(s:ah Hm Hm')(h:∀a∈fp,Hm' a=H a):Rp K Hm' v d:=by
 cases o with
 |sh r=>exact r.mono s
 |ow e r=>exact .lst (.inl (.inl ((h _ N6).trans e))) (r.mono s)
 |dp e _ t=>exact .lst (.inl (.inl ((h _ N6).trans e))) (t.Nk s λa ha=>h a (NX _ ha))
 |dk e r=>exact .dk ((h _ N6).trans e) (r.mono s)
 |dt e r=>exact .dt ((h _ N6).trans e) (r.mono s)
 |st _ _ _=>cases hk
 |is _=>cases hk
def av.vP(s:kF Hm Hm')(r:av K Hm xs ds)(h:ds.all Dv.lf=true):av K Hm' xs ds:=r.lf s (by rw[lZ];exact h)
def d7.flat(s:kF Hm Hm')(i:d7 K H Hm xs ds fp):(ds.all λd=>match d with | .list es=>es.all Dv.lf|d=>Dv.lf d)=true->d7 K H Hm' xs ds fp:=by
 induction i with
 |nil=>exact λ_=>.nil
 |@j7 x d xs ds fp e r t ih=>intro h;rw[NW,N9]at h;refine .j7 e (r.lf s ?_) (ih h.2);have h1:=h.1;cases d<;>first|exact h1|cases e
 |own e r n t ih=>intro h;rw[NW,N9]at h;exact .own e (r.vP s h.1) n (ih h.2)
def eg.flat(s:kF Hm Hm')(r:eg K Hm kvs ds)(h:(ds.all λkv=>Dv.lf kv.2)=true):eg K Hm' kvs ds:=by
 induction kvs generalizing ds with
 |nil=>cases r;exact .nil
 |cons kv kvs ih=>
  cases r with
  |cons a b=>rw[NW,N9]at h;exact .cons (a.lf s h.1) (ih b h.2)
def eE.flat(s:kF Hm Hm')(r:eE K Hm kvs ds)(h:(ds.all λkv=>Dv.lf kv.2)=true):eE K Hm' kvs ds:=by
 induction kvs generalizing ds with
 |nil=>cases r;exact .nil
 |cons kv kvs ih=>
  cases r with
  |cons a b=>rw[NW,N9]at h;exact .cons (a.lf s h.1) (ih b h.2)
theorem Own.flat(o:Own K H Hm k v d fp)(s:kF Hm Hm')(h:Dv.flat k d=true):Own K H Hm' k v d fp:=by
 cases o with
 |sh r=>exact .sh (r.lf s h)
 |ow e r=>exact .ow e (r.vP s h)
 |dp e n t=>exact .dp e n (t.flat s h)
 |dk e r=>exact .dk e (r.flat s h)
 |dt e r=>have h:(Dv.lf .none&&_)=true:=h;rw[N9]at h;exact .dt e (r.flat s h.2)
 |st _ _ _=>cases h
 |is _=>cases h
end
noncomputable def OE (o p:Option HO):Prop:=o=p\/(p=none/\∃xs,o=some (.tup xs))
def OE.rfl':OE o o:=.inl rfl
def OE.trans(h:OE a b)(k:OE b c):OE a c:=by rcases h with rfl|⟨rfl,h⟩;{exact k};rcases k with rfl|⟨rfl,_⟩;{exact .inr ⟨rfl,h⟩};exact .inr ⟨rfl,h⟩
def OE.off{a:Addr}(h:OE (Hm a) p)(hp:p=none)(s:ah Hm H)(hu:H a=some u)(nt:nQ u):Hm a=none:=by rcases h with e|⟨_,xs,e⟩;{rw[e,hp]};have:=s _ _ e;rw[hu]at this;cases this;exact absurd rfl (nt xs)
structure Gh where
 H0:Hp
 dF:Hp
 pins:List (Nat×Addr)
noncomputable def Gh.M (g:Gh):SH:=g.pins.map (·.2)
structure Rl(K:Frag)(g:Gh)(E:En)(U:St)(H Hm:Hp)(F:Nat->SH):Prop where
 len:E.length=U.length
 sub:ah Hm H
 slot:∀i k d,E[i]?=some (some (k,d))->∃v,U[i]?=some (some v)/\Own K H Hm k v d (F i)
 off:∀i a,a∈F i->Hm a=none
 bB:∀i a,a∈F i->∃u,H a=some u/\nQ u
 aL:∀i j a,a∈F i->a∈F j->i=j
 fr:∀p o,p∉g.M->g.H0 p=some o->H p=some o
 new:∀i a,a∈F i->a∈g.M\/g.H0 a=none
 pin:∀q∈g.pins,U[q.1]?=some (some (.ref q.2))/\∃ds,E[q.1]?=some (some (.ow true,.list ds))
 old:∀a,g.H0 a≠none->OE (Hm a) (g.dF a)
structure Tm(K:Frag)(g:Gh)(F:Nat->SH)(H Hm:Hp)(k:Kd) (v:V)(d:PyData)(fp:SH):Prop where
 own:Own K H Hm k v d fp
 off:∀a∈fp,Hm a=none
 aL:∀a∈fp,∀i,a∉F i
 new:∀a∈fp,g.H0 a=none
section
variable{K:Frag}{g:Gh}{E:En}{U:St}{H H' Hm Hm':Hp}{F:Nat->SH}
def Rl.grow(R:Rl K g E U H Hm F)(h:ah H H')(s:ah Hm Hm')(b:ah Hm' H')(o:∀i a,a∈F i->Hm' a=none)(od:∀a,g.H0 a≠none->OE (Hm' a) (Hm a)):Rl K g E U H' Hm' F where
 len:=R.len
 sub:=b
 slot:=λi k d e=>by
  obtain⟨v,h1,h2⟩:=R.slot i k d e;refine⟨v,h1,h2.step s λa ha=>?_⟩
  obtain⟨u,hu,_⟩:=h2.live a ha;rw[hu];exact h _ _ hu
 off:=o
 bB:=λi a ha=>let⟨u,hu,n⟩:=R.bB i a ha;⟨u,h _ _ hu,n⟩
 aL:=R.aL
 fr:=λp o hp ho=>h _ _ (R.fr p o hp ho)
 new:=R.new
 pin:=R.pin
 old:=λa ha=>(od a ha).trans (R.old a ha)
def Rl.more(R:Rl K g E U H Hm F)(s:ah Hm Hm')(b:ah Hm' H)(o:∀i a,a∈F i->Hm' a=none)(od:∀a,g.H0 a≠none->OE (Hm' a) (Hm a)):Rl K g E U H Hm' F:=R.grow (ah.refl _) s b o od
def Rl.vI(R:Rl K g E U H Hm F)(hq:q∈g.pins):F q.1=[q.2]:=by obtain⟨h1,ds,h2⟩:=R.pin q hq;obtain⟨v,h3,h4⟩:=R.slot _ _ _ h2;rw[h1]at h3;cases h3;generalize F q.1=fi at h4;cases h4;rfl
def Rl.notM(R:Rl K g E U H Hm F){i:Nat}(e:E[i]?=some (some (k,d)))(hk:k.pin=false){a:Addr}(ha:a∈F i):g.H0 a=none:=by rcases R.new i a ha with m|m;{obtain⟨q,hq,rfl⟩:=NT.mp m;have:=R.aL i q.1 q.2 ha (by rw[R.vI hq];exact N6);obtain⟨_,ds,h2⟩:=R.pin q hq;rw[<-this,e]at h2;cases h2;cases hk};exact m
def Rl.Lb(R:Rl K g E U H Hm F){a:Addr}(ha:a∈g.M):H a≠none:=λz=>by obtain⟨q,hq,rfl⟩:=NT.mp ha;obtain⟨u,hu,_⟩:=R.bB q.1 q.2 (by rw[R.vI hq];exact N6);rw[z]at hu;cases hu
def Rl.rA(R:Rl K g E U H Hm F){a:Addr}(ha:g.H0 a≠none):H a≠none:=λz=>by
 by_cases m:a∈g.M;{exact R.Lb m z};cases e:g.H0 a with
 |none=>exact ha e
 |some o=>rw[R.fr a o m e]at z;cases z
def Rl.fresh(R:Rl K g E U H Hm F){p:Addr}(h:H p=none){i:Nat}:p∉F i:=λz=>by obtain⟨u,hu,_⟩:=R.bB i p z;rw[h]at hu;cases hu
def Rl.Cz(R:Rl K g E U H Hm F){p:Addr}(h:H p=none):Hm p=none:=by
 cases e:Hm p with
 |none=>rfl
 |some o=>rw[R.sub _ _ e]at h;cases h
def Rl.ir(R:Rl K g E U H Hm F){p:Addr}(h:H p=none):g.H0 p=none:=by
 cases e:g.H0 p with
 |none=>rfl
 |some o=>exact absurd h (R.rA (by rw[e];simp))
end
open Classical in
noncomputable def lend (Hm H:Hp)(fp:SH):Hp:=λa=>if a∈fp then H a else Hm a
open Classical in
noncomputable def back (Hm:Hp)(fp:SH):Hp:=λa=>if a∈fp then none else Hm a
section
variable{Hm H:Hp}{fp:SH}{a:Addr}
def eo(h:a∈fp):lend Hm H fp a=H a:=by unfold lend;rw[if_pos h]
def cM(h:a∉fp):lend Hm H fp a=Hm a:=by unfold lend;rw[if_neg h]
def iV(h:a∈fp):back Hm fp a=none:=by unfold back;rw[if_pos h]
def cU(h:a∉fp):back Hm fp a=Hm a:=by unfold back;rw[if_neg h]
def gO(n:∀a∈fp,Hm a=none):ah Hm (lend Hm H fp):=λb o e=>by
 have:b∉fp:=λz=>by rw[n b z]at e;cases e
 rw[cM this];exact e
def iS(s:ah Hm H):ah (lend Hm H fp) H:=λb o e=>by by_cases h:b∈fp;{rw[eo h]at e;exact e};rw[cM h]at e;exact s _ _ e
def wQ(s:ah Hm H):ah (back Hm fp) H:=λb o e=>by by_cases h:b∈fp;{rw[iV h]at e;cases e};rw[cU h]at e;exact s _ _ e
end
section
variable{K:Frag}{g:Gh}{E:En}{U:St}{H H' Hm Hm':Hp}{F:Nat->SH}{k:Kd}{v:V}{d:PyData}{fp:SH}
def Tm.dZ(T:Tm K g F H Hm k v d fp)(R:Rl K g E U H Hm F)(hk:k.fz=true):∃Hm',ah Hm Hm'/\Rl K g E U H Hm' F/\Rp K Hm' v d:=by have up:=gO (Hm:=Hm) (H:=H) T.off;refine⟨lend Hm H fp,up,R.more up (iS R.sub) (λi a ha=>?_) λa ha=>.inl (cM λz=>ha (T.new a z)),T.own.rp (by cases k<;>first|rfl|cases hk) up λa ha=>eo ha⟩;rw[cM λz=>T.aL a z i ha];exact R.off i a ha
def aD{α:Type}{l:List α}{i:Nat}{a:α}(h:i<l.length):(l.set i a)[i]?=some a:=by rw[Q8];simp[h]
def aj{α:Type}{l:List α}{i j:Nat}{a:α}(h:i≠j):(l.set i a)[j]?=l[j]?:=by rw[Q8];simp[h]
def Rl.put(R:Rl K g E U H Hm F)(T:Tm K g F H Hm k v d fp){i:Nat}(o:bg E i=true):Rl K g (E.set i (some (k,d))) (U.set i (some v)) H Hm (λj=>if j=i then fp else F j) where
 len:=by rw[OR,OR];exact R.len
 sub:=R.sub
 slot:=λj k' d' e=>by
  by_cases c:j=i
  .subst c;have hl:j<E.length:=by
    rcases OY j E.length with h|h
    .exact h
    .rw[OL (by rw[OR];exact h)]at e;cases e
   rw[aD hl]at e;cases e;exact⟨v,aD (R.len▸hl),by rw[if_pos rfl];exact T.own⟩
  .rw[aj (Ne.symm c)]at e;obtain⟨u,h1,h2⟩:=R.slot j k' d' e;exact⟨u,by rw[aj (Ne.symm c)];exact h1,by rw[if_neg c];exact h2⟩
 off:=λj a ha=>by
  by_cases c:j=i
  .rw[if_pos c]at ha;exact T.off a ha
  .rw[if_neg c]at ha;exact R.off j a ha
 bB:=λj a ha=>by
  by_cases c:j=i
  .rw[if_pos c]at ha;exact T.own.live a ha
  .rw[if_neg c]at ha;exact R.bB j a ha
 aL:=λj l a h1 h2=>by
  by_cases c:j=i
  .rw[if_pos c]at h1
   by_cases c':l=i
   .rw[c,c']
   .rw[if_neg c']at h2;exact absurd h2 (T.aL a h1 l)
  .rw[if_neg c]at h1
   by_cases c':l=i
   .rw[if_pos c']at h2;exact absurd h1 (T.aL a h2 j)
   .rw[if_neg c']at h2;exact R.aL j l a h1 h2
 fr:=R.fr
 new:=λj a ha=>by
  by_cases c:j=i
  .rw[if_pos c]at ha;exact .inr (T.new a ha)
  .rw[if_neg c]at ha;exact R.new j a ha
 pin:=λq hq=>by
  obtain⟨h1,ds,h2⟩:=R.pin q hq;have c:i≠q.1:=λz=>by
   unfold bg at o;rw[z,h2]at o;cases o
  exact⟨by rw[aj c];exact h1,ds,by rw[aj c];exact h2⟩
 old:=R.old
theorem Tm.sh(h:Rp K Hm v d):Tm K g F H Hm .sh v d []:=⟨.sh h,(λ_ z=>by cases z),(λ_ z=>by cases z),λ_ z=>by cases z⟩
def Rl.chg(R:Rl K g E U H Hm F){i:Nat}{p:Bool}{ds es:SA}{ys:List V}(e:E[i]?=some (some (.ow p,.list ds)))(r:av K Hm ys es):∃a xs,U[i]?=some (some (.ref a))/\H a=some (.lst xs)/\av K Hm xs ds/\Hm a=none/\Rl K g (E.set i (some (.ow p,.list es))) U (upd H a (.lst ys)) Hm F:=by
 obtain⟨v,h1,h2⟩:=R.slot i _ _ e;generalize hf:F i=fi at h2;cases h2 with
 |@ow _ a xs _ ha hr=>
  have ma:a∈F i:=by rw[hf];exact N6
  have na:=R.off i a ma;have up:∀b,b≠a->upd H a (.lst ys) b=H b:=λb hb=>ao hb;have li:i<E.length:=by rcases OY i E.length with h|h;{exact h};rw[OL h]at e;cases e
  refine⟨a,xs,h1,ha,hr,na,?_⟩;exact {
   len:=by rw[OR];exact R.len
   sub:=λb o hb=>by
    have:b≠a:=λz=>by rw[z,na]at hb;cases hb
    rw[up b this];exact R.sub b o hb
   slot:=λj k' d' e'=>by
    by_cases c:j=i
    .subst c;rw[aD li]at e';cases e';exact⟨_,h1,by rw[hf];exact .ow aG r⟩
    .rw[aj (Ne.symm c)]at e';obtain⟨u,g1,g2⟩:=R.slot j k' d' e';refine⟨u,g1,g2.step (ah.refl _) λb hb=>up b λz=>c (R.aL j i a (z▸hb) ma)⟩
   off:=R.off
   bB:=λj b hb=>by
    by_cases c:b=a
    .rw[c];exact⟨_,aG,kJ⟩
    .rw[up b c];exact R.bB j b hb
   aL:=R.aL
   fr:=λq o hq ho=>by
    have:q≠a:=λz=>by
     rcases R.new i a ma with y|y
     .exact hq (z▸y)
     .rw[z,y]at ho;cases ho
    rw[up q this];exact R.fr q o hq ho
   new:=R.new
   pin:=λq hq=>by
    obtain⟨g1,ds',g2⟩:=R.pin q hq
    by_cases c:i=q.1
    .rw[<-c]at g1 g2⊢;rw[e]at g2;cases g2;exact⟨g1,es,aD li⟩
    .exact⟨g1,ds',by rw[aj c];exact g2⟩
   old:=R.old }
theorem Rl.cY(R:Rl K g E U H Hm F){i:Nat}{E':En}{d:PyData}{k:Kd}(e:E[i]?=some (some (k,d)))(h:Dv.cY E i=some E'):∃v Hm' F',U[i]?=some (some v)/\ah Hm Hm'/\Rl K g E' U H Hm' F'/\Rp K Hm' v d:=by
 unfold Dv.cY at h;rw[e]at h;have h:(if k.fz=true then some (E.set i (some (.sh,d)))else none)=some E':=h;by_cases hk:k.fz=true
 .rw[if_pos hk]at h;cases h;obtain⟨v,h1,h2⟩:=R.slot i k d e;have up:=gO (Hm:=Hm) (H:=H) (fp:=F i) (R.off i);have rp:=h2.rp (by cases k<;>first|rfl|cases hk) up λa ha=>eo ha;have li:i<E.length:=by rcases OY i E.length with h|h;{exact h};rw[OL h]at e;cases e
  refine⟨v,lend Hm H (F i),λj=>if j=i then []else F j,h1,up,?_,rp⟩;exact {
   len:=by rw[OR];exact R.len
   sub:=iS R.sub
   slot:=λj k' d' e'=>by
    by_cases c:j=i
    .subst c;rw[aD li]at e';cases e';exact⟨v,h1,by rw[if_pos rfl];exact .sh rp⟩
    .rw[aj (Ne.symm c)]at e';obtain⟨u,g1,g2⟩:=R.slot j k' d' e';exact⟨u,g1,by rw[if_neg c];exact g2.step up λ_ _=>rfl⟩
   off:=λj a ha=>by
    by_cases c:j=i
    .rw[if_pos c]at ha;cases ha
    .rw[if_neg c]at ha;rw[cM λz=>c (R.aL j i a ha z)]
     exact R.off j a ha
   bB:=λj a ha=>by
    by_cases c:j=i
    .rw[if_pos c]at ha;cases ha
    .rw[if_neg c]at ha;exact R.bB j a ha
   aL:=λj l a g1 g2=>by
    by_cases c:j=i
    .rw[if_pos c]at g1;cases g1
    .rw[if_neg c]at g1
     by_cases c':l=i
     .rw[if_pos c']at g2;cases g2
     .rw[if_neg c']at g2;exact R.aL j l a g1 g2
   fr:=R.fr
   new:=λj a ha=>by
    by_cases c:j=i
    .rw[if_pos c]at ha;cases ha
    .rw[if_neg c]at ha;exact R.new j a ha
   pin:=λq hq=>by
    obtain⟨g1,ds',g2⟩:=R.pin q hq;have c:i≠q.1:=λz=>by
     rw[<-z,e]at g2;cases g2;cases hk
    exact⟨g1,ds',by rw[aj c];exact g2⟩
   old:=λa ha=>by
    rw[cM λz=>ha (R.notM e (by cases k<;>first|rfl|(rename_i p;cases p<;>first|rfl|cases hk)|cases hk) z)]
    exact R.old a ha }
 rw[if_neg hk]at h;cases h
end
end Dv
namespace L2
open PySem PySem.Spec PyProof.Rows
noncomputable def kO (h:Heap)(e C T:Addr)(dd:SD):Prop:=
 ∃(t0:Addr)(v2 v3 v4 v5:Value)(sl:Rn)(oT:Obj)(ts:Rz),h.get? e=some ⟨.ref C,dd,.fields #[.ref t0,.ref T,v2,v3,v4,v5],sl⟩/\T≠e/\h.get? T=some oT/\oT.data=.fields ts/\ts[3]?=some .none
structure Way(fs:SH)(e T:Addr)(h h':Heap):Prop where
 keep:∀b o,b≠e->b≠T->b∉fs->h.get? b=some o->h'.get? b=some o
 slot:∀b o,b≠e->b≠T->h.get? b=some o->∃sl,h'.get? b=some { o with slots:=sl }
section
variable{M:Model}{A:Around}{E:Ro}{s:Shared}
def tR{L e C t0 T0:Addr}{hadNext:Bool}(hfr:A.frames=some (env::outer))(hl:s.heap.FunFrames base (env::outer))(hf:env.frame=some L)(he:s.heap.get? e=some ⟨.ref C,dd,.fields #[.ref t0,w1,v2,v3,v4,v5],sl0⟩)(q:∀h' T,s.heap.get? T=none->Way (frs (env::outer)) e T s.heap h'->kO h' e C T dd->Q () { s with heap:=h' }) :
  wpAny M A (do let a <-frameOf env;let pl <-entryPlaceOf L hadNext;let b <-EntryCells.newEntry head a .none (rawInt L) .none pl;setField (.ref e) 1 b) (λ_ s'=>wpAny M A (setFlight (.ref e) none) Q E s') E s:=by
 have ene:e∉frs (env::outer):=λhm=>by obtain⟨_,o,ho,hnf⟩:=hl.mem hm;rw[he]at ho;cases ho;exact hnf _ rfl
 refine N1 (wpAny_frameOf_fun hfr hl hf λh1 hs1=>N1 (wpAny_entryPlaceOf λpl hpl=>?_))
 unfold EntryCells.newEntry newFields;refine N1 (PJ ?_ (hpl.sizeOk5 _ _ _ _ _));have he1:h1.get? e=some ⟨.ref C,dd,.fields #[.ref t0,w1,v2,v3,v4,v5],sl0⟩:=(hs1.2.1 e ene).trans he;generalize hO:({ cls:=.type "traceback",dict:=none,data:=.fields ([head,.ref L,.none,rawInt L,.none]++(if pl.isEmpty then List.replicate 6 Value.none else pl)).toArray }:Obj)=oT
 have he2:=O1 (h:=h1) oT he1;refine QH he2 rfl (by show 1<6;decide) ?_
 have ne:h1.objs.size≠e:=P7 (N8 he1);have hdT:oT.data=.fields ([head,.ref L,.none,rawInt L,.none]++(if pl.isEmpty then List.replicate 6 Value.none else pl)).toArray:=by rw[<-hO]
 have fr:oT.isFreed=false:=by rw[<-hO];rfl
 have he3:((h1.push oT).update e (Obj.mapFields (·.setIfInBounds 1 (Value.ref h1.objs.size)))).get? e=some ⟨.ref C,dd,.fields #[.ref t0,.ref h1.objs.size,v2,v3,v4,v5],sl0⟩:=QF _ he2 rfl;have hT3:((h1.push oT).update e (Obj.mapFields (·.setIfInBounds 1 (Value.ref h1.objs.size)))).get? h1.objs.size=some oT:=(Om _ _ (Ne.symm ne)).trans (OC h1 fr);unfold setFlight;refine N1 (O8 he3 rfl (x:=.ref h1.objs.size) rfl ?_);rw[if_pos (show(Value.ref h1.objs.size != Value.none)=true by simp)]
 have sz:s.heap.objs.size=h1.objs.size:=hs1.1.symm;refine QH hT3 hdT (by simp only[O0,NU,OF,List.length_nil]<;>lia) (q _ h1.objs.size ?_ ⟨λb o b1 b2 b3 hb=>?_,λb o b1 b2 hb=>?_⟩ ?_)
 .exact R9 (QI sz)
 .have hb1:h1.get? b=some o:=(hs1.2.1 b b3).trans hb;rw[Om _ _ (Ne.symm b2),Om _ _ (Ne.symm b1)];exact O1 _ hb1
 .obtain⟨sl,hb1⟩:=hs1.2.2 b o hb;refine⟨sl,?_⟩;rw[Om _ _ (Ne.symm b2),Om _ _ (Ne.symm b1)];exact O1 _ hb1
 .have dt:=QZ hdT (·.setIfInBounds 3 ((none:SD).elim Value.none λf=>rawInt f))
  refine⟨t0,v2,v3,v4,v5,sl0,_,_,?_,ne,QF _ hT3 (RN dt),dt,?_⟩
  .rw[Om _ _ ne];exact he3
  .first|(simp;done)|(rcases hpl with rfl|⟨_,_,_,_,_,_,_,rfl⟩<;>simp)
def leave_new{L e C t0:Addr}(hfr:A.frames=some (env::outer))(hl:s.heap.FunFrames base (env::outer))(hf:env.frame=some L)(he:s.heap.get? e=some ⟨.ref C,dd,.fields #[.ref t0,.none,v2,v3,v4,v5],sl0⟩)(q:∀h' T,s.heap.get? T=none->Way (frs (env::outer)) e T s.heap h'->kO h' e C T dd->Q () { s with heap:=h' }):wpAny M A (leaving env (.ref e)) Q E s:=by unfold leaving noteFrame;simp only[hf];refine N1 (N1 (O8 he rfl (x:=.none) rfl ?_));rw[if_neg (show ¬((Value.none != Value.none)=true)by decide)];exact tR (T0:=e) hfr hl hf he q
def Dh{L e C T:Addr}(hfr:A.frames=some (env::outer))(hl:s.heap.FunFrames base (env::outer))(hf:env.frame=some L)(ho:kO s.heap e C T dd)(q:∀h' T2,s.heap.get? T2=none->(∀b o,b≠e->b≠T->b≠T2->b∉frs (env::outer)->s.heap.get? b=some o->h'.get? b=some o)->(∀b o,b≠e->b≠T->b≠T2->s.heap.get? b=some o->∃sl,h'.get? b=some { o with slots:=sl })->kO h' e C T2 dd->Q () { s with heap:=h' }):wpAny M A (leaving env (.ref e)) Q E s:=by
 obtain⟨t0,v2,v3,v4,v5,sl0,oT,ts,he,hTe,hT,hdT,h3⟩:=ho;unfold leaving noteFrame;simp only[hf];refine N1 (N1 (O8 he rfl (x:=.ref T) rfl ?_));rw[if_pos (show(Value.ref T != Value.none)=true by simp)];refine N1 (O8 hT hdT h3 ?_);rw[if_neg (show ¬((Value.none==rawInt L)=true)by simp[rawInt])];refine N1 (QH hT hdT (Array.getElem?_eq_some_iff.mp h3).1 ?_);have other:∀b,b≠T->(s.heap.update T (Obj.mapFields (·.setIfInBounds 3 Value.none))).get? b=s.heap.get? b:=λb hb=>Om _ _ (Ne.symm hb);have noRec:∀b o,s.heap.get? b=some o->(∀vs,o.data≠.fields vs)->b≠T:=λb o hb hnf z=>by rw[z,hT]at hb;cases hb;exact hnf ts hdT
 refine tR (s:={ s with heap:=s.heap.update T (Obj.mapFields (·.setIfInBounds 3 Value.none)) }) (T0:=T) hfr (hl.of_keeps λb o hb hnf=>⟨o,(other b (noRec b o hb hnf)).trans hb,rfl⟩) hf ((other e (Ne.symm hTe)).trans he) λh' T2 n2 W O=>?_;have n2':s.heap.get? T2=none:=by
  cases c:s.heap.get? T2 with
  |none=>rfl
  |some o=>exfalso;by_cases z:T2=T;{subst z;rw[QF _ hT (RN (QZ hdT _))]at n2;cases n2};rw[show({ s with heap:=s.heap.update T (Obj.mapFields (·.setIfInBounds 3 Value.none)) }:Shared).heap.get? T2=s.heap.get? T2 from other T2 z,c]at n2;cases n2
 exact q h' T2 n2' (λb o b1 b2 b3 b4 hb=>W.keep b o b1 b3 b4 ((other b b2).trans hb)) (λb o b1 b2 b3 hb=>W.slot b o b1 b3 ((other b b2).trans hb)) O
end
end L2
namespace L2
open PySem PySem.Spec PyProof.Rows PySem.W
noncomputable def eN (P:Program)(w:World):kR:=λouter H s E e s'=>
 ∃a C T dd H',e=.ref a/\s'.os=s.os/\AllBare s'.gens/\Un (frs outer) [] H H' s.heap s'.heap/\cX P w H' s'.heap/\kO s'.heap a C T dd/\s.heap.get? T=none/\H' T=none/\s.heap.get? a=none/\H' a=some (.ext (lD a C dd))/\E (.ref C) (some a) H'
def kO.M6{e C T:Addr}(o:kO h e C T dd):lD e C dd h:=by obtain⟨t0,v2,v3,v4,v5,sl,_,_,he,_⟩:=o;exact⟨t0,_,v2,v3,v4,v5,sl,he⟩
def GN{P:Program}{w:World}{H:Hp}{h h':Heap}{a C:Addr}{dd:SD}{fs:SH}{N:Addr->Prop}(ok:cX P w H h)(ha:H a=some (.ext (lD a C dd)))(hN:∀b,N b->H b=none)(hf:∀b∈fs,H b=none)(k:∀b o,b≠a->¬N b->b∉fs->h.get? b=some o->h'.get? b=some o)(x:lD a C dd h'):cX P w H h':=λb u e=>by by_cases z:b=a;{subst z;rw[ha]at e;cases e;exact CC x};have nn:∀c v,H c=some v->¬N c/\c∉fs:=λc v q=>⟨λy=>(by rw[hN c y]at q;cases q),λy=>(by rw[hf c y]at q;cases q)⟩;refine(ok b u e).stay (λc v hc r=>k c v ?_ ?_ ?_ r) (λc r=>r) λc xs r=>r;{rcases hc with y|y;{rw[y];exact z};intro q;rw[q,ha]at y;cases y};{rcases hc with y|y;{rw[y];exact(nn b u e).1};exact(nn c _ y).1};rcases hc with y|y;{rw[y];exact(nn b u e).2};exact(nn c _ y).2
section
variable{CX:kR}{P:Program}{w:World}{K:Frag}{mg:Rr}{base:Heap}{N:SQ}{qual:Str}{scope:Scope}{f:Addr}{cd:Value}{A:Around}{outer:List Env}{s0:Shared}{H0:Hp}{E:XK}
def xC{pins:Rt}{U:St}{H:Hp}{s:Shared}{a C T:Addr}{dd:SD}{h':Heap}{Nw:Addr->Prop}(I:Inv (fS CX P w K mg base N qual scope f cd A outer s0 H0 E) pins U H s)(ha:H a=some (.ext (lD a C dd)))(na:s0.heap.get? a=none)(hN:∀b,Nw b->H b=none)(hN0:∀b,Nw b->s0.heap.get? b=none)(hT:Nw T)(k:∀b o,b≠a->¬Nw b->b∉frs (envOfC qual scope s0.heap.objs.size f cd::outer)->s.heap.get? b=some o->h'.get? b=some o)(sl:∀b o,b≠a->¬Nw b->s.heap.get? b=some o->∃sl,h'.get? b=some { o with slots:=sl })(O:kO h' a C T dd)(q:E (.ref C) (some a) H):eN P w outer H0 s0 E (.ref a) { s with heap:=h' }:=by
 have B:Un (frs outer) [] H0 H s0.heap s.heap:=I.base;have old:∀b o,s0.heap.get? b=some o->b≠a/\¬Nw b:=λb o e=>⟨(λz=>by rw[z,na]at e;cases e),λz=>by rw[hN0 b z]at e;cases e⟩;have notloc:∀b o,s0.heap.get? b=some o->b∉frs outer->b∉frs (envOfC qual scope s0.heap.objs.size f cd::outer):=λb o e nb z=>by
  have z2:b∈(envOfC qual scope s0.heap.objs.size f cd).frame.toList++frs outer:=by have:frs (envOfC qual scope s0.heap.objs.size f cd::outer)=s0.heap.objs.size::frs outer:=rfl;rw[this]at z;exact z
  rcases O7.mp z2 with y|y
  .have y:some s0.heap.objs.size=some b:=by
    have y0:(envOfC qual scope s0.heap.objs.size f cd).frame=some b:=by simpa using y
    exact y0
   have y:s0.heap.objs.size=b:=Option.some.inj y;exact absurd (N8 e) (by rw[<-y];exact Ow _)
  exact nb y
 refine⟨a,C,T,dd,H,rfl,I.os,I.bare,⟨λb o e n nf nx=>?_,λb o e n nf nx=>?_,λb o e n nx=>B.free b o e n nx,λb o e nx=>?_,B.tups,B.ki,B.kZ⟩,?_,O,hN0 T hT,hN T hT,na,ha,q⟩;{exact k b o (old b o e).1 (old b o e).2 (notloc b o e nf) (B.keep b o e n nf nx)};{obtain⟨sl1,e1⟩:=B.slot b o e n nf nx;obtain⟨sl2,e2⟩:=sl b _ (old b o e).1 (old b o e).2 e1;exact⟨sl2,e2⟩};{obtain⟨o1,e1⟩:=B.there b o e nx;obtain⟨sl2,e2⟩:=sl b _ (old b o e).1 (old b o e).2 e1;exact⟨_,e2⟩};exact GN I.hok ha hN (I.rM) (λb o b1 b2 b3 e=>k b o b1 b2 b3 e) O.M6
def Kl{a C t0:Addr}(I:Inv (fS (eN P w) P w K mg base N qual scope f cd A outer s0 H0 E) pins U H s)(ha:H a=some (.ext (lD a C dd)))(he:s.heap.get? a=some ⟨.ref C,dd,.fields #[.ref t0,.none,v2,v3,v4,v5],sl0⟩)(na:s0.heap.get? a=none)(q:E (.ref C) (some a) H):(fS (eN P w) P w K mg base N qual scope f cd A outer s0 H0 E).xe (.ref a) s:=by
 refine leave_new (base:=base) (L:=s0.heap.objs.size) I.ok.frames I.stack rfl he λh' T nT W O=>?_;have nT0:s0.heap.get? T=none:=by
  cases c:s0.heap.get? T with
  |none=>rfl
  |some o=>obtain⟨o1,e1⟩:=I.base.there T o c (by show T∉([]:SH);simp);rw[e1]at nT;cases nT
 exact xC (Nw:=λb=>b=T) I ha na (λb z=>by rw[z];exact I.lO nT) (λb z=>by rw[z];exact nT0) rfl (λb o b1 b2 b3 e=>W.keep b o b1 b2 b3 e) (λb o b1 b2 e=>W.slot b o b1 b2 e) O q
def aF:Passes (eN P w) (fS (eN P w) P w K mg base N qual scope f cd A outer s0 H0 E) E:=by
 intro pins U H s e s' I h;obtain⟨a,C,T,dd,H',rfl,os,bare,un,hok,O,nT,hT,na,ha,q⟩:=h;have I':=I.FA (s':=s') (ch:=[]) os un hok bare λb z=>absurd z (by simp);have up:∀b,s.heap.get? b=none->s0.heap.get? b=none:=λb n=>by
  cases c:s0.heap.get? b with
  |none=>rfl
  |some o=>obtain⟨o1,e1⟩:=I.base.there b o c (by show b∉([]:SH);simp);rw[e1]at n;cases n
 refine Dh (base:=base) (L:=s0.heap.objs.size) I'.ok.frames I'.stack rfl O λh' T2 n2 k sl O2=>?_;have nT2:s0.heap.get? T2=none:=by
  cases c:s0.heap.get? T2 with
  |none=>rfl
  |some o=>obtain⟨o1,e1⟩:=I'.base.there T2 o c (by show T2∉([]:SH);simp);rw[e1]at n2;cases n2
 refine xC (Nw:=λb=>b=T\/b=T2) I' ha (up a na) (λb z=>?_) (λb z=>?_) (.inr rfl) (λb o b1 b2 b3 e=>k b o b1 (λz=>b2 (.inl z)) (λz=>b2 (.inr z)) b3 e) (λb o b1 b2 e=>sl b o b1 (λz=>b2 (.inl z)) (λz=>b2 (.inr z)) e) O2 q;{rcases z with rfl|rfl;{exact hT};exact I'.lO n2};rcases z with rfl|rfl;{exact up _ nT};exact nT2
end
section
variable{P:Program}{w:World}{K:Frag}{mg:Rr}{base:Heap}{N:SQ}{qual:Str}{scope:Scope}{f:Addr}{cd:Value}{A:Around}{outer:List Env}{s0:Shared}{H0:Hp}{E:XK}
noncomputable def HC (C:Addr)(E:XK)(t:TA):TS:=λ_ U H=>t U H λvs H1=>vs.length<=sizeLine/\∀a,H1 a=none->E (.ref C) (some a) (upd H1 a (.ext (lD a C none)))
def Dc{C:Addr}(hc:jN K C AA "ValueError.__new__" none=true)(hg:Gl (fS (eN P w) P w K mg base N qual scope f cd A outer s0 H0 E) x)(hm:mg x=some (.ref C))(ha:PA (fS (eN P w) P w K mg base N qual scope f cd A outer s0 H0 E) (e::es) t)(hdb:(x==("__debug__":Str))=false:=by decide)(he:starEach (e::es) (envOfC qual scope s0.heap.objs.size f cd)=(false,eval e (envOfC qual scope s0.heap.objs.size f cd))::starEach es (envOfC qual scope s0.heap.objs.size f cd):=by rfl)(hpl:(backTo cpos (starEach es (envOfC qual scope s0.heap.objs.size f cd))).any (·.1)=false:=by rfl) : PS (fS (eN P w) P w K mg base N qual scope f cd A outer s0 H0 E) (.Raise (some (.Call (.Name x np) (e::es) [] cpos)) none pos) (HC C E t):=by
 intro pins s U H D I h;obtain⟨bm,N0,nm,qn,bs,hd,sn,sub,ab,col,dd,k0,k1,k2,k3,k5,mN,hC,hN,hni,T⟩:=(GI I.ok.mod.ni hc).obj;refine wpAny_Raise_call_subT (C:=C) (nm:=nm) (q:=qn) (N:=N0) (bs:=bs) (bm:=bm) (hdct:=hd) (sn:=sn) (sub:=sub) (ab:=ab) (col:=col) (dd:=dd) (k0:=k0) (k1:=k1) (k2:=k2) (k3:=k3) (k5:=k5)
  PySem.F.excBase_ValueError (mN:=mN) (T.hasType (by decide)) (I.ok.hd rfl) (by show(backTo cpos (starEach (e::es) (envOfC qual scope s0.heap.objs.size f cd))).any (·.1)=false;rw[he];show(false||(backTo cpos (starEach es (envOfC qual scope s0.heap.objs.size f cd))).any (·.1))=false;rw[hpl];rfl) hni (xQ I hg hm ⟨rfl,?_⟩ hdb)
 have go:=ha cpos pins s U H _ I h;show wpAny (model P w) _ (evalArgs (.ref C) true (backTo cpos (starEach (e::es) (envOfC qual scope s0.heap.objs.size f cd))) []) _ _ _;have go':wpAny (model P w) _ (spliced (backTo cpos (starEach (e::es) (envOfC qual scope s0.heap.objs.size f cd)))) _ _ _:=go;rw[he]at go'⊢;refine Calls.evalArgs_plain (aQ go' λus s1 ⟨vs,H1,I1,r,hz,q⟩=>?_);have kp:∀b o,base.get? b=some o->s1.heap.get? b=some o:=I1.bk;refine⟨rfl,by rw[<-r.length];exact hz,kp _ _ hC,hN.keeps kp,T.keeps kp,λh' a M=>?_⟩;obtain⟨hp,g,dr,tk,os⟩:=s1;obtain⟨keeps,new,t0,hx,_,_⟩:=M;have I2:=I1.E8 (a:=a) (o:=.ext (lD a C none)) (t':=tk) keeps new (CC ⟨_,_,_,_,_,_,_,hx⟩);have na:s0.heap.get? a=none:=by
  cases c:s0.heap.get? a with
  |none=>rfl
  |some o=>obtain⟨o1,e1⟩:=I1.base.there a o c (by show a∉([]:SH);simp);rw[e1]at new;cases new
 exact Kl I2 (aG) hx na (q a (I1.lO new))
end
section
variable{P:Program}{w:World}{K:Rx}{mg:Rr}{base:Heap}
def qv.Nr{x qual:Str}{st:Stmt}{f:Addr}{fd:FuncData}{N ps:SQ}{k:Nat}{sp:Sp}(F:qv K x qual st f fd)(S:aT N ps (aq st))(len:∀vs H Q E,sp vs H Q E->vs.length=ps.length)(hbody:∀(cdv:Value)(A:Around)(outer:List Env)(s:Shared)(H:Hp)(vs:List V)(Q:VK)(E:XK),dD k (A.deeper (envOfC qual (aq st) s.heap.objs.size f cdv))->sp vs H Q E-> ∃t,m5 (fS (eN P w) P w K mg base N qual (aq st) f cdv A outer s H E) (fK st) t/\t { nx:=λ_ H'=>Q .bq H',rt:=Q } (start N vs) H):fW P w K mg base (eN P w) (k+1) f fd ps sp:=by obtain⟨oc,od,kV,doc,pm,an,cdv,ct,osl,rfl,lk,hcd⟩:=F.ex;refine LO lk hcd S len λA outer s H vs Q E hr hsp=>?_;obtain⟨t,h,q⟩:=hbody cdv A outer s H vs Q E hr hsp;exact⟨t,h,q⟩
noncomputable def bU (P:Program)(w:World)(K:Rx)(mg:Rr)(base:Heap) (k:Nat) (x:Str)(ps:SQ)(sp:Sp):Prop:=
 ∃f fd,mg x=some (.ref f)/\PySem.W.keepIn K (.ref f)=true/\Binds K fd ps []/\fW P w K mg base (eN P w) k f fd ps sp
end
end L2
namespace Dv
open PySem L2 PySem.W
noncomputable def WE (X:Cx)(e:Expr):TE:=λU H Q=>∀(pins:Rt)(s:Shared),Inv X pins U H s->wpAny (model X.prog X.w) X.A (eval e X.env) (EP X pins U Q) X.xe s
def bC:PE X e (WE X e):=λpins s _ _ _ I h=>h pins s I
def WE.of(h:PE X e t)(q:t U H Q):WE X e U H Q:=λpins s I=>h pins s U H Q I q
noncomputable def WT (X:Cx)(e:Expr):TT:=λU H Q=>∀(pins:Rt)(s:Shared),Inv X pins U H s->wpAny (model X.prog X.w) X.A (isTrue e X.env (eval e X.env)) (TP X pins U Q) X.xe s
def jb:PT X e (WT X e):=λpins s _ _ _ I h=>h pins s I
def WT.of(h:PT X e t)(q:t U H Q):WT X e U H Q:=λpins s I=>h pins s U H Q I q
noncomputable def nV (X:Cx):SK->TA
 |[],_,H,Q=>Q [] H
 |e::es,U,H,Q=>WE X e U H λv H1=>nV X es U H1 λvs H2=>Q (v::vs) H2
noncomputable def sel (Y:SN)(U:St):St:=Y.map λi=>(U[i]?).join
def fN{j i:Nat}(h:Y[j]?=some i)(e:U[i]?=some (some v)):(sel Y U)[j]?=some (some v):=by unfold sel;rw[O4,h];show some (U[i]?).join=_;rw[e];rfl
noncomputable def XL (X:Cx)(Ex:XK)(x:XC)(g:Gh):Prop:=∀(c:Str)(d:PyData)(C a:Addr)(H':Hp),X.mg c=some (.ref C)->x c d->(∀p o,p∉g.M->g.H0 p=some o->H' p=some o)->H' a=some (.ext (lD a C none))->g.H0 a=none->Ex (.ref C) (some a) H'
def XL.no:XL X Ex xF g:=λ_ _ _ _ _ _ z=>z.elim
noncomputable def SE (X:Cx)(Ex:XK)(Y:SN)(e:Expr)(d:DE):Prop:=
 ∀(g:Gh)(x:XC)(E:En)(U:St)(H Hm:Hp)(F:Nat->SH)(P:En->Kd->PyData->Prop)(Q:VK),XL X Ex x g->Rl X.K g E U H Hm F->d x E P->
  (∀E' k v u H' Hm' F' fp,P E' k v->Rl X.K g E' U H' Hm' F'->ah Hm Hm'->Tm X.K g F' H' Hm' k u v fp->Q u H')->WE X e (sel Y U) H Q
noncomputable def ST (X:Cx)(Ex:XK)(Y:SN)(e:Expr)(d:DT):Prop:=
 ∀(g:Gh)(x:XC)(E:En)(U:St)(H Hm:Hp)(F:Nat->SH)(P:En->Bool->Prop)(Q:Bool->Hp->Prop),XL X Ex x g->Rl X.K g E U H Hm F->d x E P->
  (∀E' b H' Hm' F',P E' b->Rl X.K g E' U H' Hm' F'->ah Hm Hm'->Q b H')->WT X e (sel Y U) H Q
inductive aM(X:Cx)(Ex:XK)(Y:SN):SK->List Arg->Prop
 |nil:aM X Ex Y [] []
 |pk {e:Expr}{es:SK}{as:List Arg}{i j:Nat}:PE X e (mJ j)->Y[j]?=some i->aM X Ex Y es as->aM X Ex Y (e::es) (.pk i::as)
 |ev {e:Expr}{es:SK}{as:List Arg}{d:DE}:SE X Ex Y e d->aM X Ex Y es as->aM X Ex Y (e::es) (.ev d::as)
inductive Got(K:Frag)(U:St)(Hm:Hp):List Arg->List (Option PyData)->List V->Prop
 |nil:Got K U Hm [] [] []
 |pk {i:Nat}{v:V}{as:List Arg}{os:List (Option PyData)}{vs:List V}:U[i]?=some (some v)->Got K U Hm as os vs->Got K U Hm (.pk i::as) (none::os) (v::vs)
 |ev {e:DE}{v:V}{d:PyData}{as:List Arg}{os:List (Option PyData)}{vs:List V}:Rp K Hm v d->Got K U Hm as os vs->Got K U Hm (.ev e::as) (some d::os) (v::vs)
def nv{F:Nat->SH}(R:Rl K g E U H Hm F){i:Nat}(h:here E i=true):∃v,U[i]?=some (some v):=by unfold here at h;split at h;{rename_i kd e;obtain⟨v,h1,_⟩:=R.slot i kd.1 kd.2 e;exact⟨v,h1⟩};cases h
section
variable{X:Cx}{Ex:XK}{Y:SN}{g:Gh}{x:XC}{U:St}
def jj(hx:XL X Ex x g)(S:aM X Ex Y es as):∀{E:En}{H Hm:Hp}{F:Nat->SH}{P:En->List (Option PyData)->Prop}{Q:List V->Hp->Prop},Rl X.K g E U H Hm F->gE as x E P->(∀E' os vs H' Hm' F',P E' os->Rl X.K g E' U H' Hm' F'->ah Hm Hm'->Got X.K U Hm' as os vs->Q vs H')->nV X es (sel Y U) H Q:=by
 induction S with
 |nil=>exact λR h q=>q _ _ _ _ _ _ h R (ah.refl _) .nil
 |@pk e es as i j hp hj _ ih=>intro E H Hm F P Q R h q;replace h:bK (here E i) _:=h;rw[cZ]at h;obtain⟨h1,h2⟩:=h;obtain⟨v,hv⟩:=nv R h1;refine WE.of hp ⟨v,fN hj hv,ih R h2 λE' os vs H' Hm' F' p R' s G=>q _ _ _ _ _ _ p R' s (.pk hv G)⟩
 |@ev e es as d hd _ ih=>intro E H Hm F P Q R h q;refine hd g x E U H Hm F _ _ hx R h λE1 k v u H1 Hm1 F1 fp p R1 s1 T=>?_;replace p:bK k.fz _:=p;rw[cZ]at p;obtain⟨hk,p⟩:=p;obtain⟨Hm2,s2,R2,r⟩:=T.dZ R1 hk;exact ih R2 p λE' os vs H' Hm' F' p' R' s' G=>q _ _ _ _ _ _ p' R' (s1.trans (s2.trans s')) (.ev (r.mono s') G)
def lJ{F:Nat->SH}(R:Rl K g E U H Hm F)(s:ah Hm Hm1):∀{as:List Arg}{os:List (Option PyData)}{vs:List V}{ds:SA},Got K U Hm as os vs->fill as E os=some ds->(∀i∈cK as,∀a∈F i,Hm1 a=H a)->av K Hm1 vs ds:=by
 intro as os vs ds G;induction G generalizing ds with
 |nil=>intro h _;cases h;exact .nil
 |@pk i v as os vs hv G ih=>
  intro h n;rw[fill]at h;split at h
  .rename_i k d e;by_cases hk:k.rd=true
   .rw[if_pos hk]at h;cases hf:fill as E os with
    |none=>rw[hf]at h;cases h
    |some es=>rw[hf]at h;cases h;obtain⟨v',h1,h2⟩:=R.slot i k d e;rw[hv]at h1;cases h1;exact .cons (h2.rp hk s (n i N6)) (ih hf λj hj=>n j (NX _ hj))
   rw[if_neg hk]at h;cases h
  cases h
 |@ev d v u as os vs r G ih=>
  intro h n;rw[fill]at h;cases hf:fill as E os with
  |none=>rw[hf]at h;cases h
  |some es=>rw[hf]at h;cases h;exact .cons (r.mono s) (ih hf n)
theorem l9:∀{is:SN}{E E2:En},dN is E=some E2->E2.length=E.length/\∀j,(j∉is->E2[j]?=E[j]?)/\(j∈is->∃k d,E[j]?=some (some (k,d))/\k.fz=true/\E2[j]?=some (some (.sh,d)))
 |[],E,E2,h=>by cases h;exact⟨rfl,λj=>⟨λ_=>rfl,λz=>by cases z⟩⟩
 |i::r,E,E2,h=>by
  have h:(cY E i).bind (dN r)=some E2:=h;cases hf:cY E i with
  |none=>rw[hf]at h;cases h
  |some E1=>
   rw[hf]at h;obtain⟨l1,g1⟩:=l9 (is:=r) (E:=E1) (E2:=E2) h;unfold cY at hf;split at hf
   .rename_i k d e;by_cases hk:k.fz=true
    .rw[if_pos hk]at hf;cases hf;have li:i<E.length:=by rcases OY i E.length with h|h;{exact h};rw[OL h]at e;cases e
     rw[OR]at l1;refine⟨l1,λj=>⟨λn=>?_,λm=>?_⟩⟩;{have n1:j≠i:=λz=>n (z▸N6);rw[(g1 j).1 λz=>n (NX _ z),aj (Ne.symm n1)]};by_cases c:j=i;{subst c;by_cases m':j∈r;{obtain⟨k2,d2,e2,_,e3⟩:=(g1 j).2 m';rw[aD li]at e2;cases e2;exact⟨k,d,e,hk,e3⟩};exact⟨k,d,e,hk,by rw[(g1 j).1 m',aD li]⟩};have m':j∈r:=(NY.mp m).resolve_left c;obtain⟨k2,d2,e2,h2,e3⟩:=(g1 j).2 m';rw[aj (Ne.symm c)]at e2;exact⟨k2,d2,e2,h2,e3⟩
    rw[if_neg hk]at hf;cases hf
   cases hf
def vM{F:Nat->SH}(R:Rl K g E U H Hm F)(hE:(if flat k v=true then some E else dN is E)=some E2)(sH:ah H H')(s1:ah (lend Hm H (is.flatMap F)) Hm2)(s2:ah Hm2 H')(old:∀a,H a≠none->OE (Hm2 a) (lend Hm H (is.flatMap F) a))(o:Own K H' Hm2 k u v fp)(fr:∀a∈fp,H a=none/\Hm2 a=none) : ∃Hm' F',Rl K g E2 U H' Hm' F'/\ah Hm Hm'/\Tm K g F' H' Hm' k u v fp:=by
 have mem:∀{a i},a∈F i->i∈is->a∈is.flatMap F:=λha hi=>OG.mpr ⟨_,hi,ha⟩;have off:∀a∈is.flatMap F,Hm a=none:=λa ha=>by obtain⟨i,_,h⟩:=OG.mp ha;exact R.off i a h
 have up:ah Hm (lend Hm H (is.flatMap F)):=gO off;have bB:∀{i a},a∈F i->H a≠none:=λha z=>by obtain⟨u,hu,_⟩:=R.bB _ _ ha;rw[z]at hu;cases hu
 have nfp:∀a∈fp,∀i,a∉F i:=λa ha i=>R.fresh (fr a ha).1;by_cases hf:flat k v=true
 .rw[if_pos hf]at hE;cases hE;refine⟨back Hm2 (is.flatMap F),F,R.grow sH (λb o e=>?_) (wQ s2) (λi a ha=>?_) (λa ha=>?_),λb o e=>?_,⟨o.flat (λa xs h=>?_) hf,λa ha=>?_,nfp,λa ha=>R.ir (fr a ha).1⟩⟩;{rw[cU λz=>by rw[off b z]at e;cases e];exact s1 _ _ (up _ _ e)};{by_cases c:a∈is.flatMap F;{exact iV c};rw[cU c];obtain⟨w,hw,nt⟩:=R.bB i a ha;exact(old a (bB ha)).off (by rw[cM c];exact R.off i a ha) s2 (sH _ _ hw) nt};{by_cases c:a∈is.flatMap F;{rw[iV c,off a c];exact .inl rfl};have h:=old a (R.rA ha);rw[cM c]at h;rw[cU c];exact h};{rw[cU λz=>by rw[off b z]at e;cases e];exact s1 _ _ (up _ _ e)}
  .have c:a∉is.flatMap F:=λz=>by obtain⟨i,_,hi⟩:=OG.mp z;obtain⟨w,hw,nt⟩:=R.bB i a hi;have e2:Hm2 a=some w:=s1 _ _ (by rw[eo z];exact hw);rw[e2]at h;cases h;exact nt xs rfl
   rw[cU c];exact h
  by_cases c:a∈is.flatMap F;{exact iV c};rw[cU c];exact(fr a ha).2
 rw[if_neg hf]at hE;obtain⟨l2,g2⟩:=l9 hE;have R':Rl K g E2 U H' Hm2 (λj=>if j∈is then []else F j):={
  len:=l2.trans R.len
  sub:=s2
  slot:=λj k' d' e'=>by
   by_cases c:j∈is
   .obtain⟨k0,d0,e0,hk0,e1⟩:=(g2 j).2 c;rw[e1]at e';cases e';obtain⟨v',h1,h2⟩:=R.slot j k0 _ e0;refine⟨v',h1,?_⟩;rw[if_pos c];exact .sh ((h2.rp (by cases k0<;>first|rfl|cases hk0) up λa ha=>eo (mem ha c)).mono s1)
   .rw[(g2 j).1 c]at e';obtain⟨v',h1,h2⟩:=R.slot j k' d' e';refine⟨v',h1,?_⟩;rw[if_neg c];refine h2.step (up.trans s1) λa ha=>?_
    obtain⟨w,hw,_⟩:=h2.live a ha;rw[hw];exact sH _ _ hw
  off:=λj a ha=>by
   by_cases c:j∈is
   .rw[if_pos c]at ha;cases ha
   .rw[if_neg c]at ha;obtain⟨w,hw,nt⟩:=R.bB j a ha;refine(old a (bB ha)).off ?_ s2 (sH _ _ hw) nt;rw[cM]
    .exact R.off j a ha
    .intro z;obtain⟨i,hi,h⟩:=OG.mp z;exact c (R.aL i j a h ha▸hi)
  bB:=λj a ha=>by
   by_cases c:j∈is
   .rw[if_pos c]at ha;cases ha
   .rw[if_neg c]at ha;obtain⟨w,hw,nt⟩:=R.bB j a ha;exact⟨w,sH _ _ hw,nt⟩
  aL:=λj l a h1 h2=>by
   by_cases c:j∈is
   .rw[if_pos c]at h1;cases h1
   .rw[if_neg c]at h1
    by_cases c':l∈is
    .rw[if_pos c']at h2;cases h2
    .rw[if_neg c']at h2;exact R.aL j l a h1 h2
  fr:=λp o hp ho=>sH _ _ (R.fr p o hp ho)
  new:=λj a ha=>by
   by_cases c:j∈is
   .rw[if_pos c]at ha;cases ha
   .rw[if_neg c]at ha;exact R.new j a ha
  pin:=λq hq=>by
   obtain⟨h1,ds',h2⟩:=R.pin q hq;have c:q.1∉is:=λz=>by
    obtain⟨k0,d0,e0,hk0,_⟩:=(g2 q.1).2 z;rw[h2]at e0;cases e0;cases hk0
   exact⟨h1,ds',by rw[(g2 q.1).1 c];exact h2⟩
  old:=λa ha=>by
   refine(old a (R.rA ha)).trans ?_;rw[cM]
   .exact R.old a ha
   .intro z;obtain⟨i,hi,h⟩:=OG.mp z;obtain⟨k0,d0,e0,hk0,_⟩:=(g2 i).2 hi;exact ha (R.notM e0 (by cases k0<;>first|rfl|(rename_i p;cases p<;>first|rfl|cases hk0)|cases hk0) h) }
 refine⟨Hm2,_,R',up.trans s1,⟨o,λa ha=>(fr a ha).2,λa ha i=>?_,λa ha=>R.ir (fr a ha).1⟩⟩;by_cases c:i∈is;{rw[if_pos c];simp};rw[if_neg c];exact nfp a ha i
noncomputable def cF (K:Frag)(f:DR)(r:List V->Hp->VK->Prop):Prop:=
 ∀(H Hm:Hp)(vs:List V)(ds:SA)(P:Kd->PyData->Prop)(Q:VK),ah Hm H->av K Hm vs ds->f ds P->
  (∀k v u H' Hm' fp,P k v->ah H H'->ah Hm Hm'->ah Hm' H'->(∀a,H a≠none->OE (Hm' a) (Hm a))->Own K H' Hm' k u v fp->(∀a∈fp,H a=none/\Hm' a=none)->Q u H')->r vs H Q
def fP(S:aM X Ex Y es as)(hr:∀U H Q,nV X es U H (λvs H1=>r vs H1 Q)->WE X e U H Q)(D:cF X.K f r):SE X Ex Y e (aa f as):=by
 intro g x E U H Hm F P Q hx R h q;refine hr _ _ _ (jj hx S R h λE1 os vs H1 Hm1 F1 p R1 s1 G=>?_);replace p:uQ f as E1 os P:=p;unfold uQ at p;rw[<-aY,dR]at p;obtain⟨ds,hf,hg⟩:=p;have off:∀a∈(cK as).flatMap F1,Hm1 a=none:=λa ha=>by obtain⟨i,_,h⟩:=OG.mp ha;exact R1.off i a h
 have up:=gO (Hm:=Hm1) (H:=H1) off;refine D H1 (lend Hm1 H1 ((cK as).flatMap F1)) vs ds _ Q (iS R1.sub) (lJ R1 up G hf λi hi a ha=>eo (OG.mpr ⟨i,hi,ha⟩)) hg λk v u H' Hm2 fp p sH sM sS old o fr=>?_;replace p:au (qq as E1 k v) _:=p;rw[<-aY,yI]at p;obtain⟨E2,ha,p⟩:=p;obtain⟨Hm',F',R',s',T⟩:=vM R1 (is:=cK as) (qL ha) sH sM sS old o fr;exact q _ _ _ _ _ _ _ _ p R' (s1.trans s') T
end
end Dv
namespace L2
open PySem PySem.Spec PyProof.Rows
section
variable{X:Cx}
noncomputable def zu (i j:Int):Prop:=0<j/\j<115792089237316195423570985008687907853269984665640564039457584007913129639936
def Du:bA X (binaryOp .FloorDiv) (rI zu λi j=>.int (i/j)):=x6 λi j _ _ _ _ _ hc q=>by
 have h1:(0:Int)<j:=hc.1;have h2:j<115792089237316195423570985008687907853269984665640564039457584007913129639936:=hc.2;refine floordiv_int (by lia) (by rw[Int.fdiv_eq_ediv_of_nonneg i (by lia)];exact q) (.inl (PyProof.noPylong_of_log2 ?_));have:j.natAbs.log2<256:=(Nat.log2_lt (by lia)).mpr (by
  have:(2:Nat)^256=115792089237316195423570985008687907853269984665640564039457584007913129639936:=by decide
  lia)
 lia
end
end L2
namespace TS
open PySem PyProof.Rows
noncomputable def sL:Bool->Keyed->Array Keyed->Nat->Nat->Nat->StateT SortSt Sem (Option Nat):=sortPriv%PySem.Builtin.gallop
noncomputable def vG:Array Keyed->Array Keyed->StateT SortSt Sem (Array Keyed):=sortPriv%PySem.Builtin.mergeLo
noncomputable def uO:Array Keyed->Array Keyed->StateT SortSt Sem (Array Keyed):=sortPriv%PySem.Builtin.mergeHi
section
variable{prog:Program}{w:World}{A:Around}{E:Ro}{s:Shared}
noncomputable def iU (prog:Program)(w:World)(A:Around)(s:Shared)(kd:SortKind)(P:Value->Prop):Prop:=∀(E:Ro) x y,P x->P y->∀Q:Bool->Shared->Prop,(∀b,Q b s)->wpAny (model prog w) A (keyLt' kd x y) Q E s
noncomputable def Good (P:Value->Prop)(xs:Array Keyed):Prop:=∀(i:Nat)(p:Keyed),xs[i]?=some p->P p.1
variable{kd:SortKind}{P:Value->Prop}
def ask{st:SortSt}(L:iU prog w A s kd P)(hk:kindOf st=kd)(hx:P x.1)(hy:P y.1)(h:∀b,Q (some b) st):wpS (model prog w) A E s (lt' x y) Q st:=by rw[lt'_eq];refine N2 (wpS_get ?_);rw[hk];refine N2 (PK (wpAny_attempt (L _ _ _ hx hy _ λb=>⟨rfl,?_⟩)));exact N3 (h b)
def jJ{st:SortSt}{i:Nat}(hi:i<xs.size)(h:∀p,xs[i]?=some p->Q p st):wpS (model prog w) A E s (elem' xs i) Q st:=by rw[elem'_eq,Array.getElem?_eq_getElem hi];exact N3 (h _ (Array.getElem?_eq_getElem hi))
def nO{st:SortSt}{left:Bool}{base n hint:Nat}(L:iU prog w A s kd P)(hk:kindOf st=kd)(hy:P key.1)(G:Good P xs)(hn:base+n<=xs.size)(hh:hint<n)(h:∀k,k<=n->Q (some k) st) : wpS (model prog w) A E s (sL left key xs base n hint) Q st:=by
 have oX:∀(i:Nat){R:Option Bool->SortSt->Prop},i<n->(∀b,R (some b) st)->wpS (model prog w) A E s (do
   let x <-elem' xs (base+i)
   if left then lt' x key else return (<-lt' key x).map (!·)) R st:=λi R hi hR=>by
  refine N2 (jJ (by lia) λp hp=>?_)
  cases left with
  |true=>exact ask L hk (G _ _ hp) hy hR
  |false=>exact N2 (ask L hk hy (G _ _ hp) λb=>N3 (hR _))
 unfold sL;refine N2 (oX hint hh λb=>?_);dsimp only;split;all_goals
  refine N2 (OI (OJ (I:=λ_ c st'=>st'=st/\c.1=none) (Q:=λc st'=>st'=st/\c.1=none) ?step (λ_ _ q=>q) ⟨rfl,rfl⟩) ?post)
  case step=>
   rintro x⟨o,a,c⟩st' _ _⟨rfl,rfl⟩;dsimp only;split
   .exact N3 ⟨rfl,rfl⟩
   .refine N2 (oX _ (by lia) λb'=>?_)
    dsimp only;split
    .exact N3 ⟨rfl,rfl⟩
    .exact N3 ⟨rfl,rfl⟩
  case post=>
   rintro⟨o,a,c⟩st'⟨rfl,rfl⟩;dsimp only;refine N2 (OI (OJ (I:=λ_ c st''=>st''=st'/\c.1=none/\c.2.2<=n) (Q:=λc st''=>st''=st'/\c.1=none/\c.2.2<=n) ?step2 (λ_ _ q=>q) ⟨rfl,rfl,by dsimp only;lia⟩) ?post2)
   case step2=>
    rintro x⟨o,a,c⟩st'' _ _⟨rfl,rfl,le⟩;dsimp only at le⊢;split
    .exact N3 ⟨rfl,rfl,le⟩
    .refine N2 (oX _ (by lia) λb'=>?_)
     dsimp only;split
     .exact N3 ⟨rfl,rfl,le⟩
     .exact N3 ⟨rfl,rfl,by dsimp only;lia⟩
   case post2=>
    rintro⟨o,a,c⟩st''⟨rfl,rfl,le⟩;dsimp only;exact N3 (h _ le)
end
noncomputable def Pm (xs ys out:Array Keyed) (ia ib:Nat):Prop:=out.toList.Perm (xs.toList.take ia++ys.toList.take ib)
section
variable{xs ys out:Array Keyed}{ia ib k:Nat}
def wu(zs:Array Keyed) (i k:Nat):zs.toList.take (i+k)=zs.toList.take i++(zs.extract i (i+k)).toList:=by rw[RO,List.take_add,RP];congr 2;lia
def Pm.x(h:Pm xs ys out ia ib) (k:Nat):Pm xs ys (out++xs.extract ia (ia+k)) (ia+k) ib:=by unfold Pm at *;rw[OT,wu xs ia k,OS];refine(h.append_right _).trans ?_;rw[OS];exact Pf _ Pg
def Pm.y(h:Pm xs ys out ia ib) (k:Nat):Pm xs ys (out++ys.extract ib (ib+k)) ia (ib+k):=by unfold Pm at *;rw[OT,wu ys ib k,<-OS];exact h.append_right _
def qb{zs out:Array Keyed}{i:Nat}(hp:zs[i]?=some p):out.push p=out++zs.extract i (i+1):=by
 obtain⟨hi,e⟩:=Array.getElem?_eq_some_iff.mp hp;have:zs.extract i (i+1)=#[p]:=by
  rw[<-e];apply Array.ext;{simp;lia};intro j h1 h2;have:j=0:=by simp at h2;exact h2
  subst this;simp
 rw[this];rfl
def Pm.px{p:Keyed}(h:Pm xs ys out ia ib)(hp:xs[ia]?=some p):Pm xs ys (out.push p) (ia+1) ib:=by rw[qb hp];exact h.x 1
def Pm.py{p:Keyed}(h:Pm xs ys out ia ib)(hp:ys[ib]?=some p):Pm xs ys (out.push p) ia (ib+1):=by rw[qb hp];exact h.y 1
def uU(zs:Array Keyed) (i:Nat):zs.toList=zs.toList.take i++(zs.extract i).toList:=by rw[RO,RP];have:List.take (zs.size-i) (List.drop i zs.toList)=List.drop i zs.toList:=Ph (by simp);rw[this,Qa]
def Pm.done(h:Pm xs ys out ia ib):(out++xs.extract ia++ys.extract ib).toList.Perm (xs.toList++ys.toList):=by unfold Pm at h;rw[OT,OT,uU xs ia,uU ys ib];refine((h.append_right _).append_right _).trans ?_;simp only[OS];refine Pf _ ?_;rw[<-OS,<-OS];exact QJ _ Pg
def Pm.last(h:Pm xs ys out ia ib):(out++ys.extract ib++xs.extract ia).toList.Perm (xs.toList++ys.toList):=by refine List.Perm.trans ?_ h.done;rw[OT,OT,OT,OT,OS,OS];exact Pf _ Pg
end
noncomputable def kG (st st':SortSt):Prop:=kindOf st'=kindOf st/\arrOf st'=arrOf st/\pendingOf st'=pendingOf st/\failedOf st'=failedOf st
inductive IJ(st:SortSt)(xs ys:Array Keyed) (x:Nat):Option (Array Keyed)×Array Keyed×Nat×Nat×Nat->SortSt->Prop
 |mk:∀(out:Array Keyed) (ia ib mg:Nat)(st':SortSt),kG st st'->Pm xs ys out ia ib->ia+1<xs.size->ib<ys.size->x+1<=ia+ib->IJ st xs ys x (none,out,ia,ib,mg) st'
inductive Ax(st:SortSt)(xs ys:Array Keyed):Option (Array Keyed)×Array Keyed×Nat×Nat×Nat->SortSt->Prop
 |mk:∀(r out:Array Keyed) (ia ib mg:Nat)(st':SortSt),kG st st'->r.toList.Perm (xs.toList++ys.toList)->Ax st xs ys (some r,out,ia,ib,mg) st'
inductive Eo(st:SortSt)(xs ys:Array Keyed) (n y:Nat):Option (Array Keyed)×Array Keyed×Nat×Nat×Nat×Nat->SortSt->Prop
 |mk:∀(out:Array Keyed) (ia ib ac bc:Nat),Pm xs ys out ia ib->ia+1<xs.size->ib<ys.size->y+n<=ia+ib->Eo st xs ys n y (none,out,ia,ib,ac,bc) st
inductive qm(st:SortSt)(xs ys:Array Keyed) (n:Nat):Option (Array Keyed)×Array Keyed×Nat×Nat×Nat×Nat->SortSt->Prop
 |dn:∀(r out:Array Keyed) (ia ib ac bc:Nat),r.toList.Perm (xs.toList++ys.toList)->qm st xs ys n (some r,out,ia,ib,ac,bc) st
 |go:∀(out:Array Keyed) (ia ib ac bc:Nat),Pm xs ys out ia ib->ia+1<xs.size->ib<ys.size->n+1<=ia+ib->qm st xs ys n (none,out,ia,ib,ac,bc) st
inductive Hw(st:SortSt)(xs ys:Array Keyed) (n:Nat):Option (Array Keyed)×Array Keyed×Nat×Nat×Nat×Nat×Nat->SortSt->Prop
 |mk:∀(out:Array Keyed) (ia ib mg ac bc:Nat)(st':SortSt),kG st st'->Pm xs ys out ia ib->ia+1<xs.size->ib<ys.size->n<=ia+ib->Hw st xs ys n (none,out,ia,ib,mg,ac,bc) st'
inductive mP(st:SortSt)(xs ys:Array Keyed) (n:Nat):Option (Array Keyed)×Array Keyed×Nat×Nat×Nat×Nat×Nat->SortSt->Prop
 |dn:∀(r out:Array Keyed) (ia ib mg ac bc:Nat)(st':SortSt),kG st st'->r.toList.Perm (xs.toList++ys.toList)->mP st xs ys n (some r,out,ia,ib,mg,ac,bc) st'
 |go:∀(out:Array Keyed) (ia ib mg ac bc:Nat)(st':SortSt),kG st st'->Pm xs ys out ia ib->ia+1<xs.size->ib<ys.size->n<=ia+ib->mP st xs ys n (none,out,ia,ib,mg,ac,bc) st'
section
variable{prog:Program}{w:World}{A:Around}{E:Ro}{s:Shared}{kd:SortKind}{P:Value->Prop}
def dX{M:Model}{U α:Type}{a b:Nat}{m1 m2:StateT U Sem α}{Q:α->U->Prop}{st:U}(h1:a=b->wpS M A E s m1 Q st)(h2:a≠b->wpS M A E s m2 Q st):wpS M A E s (if(a==b)=true then m1 else m2) Q st:=by by_cases e:a=b;{rw[if_pos (beq_iff_eq.mpr e)];exact h1 e};rw[if_neg (λz=>e (beq_iff_eq.mp z))];exact h2 e
def cC{M:Model}{U α:Type}{c:Prop} [Decidable c]{m1 m2:StateT U Sem α}{Q:α->U->Prop}{st:U}(h1:c->wpS M A E s m1 Q st)(h2:¬c->wpS M A E s m2 Q st):wpS M A E s (if c then m1 else m2) Q st:=by by_cases e:c;{rw[if_pos e];exact h1 e};rw[if_neg e];exact h2 e
def b6{α:Type}{st:SortSt}{zs:Array Keyed}{i:Nat}{f:Keyed->StateT SortSt Sem α}{Q:α->SortSt->Prop}(hi:i<zs.size)(h:∀p,zs[i]?=some p->wpS (model prog w) A E s (f p) Q st):wpS (model prog w) A E s (elem' zs i>>=f) Q st:=N2 (jJ hi h)
def wB{α:Type}{st:SortSt}{x y:Keyed}{f:Option Bool->StateT SortSt Sem α}{Q:α->SortSt->Prop}(L:iU prog w A s kd P)(hk:kindOf st=kd)(hx:P x.1)(hy:P y.1)(h:∀b,wpS (model prog w) A E s (f (some b)) Q st):wpS (model prog w) A E s (lt' x y>>=f) Q st:=N2 (ask L hk hx hy h)
def l7{α:Type}{st:SortSt}{left:Bool}{key:Keyed}{xs:Array Keyed}{base n hint:Nat}{f:Option Nat->StateT SortSt Sem α}{Q:α->SortSt->Prop}(L:iU prog w A s kd P)(hk:kindOf st=kd)(hy:P key.1)(G:Good P xs)(hn:base+n<=xs.size)(hh:hint<n)(h:∀k,k<=n->wpS (model prog w) A E s (f (some k)) Q st):wpS (model prog w) A E s (sL left key xs base n hint>>=f) Q st:=N2 (nO L hk hy G hn hh h)
def Lx{st:SortSt}{xs ys:Array Keyed}{Q:Array Keyed->SortSt->Prop}(L:iU prog w A s kd P)(hk:kindOf st=kd)(G1:Good P xs)(G2:Good P ys)(h1:1<=xs.size)(h2:1<=ys.size)(h:∀zs st',kG st st'->zs.toList.Perm (xs.toList++ys.toList)->Q zs st') : wpS (model prog w) A E s (vG xs ys) Q st:=by
 unfold vG;refine N2 (PK (Oe ⟨rfl,?_⟩));dsimp only;refine b6 (by lia) λp hp=>?_;have pm0:Pm xs ys #[p] 0 1:=by have:Pm xs ys #[] 0 0:=List.Perm.refl _;exact this.py hp
 have g0:kG st st:=⟨rfl,rfl,rfl,rfl⟩;refine dX (λe1=>N3 (h _ _ g0 pm0.done)) (λe1=>?_);refine dX (λe2=>N3 (h _ _ g0 pm0.last)) (λe2=>?_);refine N2 (wpS_get ?_);refine N2 (OI (OJ (I:=IJ st xs ys) (Q:=Ax st xs ys) ?step ?fin (.mk _ _ _ _ _ g0 pm0 (by lia) (by lia) (by lia))) ?post)
 case post=>
  rintro _ st'⟨r,out,ia,ib,mg,_,g,pr⟩;dsimp only;exact N3 (h _ _ g pr)
 case fin=>
  rintro _ st'⟨out,ia,ib,mg,_,_,_,a,b,c⟩;lia
 case step=>
  rintro x _ st' _ _⟨out,ia,ib,mg,_,g,pm,a1,b1,c1⟩;dsimp only;have hk':kindOf st'=kd:=g.1.trans hk;refine N2 (OI (OJ (I:=Eo st' xs ys (ia+ib)) (Q:=qm st' xs ys (ia+ib)) ?step1 ?fin1 (.mk _ _ _ _ _ pm a1 b1 (by lia))) ?post1)
  case fin1=>
   rintro _ _⟨out2,ia2,ib2,ac,bc,_,a,b,c⟩;lia
  case step1=>
   rintro y _ _ _ _⟨out2,ia2,ib2,ac,bc,pm2,a2,b2,c2⟩;dsimp only;refine b6 (by lia) λp1 hp1=>?_
   refine b6 (by lia) λp2 hp2=>?_
   refine wB L hk' (G2 _ _ hp1) (G1 _ _ hp2) λb=>?_
   dsimp only;cases b with
   |true=>rw[if_pos rfl];refine b6 (by lia) λp3 hp3=>?_;have pm3:=pm2.py hp3;refine dX (λe3=>N3 (qm.dn _ _ _ _ _ _ pm3.done)) (λe3=>?_);refine cC (λe4=>?_) (λe4=>?_);{exact N3 (qm.go _ _ _ _ _ pm3 a2 (by lia) (by lia))};exact N3 (Eo.mk _ _ _ _ _ pm3 a2 (by lia) (by lia))
   |false=>rw[if_neg O9];refine b6 (by lia) λp3 hp3=>?_;have pm3:=pm2.px hp3;refine dX (λe3=>N3 (qm.dn _ _ _ _ _ _ pm3.last)) (λe3=>?_);refine cC (λe4=>?_) (λe4=>?_);{exact N3 (qm.go _ _ _ _ _ pm3 (by lia) b2 (by lia))};exact N3 (Eo.mk _ _ _ _ _ pm3 (by lia) b2 (by lia))
  case post1=>
   rintro _ _ (⟨r,out2,ia2,ib2,ac,bc,pr⟩|⟨out2,ia2,ib2,ac,bc,pm2,a2,b2,c2⟩)
   .exact N3 (Ax.mk _ _ _ _ _ _ g pr)
   .dsimp only;refine N2 (PK (Oe ⟨rfl,?_⟩));refine N2 (OI (OJ (I:=λ_=>Hw st xs ys (ia2+ib2)) (Q:=mP st xs ys (ia2+ib2)) ?step2 (λc st3 q=>by cases q;exact .go _ _ _ _ _ _ _ ‹_› ‹_› ‹_› ‹_› ‹_›) (.mk _ _ _ _ _ _ _ g pm2 a2 b2 (N5 _))) ?post2)
    case step2=>
     rintro y _ st3 _ _⟨out3,ia3,ib3,mg3,ac3,bc3,_,g3,pm3,a3,b3,c3⟩;dsimp only;have hk3:kindOf st3=kd:=g3.1.trans hk;refine cC (λe5=>?b1) (λe5=>?b2)
     generalize mg3-1=v;clear e5;revert v;refine ?key
     case b2=>exact ?key mg3
     intro v;refine N2 (Ob ?_);refine b6 (by lia) λp1 hp1=>?_
     refine l7 L hk3 (G2 _ _ hp1) G1 (by lia) (by lia) λk hk1=>?_
     dsimp only;refine cC (λk0=>?c1) (λk0=>?c2)
     have pm4:=pm3.x k;refine dX (λe6=>N3 (mP.dn _ _ _ _ _ _ _ _ g3 pm4.last)) (λe6=>?_)
     refine dX (λe7=>N3 (mP.dn _ _ _ _ _ _ _ _ g3 pm4.done)) (λe7=>?_)
     generalize out3++xs.extract ia3 (ia3+k)=o at pm4⊢;have n1:ia3+k+1<xs.size:=by lia
     have n0:ia3<=ia3+k:=by lia
     revert n0 n1 pm4;clear e6 e7 k0;generalize ia3+k=n;clear hk1;generalize k=d;revert o n d;refine ?key2
     case c2=>exact ?key2 out3 ia3 k pm3 a3 (N5 _)
     intro o n d pm4 n1 n0;refine b6 (by lia) λp2 hp2=>?_
     have pm5:=pm4.py hp2;refine dX (λe8=>N3 (mP.dn _ _ _ _ _ _ _ _ g3 pm5.done)) (λe8=>?_)
     refine b6 (by lia) λp3 hp3=>?_
     refine l7 L hk3 (G1 _ _ hp3) G2 (by lia) (by lia) λk2 hk2=>?_
     dsimp only;refine cC (λk20=>?d1) (λk20=>?d2)
     have pm6:=pm5.y k2;refine dX (λe9=>N3 (mP.dn _ _ _ _ _ _ _ _ g3 pm6.done)) (λe9=>?_)
     generalize o.push _++ys.extract (ib3+1) (ib3+1+k2)=o2 at pm6⊢;have m1:ib3+1+k2<ys.size:=by lia
     have m0:ib3+1<=ib3+1+k2:=by lia
     revert m0 m1 pm6;clear e9 k20;generalize ib3+1+k2=m;clear hk2;generalize k2=d2;revert o2 m d2;refine ?key3
     case d2=>exact ?key3 _ _ _ pm5 (by lia) (N5 _)
     intro o2 m d2 pm6 m1 m0;refine b6 (by lia) λp4 hp4=>?_
     have pm7:=pm6.px hp4;refine dX (λe10=>N3 (mP.dn _ _ _ _ _ _ _ _ g3 pm7.last)) (λe10=>?_)
     refine cC (λ_=>?_) (λ_=>?_)
     .exact N3 (mP.go _ _ _ _ _ _ _ g3 pm7 (by lia) (by lia) (by lia))
     .exact N3 (Hw.mk _ _ _ _ _ _ _ g3 pm7 (by lia) (by lia) (by lia))
    case post2=>
     rintro _ st3 (⟨r,out3,ia3,ib3,mg3,ac3,bc3,_,g3,pr⟩|⟨out3,ia3,ib3,mg3,ac3,bc3,_,g3,pm3,a3,b3,c3⟩)
     .exact N3 (Ax.mk _ _ _ _ _ _ g3 pr)
     .dsimp only;refine N2 (Ob ?_);exact N3 (IJ.mk _ _ _ _ _ g3 pm3 a3 b3 (by lia))
end
noncomputable def Pr (xs ys out:Array Keyed) (na nb:Nat):Prop:=out.toList.Perm (xs.toList.drop na++ys.toList.drop nb)
section
variable{xs ys out:Array Keyed}{na nb k:Nat}
def iT(zs:Array Keyed){i n:Nat}(h:i<=n):zs.toList.drop i=(zs.extract i n).toList++zs.toList.drop n:=by obtain⟨d,rfl⟩:=Nat.exists_eq_add_of_le h;rw[RO,RP,RQ,<-List.drop_drop];exact(Qa d _).symm
def Pr.x(h:Pr xs ys out na nb)(hk:k<=na):Pr xs ys (out++(xs.extract k na).reverse) k nb:=by unfold Pr at *;rw[OT,iT xs hk,RS,OS];refine(h.append_right _).trans ?_;refine Pg.trans ?_;exact QJ _ (RT _)
def Pr.y(h:Pr xs ys out na nb)(hk:k<=nb):Pr xs ys (out++(ys.extract k nb).reverse) na k:=by unfold Pr at *;rw[OT,iT ys hk,RS];refine(h.append_right _).trans ?_;rw[OS];refine Pf _ ?_;refine Pg.trans ?_;exact QJ _ (RT _)
def uT{zs out:Array Keyed}{i:Nat}(h1:1<=i)(hp:zs[i-1]?=some p):out.push p=out++(zs.extract (i-1) i).reverse:=by
 have e:=qb (out:=#[]) hp;rw[show i-1+1=i by lia]at e;have e2:zs.extract (i-1) i=#[p]:=by rw[Array.empty_append]at e;exact e.symm
 rw[e2];rfl
def Pr.px{p:Keyed}(h:Pr xs ys out na nb)(h1:1<=na)(hp:xs[na-1]?=some p):Pr xs ys (out.push p) (na-1) nb:=by rw[uT h1 hp];exact h.x (by lia)
def Pr.py{p:Keyed}(h:Pr xs ys out na nb)(h1:1<=nb)(hp:ys[nb-1]?=some p):Pr xs ys (out.push p) na (nb-1):=by rw[uT h1 hp];exact h.y (by lia)
def Pr.done(h:Pr xs ys out na nb):(xs.extract 0 na++ys.extract 0 nb++out.reverse).toList.Perm (xs.toList++ys.toList):=by
 unfold Pr at h;have e1:=iT xs (ON na);have e2:=iT ys (ON nb);rw[Qc]at e1 e2;rw[OT,OT,RS]
 conv=>rhs;rw[e1,e2]
 rw[OS,OS];refine Pf _ ?_;refine(Pf _ ((RT _).trans h)).trans ?_;rw[<-OS,<-OS];exact QJ _ Pg
def Pr.first(h:Pr xs ys out na nb):(ys.extract 0 nb++xs.extract 0 na++out.reverse).toList.Perm (xs.toList++ys.toList):=by refine List.Perm.trans ?_ h.done;rw[OT,OT,OT,OT];exact QJ _ Pg
end
inductive Jp(st:SortSt)(xs ys:Array Keyed) (x:Nat):Option (Array Keyed)×Nat×Nat×Array Keyed×Nat->SortSt->Prop
 |mk:∀(na nb:Nat)(out:Array Keyed) (mg:Nat)(st':SortSt),kG st st'->Pr xs ys out na nb->1<=na->2<=nb->na<=xs.size->nb<=ys.size->na+nb+x+1<=xs.size+ys.size->Jp st xs ys x (none,na,nb,out,mg) st'
inductive zk(st:SortSt)(xs ys:Array Keyed):Option (Array Keyed)×Nat×Nat×Array Keyed×Nat->SortSt->Prop
 |mk:∀(r:Array Keyed) (na nb:Nat)(out:Array Keyed) (mg:Nat)(st':SortSt),kG st st'->r.toList.Perm (xs.toList++ys.toList)->zk st xs ys (some r,na,nb,out,mg) st'
inductive Fz(st:SortSt)(xs ys:Array Keyed) (n y:Nat):Option (Array Keyed)×Nat×Nat×Array Keyed×Nat×Nat->SortSt->Prop
 |mk:∀(na nb:Nat)(out:Array Keyed) (ac bc:Nat),Pr xs ys out na nb->1<=na->2<=nb->na<=xs.size->nb<=ys.size->na+nb+y<=n->Fz st xs ys n y (none,na,nb,out,ac,bc) st
inductive ql(st:SortSt)(xs ys:Array Keyed) (n:Nat):Option (Array Keyed)×Nat×Nat×Array Keyed×Nat×Nat->SortSt->Prop
 |dn:∀(r:Array Keyed) (na nb:Nat)(out:Array Keyed) (ac bc:Nat),r.toList.Perm (xs.toList++ys.toList)->ql st xs ys n (some r,na,nb,out,ac,bc) st
 |go:∀(na nb:Nat)(out:Array Keyed) (ac bc:Nat),Pr xs ys out na nb->1<=na->2<=nb->na<=xs.size->nb<=ys.size->na+nb+1<=n->ql st xs ys n (none,na,nb,out,ac,bc) st
inductive Kh(st:SortSt)(xs ys:Array Keyed) (n:Nat):Option (Array Keyed)×Nat×Nat×Array Keyed×Nat×Nat×Nat->SortSt->Prop
 |mk:∀(na nb:Nat)(out:Array Keyed) (mg ac bc:Nat)(st':SortSt),kG st st'->Pr xs ys out na nb->1<=na->2<=nb->na<=xs.size->nb<=ys.size->na+nb<=n->Kh st xs ys n (none,na,nb,out,mg,ac,bc) st'
inductive mq(st:SortSt)(xs ys:Array Keyed) (n:Nat):Option (Array Keyed)×Nat×Nat×Array Keyed×Nat×Nat×Nat->SortSt->Prop
 |dn:∀(r:Array Keyed) (na nb:Nat)(out:Array Keyed) (mg ac bc:Nat)(st':SortSt),kG st st'->r.toList.Perm (xs.toList++ys.toList)->mq st xs ys n (some r,na,nb,out,mg,ac,bc) st'
 |go:∀(na nb:Nat)(out:Array Keyed) (mg ac bc:Nat)(st':SortSt),kG st st'->Pr xs ys out na nb->1<=na->2<=nb->na<=xs.size->nb<=ys.size->na+nb<=n->mq st xs ys n (none,na,nb,out,mg,ac,bc) st'
section
variable{prog:Program}{w:World}{A:Around}{E:Ro}{s:Shared}{kd:SortKind}{P:Value->Prop}
def K6{st:SortSt}(L:iU prog w A s kd P)(hk:kindOf st=kd)(G1:Good P xs)(G2:Good P ys)(h1:1<=xs.size)(h2:1<=ys.size)(h:∀zs st',kG st st'->zs.toList.Perm (xs.toList++ys.toList)->Q zs st') : wpS (model prog w) A E s (uO xs ys) Q st:=by
 unfold uO;refine N2 (PK (Oe ⟨rfl,?_⟩));dsimp only;refine b6 (by lia) λp hp=>?_;have pm0:Pr xs ys #[p] (xs.size-1) ys.size:=by
  have z:Pr xs ys #[] xs.size ys.size:=by unfold Pr;rw[Qg (by simp),Qg (by simp)];exact List.Perm.refl _
  exact z.px h1 hp
 have g0:kG st st:=⟨rfl,rfl,rfl,rfl⟩;refine dX (λe1=>N3 (h _ _ g0 pm0.done)) (λe1=>?_);refine dX (λe2=>N3 (h _ _ g0 pm0.first)) (λe2=>?_);refine N2 (wpS_get ?_);refine N2 (OI (OJ (I:=Jp st xs ys) (Q:=zk st xs ys) ?step ?fin (.mk _ _ _ _ _ g0 pm0 (by lia) (by lia) (by lia) (by lia) (by lia))) ?post)
 case post=>
  rintro _ st'⟨r,na,nb,out,mg,_,g,pr⟩;dsimp only;exact N3 (h _ _ g pr)
 case fin=>
  rintro _ st'⟨na,nb,out,mg,_,_,_,a,b,c,d,e⟩;lia
 case step=>
  rintro x _ st' _ _⟨na,nb,out,mg,_,g,pm,a1,b1,c1,d1,f1⟩;dsimp only;have hk':kindOf st'=kd:=g.1.trans hk;refine N2 (OI (OJ (I:=Fz st' xs ys (na+nb)) (Q:=ql st' xs ys (na+nb)) ?step1 ?fin1 (.mk _ _ _ _ _ pm a1 b1 c1 d1 (by lia))) ?post1)
  case fin1=>
   rintro _ _⟨na2,mV,out2,ac,bc,_,a,b,c,d,e⟩;lia
  case step1=>
   rintro y _ _ _ _⟨na2,mV,out2,ac,bc,pm2,a2,b2,c2,d2,f2⟩;dsimp only;refine b6 (by lia) λp1 hp1=>?_
   refine b6 (by lia) λp2 hp2=>?_
   refine wB L hk' (G2 _ _ hp1) (G1 _ _ hp2) λb=>?_
   dsimp only;cases b with
   |true=>rw[if_pos rfl];refine b6 (by lia) λp3 hp3=>?_;have pm3:=pm2.px (by lia) hp3;refine dX (λe3=>N3 (ql.dn _ _ _ _ _ _ pm3.done)) (λe3=>?_);refine cC (λe4=>?_) (λe4=>?_);{exact N3 (ql.go _ _ _ _ _ pm3 (by lia) (by lia) (by lia) (by lia) (by lia))};exact N3 (Fz.mk _ _ _ _ _ pm3 (by lia) (by lia) (by lia) (by lia) (by lia))
   |false=>rw[if_neg O9];refine b6 (by lia) λp3 hp3=>?_;have pm3:=pm2.py (by lia) hp3;refine dX (λe3=>N3 (ql.dn _ _ _ _ _ _ pm3.first)) (λe3=>?_);refine cC (λe4=>?_) (λe4=>?_);{exact N3 (ql.go _ _ _ _ _ pm3 (by lia) (by lia) (by lia) (by lia) (by lia))};exact N3 (Fz.mk _ _ _ _ _ pm3 (by lia) (by lia) (by lia) (by lia) (by lia))
  case post1=>
   rintro _ _ (⟨r,na2,mV,out2,ac,bc,pr⟩|⟨na2,mV,out2,ac,bc,pm2,a2,b2,c2,d2,f2⟩)
   .exact N3 (zk.mk _ _ _ _ _ _ g pr)
   .dsimp only;refine N2 (PK (Oe ⟨rfl,?_⟩));refine N2 (OI (OJ (I:=λ_=>Kh st xs ys (na2+mV)) (Q:=mq st xs ys (na2+mV)) ?step2 (λc st3 q=>by cases q;exact .go _ _ _ _ _ _ _ ‹_› ‹_› ‹_› ‹_› ‹_› ‹_› ‹_›) (.mk _ _ _ _ _ _ _ g pm2 a2 b2 c2 d2 (N5 _))) ?post2)
    case step2=>
     rintro y _ st3 _ _⟨na3,nb3,out3,mg3,ac3,bc3,_,g3,pm3,a3,b3,c3,d3,f3⟩;dsimp only;have hk3:kindOf st3=kd:=g3.1.trans hk;refine cC (λe5=>?b1) (λe5=>?b2)
     generalize mg3-1=v;clear e5;revert v;refine ?key
     case b2=>exact ?key mg3
     intro v;refine N2 (Ob ?_);refine b6 (by lia) λp1 hp1=>?_
     refine l7 L hk3 (G2 _ _ hp1) G1 (by lia) (by lia) λk hk1=>?_
     dsimp only;refine cC (λk0=>?c1) (λk0=>?c2)
     have pm4:=pm3.x hk1;refine dX (λe7=>N3 (mq.dn _ _ _ _ _ _ _ _ g3 pm4.done)) (λe7=>?_)
     generalize out3++(xs.extract k na3).reverse=o at pm4⊢;generalize na3-k=d;have n1:1<=k:=by lia
     revert n1 pm4;clear e7 k0;revert hk1;generalize k=n;revert d o n;refine ?key2
     case c2=>exact ?key2 out3 (na3-k) na3 (N5 _) pm3 (by lia)
     intro o d n hk1 pm4 n1;refine b6 (by lia) λp2 hp2=>?_
     have pm5:=pm4.py (by lia) hp2
     refine dX (λe8=>N3 (mq.dn _ _ _ _ _ _ _ _ g3 pm5.first)) (λe8=>?_)
     refine b6 (by lia) λp3 hp3=>?_
     refine l7 L hk3 (G1 _ _ hp3) G2 (by lia) (by lia) λk2 hk2=>?_
     dsimp only;refine cC (λk20=>?d1) (λk20=>?d2)
     have pm6:=pm5.y hk2;refine dX (λe9=>N3 (mq.dn _ _ _ _ _ _ _ _ g3 pm6.first)) (λe9=>?_)
     refine dX (λe9'=>N3 (mq.dn _ _ _ _ _ _ _ _ g3 pm6.done)) (λe9'=>?_)
     have n2:2<=k2:=by lia
     revert n2 pm6;generalize o.push _++(ys.extract k2 (nb3-1)).reverse=o2;generalize nb3-1-k2=d2;clear e9 e9' k20;revert hk2;generalize k2=m;revert d2 o2 m;refine ?key3
     case d2=>exact ?key3 _ _ _ (N5 _) pm5 (by lia)
     intro o2 d2 m hm pm6 n2;refine b6 (by lia) λp4 hp4=>?_
     have pm7:=pm6.px (by lia) hp4
     refine dX (λe10=>N3 (mq.dn _ _ _ _ _ _ _ _ g3 pm7.done)) (λe10=>?_)
     refine cC (λ_=>?_) (λ_=>?_)
     .exact N3 (mq.go _ _ _ _ _ _ _ g3 pm7 (by lia) (by lia) (by lia) (by lia) (by lia))
     .exact N3 (Kh.mk _ _ _ _ _ _ _ g3 pm7 (by lia) (by lia) (by lia) (by lia) (by lia))
    case post2=>
     rintro _ st3 (⟨r,na3,nb3,out3,mg3,ac3,bc3,_,g3,pr⟩|⟨na3,nb3,out3,mg3,ac3,bc3,_,g3,pm3,a3,b3,c3,d3,f3⟩)
     .exact N3 (zk.mk _ _ _ _ _ _ g3 pr)
     .dsimp only;refine N2 (Ob ?_);exact N3 (Jp.mk _ _ _ _ _ g3 pm3 a3 b3 c3 d3 (by lia))
end
structure SB(kd:SortKind)(xs0:Array Keyed)(st:SortSt):Prop where
 perm:(arrOf st).Perm xs0
 kind:kindOf st=kd
 ok:failedOf st=none
theorem SB.size{kd:SortKind}{st:SortSt}(B:SB kd xs0 st):(arrOf st).size=xs0.size:=B.perm.size_eq
def Good.perm(G:Good P ys)(p:xs.Perm ys):Good P xs:=λi q h=>by have m:q∈xs.toList:=OD (by rw[QK];exact h);have m2:q∈ys.toList:=(RU.mp p).mem_iff.mp m;obtain⟨j,hj⟩:=Py m2;rw[QK]at hj;exact G j q hj
section
variable{prog:Program}{w:World}{A:Around}{E:Ro}{s:Shared}{kd:SortKind}{P:Value->Prop}{xs0:Array Keyed}
def fF{st:SortSt}{i j:Nat}(L:iU prog w A s kd P)(G:Good P xs0)(B:SB kd xs0 st)(hi:i<xs0.size)(hj:j<xs0.size)(h:∀b,Q (some b) st):wpS (model prog w) A E s (ltAt' i j) Q st:=by rw[ltAt'_eq];refine N2 (wpS_get ?_);have G':=G.perm B.perm;refine N2 (jJ (by rw[B.size];exact hi) λp hp=>?_);refine N2 (jJ (by rw[B.size];exact hj) λq hq=>?_);exact ask L B.kind (G' _ _ hp) (G' _ _ hq) h
def ig{st:SortSt}{i j:Nat}(B:SB kd xs0 st)(h:∀st',SB kd xs0 st'->pendingOf st'=pendingOf st->Q () st'):wpS (model prog w) A E s (reverseSlice' i j) Q st:=by rw[reverseSlice'_eq];exact Ob (h _ ⟨(mirror_perm _ _ _ _).trans B.perm,B.kind,B.ok⟩ rfl)
def DK{st:SortSt}{lo nrem:Nat}(L:iU prog w A s kd P)(G:Good P xs0)(B:SB kd xs0 st)(h1:1<=nrem)(hn:lo+nrem<=xs0.size)(h:∀m st',SB kd xs0 st'->pendingOf st'=pendingOf st->1<=m->m<=nrem->Q (some m) st') : wpS (model prog w) A E s (countRun' lo nrem) Q st:=by
 unfold countRun';refine N2 (OI (OJ (I:=λx c st'=>st'=st/\c.1=none/\c.2=x) (Q:=λc st'=>st'=st/\c.1=none/\1<=c.2/\c.2<=nrem) ?step ?fin ⟨rfl,rfl,rfl⟩) ?post)
 case step=>
  rintro x⟨o,n⟩st' a b⟨rfl,rfl,rfl⟩;dsimp only;refine N2 (fF L G B (by dsimp only at a b;lia) (by dsimp only at a b;lia) λc=>?_)
  dsimp only;refine cC (λ_=>N3 ⟨rfl,rfl,by dsimp only at a b⊢;lia,by dsimp only at a b⊢;lia⟩) (λ_=>N3 ⟨rfl,rfl,rfl⟩)
 case fin=>
  rintro⟨o,n⟩st'⟨rfl,rfl,e⟩;dsimp only at e;exact⟨rfl,rfl,by dsimp only;lia,by dsimp only;lia⟩
 case post=>
  rintro⟨o,n⟩st'⟨rfl,rfl,n1,n2⟩;dsimp only at n1 n2⊢;refine dX (λe=>N3 (h _ _ B rfl n1 n2)) (λe=>?_)
  refine cC (λn0=>?_) (λn0=>?_)
  .refine N2 (fF L G B (by lia) (by lia) λc=>?_)
   dsimp only;refine cC (λ_=>N3 (h _ _ B rfl n1 n2)) (λ_=>?_)
   refine N2 (ig B λst6 B6 p6=>?_)
   refine N2 (PK (Oe ⟨rfl,?_⟩));refine N2 (OI (OJ (I:=λx c st2=>SB kd xs0 st2/\pendingOf st2=pendingOf st'/\c.1=none/\c.2.1=x) (Q:=λc st2=>SB kd xs0 st2/\pendingOf st2=pendingOf st'/\c.1=none/\1<=c.2.1/\c.2.1<=nrem) ?step1 ?fin1 ⟨B6,p6,rfl,rfl⟩) ?post1)
   case step1=>
    rintro x⟨o,m,q⟩st2 a b⟨B2,p2,rfl,rfl⟩;dsimp only at a b⊢;refine N2 (fF L G B2 (by lia) (by lia) λc=>?_)
    dsimp only;refine cC (λ_=>?_) (λ_=>?_)
    .refine cC (λ_=>?_) (λ_=>?_)
     .exact N2 (ig B2 λst3 B3 p3=>N3 ⟨B3,p3.trans p2,rfl,rfl⟩)
     .exact N3 ⟨B2,p2,rfl,rfl⟩
    .refine N2 (fF L G B2 (by lia) (by lia) λc2=>?_)
     dsimp only;refine cC (λ_=>?_) (λ_=>?_)
     .exact N3 ⟨B2,p2,rfl,by dsimp only;lia,by dsimp only;lia⟩
     .exact N3 ⟨B2,p2,rfl,rfl⟩
   case fin1=>
    rintro⟨o,m,q⟩st2⟨B2,p2,rfl,e2⟩;dsimp only at e2;exact⟨B2,p2,rfl,by dsimp only;lia,by dsimp only;lia⟩
   case post1=>
    rintro⟨o,m,q⟩st2⟨B2,p2,rfl,m1,m2⟩;dsimp only at m1 m2⊢;refine cC (λ_=>?_) (λ_=>?_)
    .refine N2 (ig B2 λst3 B3 p3=>?_)
     refine N2 (ig B3 λst4 B4 p4=>?_)
     refine N2 (OI (OJ (I:=λx c st5=>st5=st4/\c.1=none/\c.2=x) (Q:=λc st5=>st5=st4/\c.1=none/\1<=c.2/\c.2<=nrem) ?stepL2 ?finL2 ⟨rfl,rfl,rfl⟩) ?postL2)
     case stepL2=>
      rintro x⟨o,m⟩st5 a b⟨rfl,rfl,rfl⟩;dsimp only at a b⊢;refine N2 (fF L G B4 (by lia) (by lia) λc=>?_)
      dsimp only;refine cC (λ_=>N3 ⟨rfl,rfl,by dsimp only;lia,by dsimp only;lia⟩) (λ_=>N3 ⟨rfl,rfl,rfl⟩)
     case finL2=>
      rintro⟨o,m⟩st5⟨rfl,rfl,e2⟩;dsimp only at e2;exact⟨rfl,rfl,by dsimp only;lia,by dsimp only;lia⟩
     case postL2=>
      rintro⟨o,m⟩st5⟨rfl,rfl,k1,k2⟩;dsimp only at k1 k2⊢;exact N3 (h _ _ B4 (p4.trans (p3.trans p2)) k1 k2)
    .refine N2 (ig B2 λst4 B4 p4=>?_)
     refine N2 (OI (OJ (I:=λx c st5=>st5=st4/\c.1=none/\c.2=x) (Q:=λc st5=>st5=st4/\c.1=none/\1<=c.2/\c.2<=nrem) ?stepL3 ?finL3 ⟨rfl,rfl,rfl⟩) ?postL3)
     case stepL3=>
      rintro x⟨o,m⟩st5 a b⟨rfl,rfl,rfl⟩;dsimp only at a b⊢;refine N2 (fF L G B4 (by lia) (by lia) λc=>?_)
      dsimp only;refine cC (λ_=>N3 ⟨rfl,rfl,by dsimp only;lia,by dsimp only;lia⟩) (λ_=>N3 ⟨rfl,rfl,rfl⟩)
     case finL3=>
      rintro⟨o,m⟩st5⟨rfl,rfl,e2⟩;dsimp only at e2;exact⟨rfl,rfl,by dsimp only;lia,by dsimp only;lia⟩
     case postL3=>
      rintro⟨o,m⟩st5⟨rfl,rfl,k1,k2⟩;dsimp only at k1 k2⊢;exact N3 (h _ _ B4 (p4.trans p2) k1 k2)
  .have p6:pendingOf st'=pendingOf st':=rfl;refine N2 (PK (Oe ⟨rfl,?_⟩));refine N2 (OI (OJ (I:=λx c st2=>SB kd xs0 st2/\pendingOf st2=pendingOf st'/\c.1=none/\c.2.1=x) (Q:=λc st2=>SB kd xs0 st2/\pendingOf st2=pendingOf st'/\c.1=none/\1<=c.2.1/\c.2.1<=nrem) ?step4 ?fin4 ⟨B,p6,rfl,rfl⟩) ?post4)
   case step4=>
    rintro x⟨o,m,q⟩st2 a b⟨B2,p2,rfl,rfl⟩;dsimp only at a b⊢;refine N2 (fF L G B2 (by lia) (by lia) λc=>?_)
    dsimp only;refine cC (λ_=>?_) (λ_=>?_)
    .refine cC (λ_=>?_) (λ_=>?_)
     .exact N2 (ig B2 λst3 B3 p3=>N3 ⟨B3,p3.trans p2,rfl,rfl⟩)
     .exact N3 ⟨B2,p2,rfl,rfl⟩
    .refine N2 (fF L G B2 (by lia) (by lia) λc2=>?_)
     dsimp only;refine cC (λ_=>?_) (λ_=>?_)
     .exact N3 ⟨B2,p2,rfl,by dsimp only;lia,by dsimp only;lia⟩
     .exact N3 ⟨B2,p2,rfl,rfl⟩
   case fin4=>
    rintro⟨o,m,q⟩st2⟨B2,p2,rfl,e2⟩;dsimp only at e2;exact⟨B2,p2,rfl,by dsimp only;lia,by dsimp only;lia⟩
   case post4=>
    rintro⟨o,m,q⟩st2⟨B2,p2,rfl,m1,m2⟩;dsimp only at m1 m2⊢;refine cC (λ_=>?_) (λ_=>?_)
    .refine N2 (ig B2 λst3 B3 p3=>?_)
     refine N2 (ig B3 λst4 B4 p4=>?_)
     refine N2 (OI (OJ (I:=λx c st5=>st5=st4/\c.1=none/\c.2=x) (Q:=λc st5=>st5=st4/\c.1=none/\1<=c.2/\c.2<=nrem) ?stepL5 ?finL5 ⟨rfl,rfl,rfl⟩) ?postL5)
     case stepL5=>
      rintro x⟨o,m⟩st5 a b⟨rfl,rfl,rfl⟩;dsimp only at a b⊢;refine N2 (fF L G B4 (by lia) (by lia) λc=>?_)
      dsimp only;refine cC (λ_=>N3 ⟨rfl,rfl,by dsimp only;lia,by dsimp only;lia⟩) (λ_=>N3 ⟨rfl,rfl,rfl⟩)
     case finL5=>
      rintro⟨o,m⟩st5⟨rfl,rfl,e2⟩;dsimp only at e2;exact⟨rfl,rfl,by dsimp only;lia,by dsimp only;lia⟩
     case postL5=>
      rintro⟨o,m⟩st5⟨rfl,rfl,k1,k2⟩;dsimp only at k1 k2⊢;exact N3 (h _ _ B4 (p4.trans (p3.trans p2)) k1 k2)
    .refine N2 (ig B2 λst4 B4 p4=>?_)
     refine N2 (OI (OJ (I:=λx c st5=>st5=st4/\c.1=none/\c.2=x) (Q:=λc st5=>st5=st4/\c.1=none/\1<=c.2/\c.2<=nrem) ?stepL6 ?finL6 ⟨rfl,rfl,rfl⟩) ?postL6)
     case stepL6=>
      rintro x⟨o,m⟩st5 a b⟨rfl,rfl,rfl⟩;dsimp only at a b⊢;refine N2 (fF L G B4 (by lia) (by lia) λc=>?_)
      dsimp only;refine cC (λ_=>N3 ⟨rfl,rfl,by dsimp only;lia,by dsimp only;lia⟩) (λ_=>N3 ⟨rfl,rfl,rfl⟩)
     case finL6=>
      rintro⟨o,m⟩st5⟨rfl,rfl,e2⟩;dsimp only at e2;exact⟨rfl,rfl,by dsimp only;lia,by dsimp only;lia⟩
     case postL6=>
      rintro⟨o,m⟩st5⟨rfl,rfl,k1,k2⟩;dsimp only at k1 k2⊢;exact N3 (h _ _ B4 (p4.trans p2) k1 k2)
def J8{st:SortSt}{lo n k:Nat}(L:iU prog w A s kd P)(G:Good P xs0)(B:SB kd xs0 st)(hn:lo+n<=xs0.size)(h:∀st',SB kd xs0 st'->pendingOf st'=pendingOf st->Q true st') : wpS (model prog w) A E s (binarySort' lo n k) Q st:=by
 unfold binarySort';refine N2 (OI (OJ (I:=λx c st'=>SB kd xs0 st'/\pendingOf st'=pendingOf st/\c.1=none) (Q:=λc st'=>SB kd xs0 st'/\pendingOf st'=pendingOf st/\c.1=none) ?step (λ_ _ q=>q) ⟨B,rfl,rfl⟩) ?post)
 case post=>
  rintro⟨o,u⟩st'⟨B1,p1,rfl⟩;exact N3 (h _ B1 p1)
 case step=>
  rintro x⟨o,u⟩st' a b⟨B1,p1,rfl⟩;dsimp only;refine N2 (OI (OJ (I:=λy c st2=>st2=st'/\c.1=none/\c.2.2<=x) (Q:=λc st2=>st2=st'/\c.1=none/\c.2.2<=x) ?step1 (λ_ _ q=>q) ⟨rfl,rfl,N5 _⟩) ?post1)
  case step1=>
   rintro y⟨o,l,r⟩st2 _ _⟨rfl,rfl,le⟩;dsimp only at le⊢;refine cC (λ_=>N3 ⟨rfl,rfl,le⟩) (λlr=>?_)
   refine N2 (fF L G B1 (by lia) (by lia) λc=>?_)
   dsimp only;refine cC (λ_=>N3 ⟨rfl,rfl,by dsimp only;lia⟩) (λ_=>N3 ⟨rfl,rfl,le⟩)
  case post1=>
   rintro⟨o,l,r⟩st2⟨rfl,rfl,le⟩;dsimp only;refine N2 (Ob ?_);exact N3 ⟨⟨(bubble_perm _ _ _).trans B1.perm,B1.kind,B1.ok⟩,p1,rfl⟩
end
theorem vq(sa:Nat):∀(l:List Keyed) (i:Nat)(a:Array Keyed),sa+i+l.length<=a.size->((l.zipIdx i).foldl (λa (x:Keyed×Nat)=>a.setIfInBounds (sa+x.2) x.1) a).toList=a.toList.take (sa+i)++(l++a.toList.drop (sa+i+l.length))
 |[],i,a,h=>by simp
 |p::r,i,a,h=>by
  have hl:(p::r).length=r.length+1:=rfl;rw[hl]at h;rw[RV,List.foldl_cons,vq sa r (i+1) _ (by rw[Array.size_setIfInBounds];lia)];rw[Array.toList_setIfInBounds];have lt:sa+i<a.toList.length:=by simp;lia
  have e1:(a.toList.set (sa+i) p).take (sa+(i+1))=a.toList.take (sa+i)++[p]:=by rw[show sa+(i+1)=sa+i+1 by lia,Qh,List.take_set_of_le (N5 _),QB lt];rfl
  have e2:(a.toList.set (sa+i) p).drop (sa+(i+1)+r.length)=a.toList.drop (sa+i+(p::r).length):=by rw[List.drop_set_of_lt (by lia),hl];congr 1;lia
  rw[e1,e2];simp
def seg(a:Array Keyed){i j k:Nat}(h1:i<=j)(h2:j<=k):a.toList=a.toList.take i++((a.extract i j).toList++((a.extract j k).toList++a.toList.drop k)):=by have e1:=iT a h1;have e2:=iT a h2;rw[<-e2,<-e1,Qa]
section
variable{prog:Program}{w:World}{A:Around}{E:Ro}{s:Shared}{kd:SortKind}{P:Value->Prop}{xs0:Array Keyed}
theorem Good.extract(G:Good P xs) (i j:Nat):Good P (xs.extract i j):=λk p h=>by rw[Array.getElem?_extract]at h;split at h;{exact G _ _ h};cases h
def D3{st:SortSt}{i sa na pw sb nb pb:Nat}(L:iU prog w A s kd P)(G:Good P xs0)(B:SB kd xs0 st)(e1:(pendingOf st)[i]?=some (sa,na,pw))(e2:(pendingOf st)[i+1]?=some (sb,nb,pb))(c:sb=sa+na)(n1:1<=na)(n2:1<=nb)(le:sb+nb<=xs0.size)(h:∀st',SB kd xs0 st'->pendingOf st'=((pendingOf st).setIfInBounds i (sa,na+nb,pw)).eraseIdxIfInBounds (i+1)->Q true st'):wpS (model prog w) A E s (mergeAt' i) Q st:=by
 have G':=G.perm B.perm;have sz:=B.size;unfold mergeAt';refine N2 (wpS_get ?_);dsimp only;rw[e1,e2];dsimp only;refine N2 (?_:wpS _ _ _ _ (set _) _ _);unfold wpS;rw[StateT.run_set];refine N4 ⟨rfl,?_⟩;refine N2 (jJ (by rw[sz];lia) λp hp=>?_);have B1:SB kd xs0 (SortSt.mk' (kindOf st) (arrOf st) (((pendingOf st).setIfInBounds i (sa,na+nb,pw)).eraseIdxIfInBounds (i+1)) (gallopOf st) (failedOf st)):=⟨B.perm,B.kind,B.ok⟩;refine N2 (nO L B.kind (G' _ _ hp) G' (show sa+na<=(arrOf st).size by lia) (by lia) λk hk=>?_);dsimp only;refine dX (λ_=>N3 (h _ B1 rfl)) (λe3=>?_);refine N2 (jJ (show sa+k+(na-k)-1<(arrOf st).size by lia) λp2 hp2=>?_);refine N2 (nO L B.kind (G' _ _ hp2) G' (show sb+nb<=(arrOf st).size by lia) (by lia) λk2 hk2=>?_);dsimp only;refine dX (λ_=>N3 (h _ B1 rfl)) (λe4=>?_);have x1:((arrOf st).extract (sa+k) sb).size=sb-(sa+k):=by rw[Array.size_extract];lia
 have x2:((arrOf st).extract sb (sb+k2)).size=k2:=by rw[Array.size_extract];lia
 have fin:∀zs:Array Keyed,zs.toList.Perm (((arrOf st).extract (sa+k) sb).toList++((arrOf st).extract sb (sb+k2)).toList)->(zs.toList.zipIdx.foldl (λa (x:Keyed×Nat)=>a.setIfInBounds (sa+k+x.2) x.1) (arrOf st)).Perm xs0:=λzs pm=>by
  have zl:zs.toList.length=sb+k2-(sa+k):=by rw[pm.length_eq,NU,PY,PY,x1,x2];lia
  refine Array.Perm.trans (RU.mpr ?_) B.perm;rw[vq (sa+k) zs.toList 0 (arrOf st) (by lia)];have e:=seg (arrOf st) (show sa+k<=sb by lia) (show sb<=sb+k2 by lia);rw[Nat.add_zero,show sa+k+zs.toList.length=sb+k2 by lia]
  conv=>rhs;rw[e]
  refine Pf _ ?_;rw[<-OS];exact pm.append_right _
 refine cC (λ_=>?_) (λ_=>?_)
 .refine N2 (Lx L B.kind (G'.extract _ _) (G'.extract _ _) (show 1<=((arrOf st).extract (sa+k) sb).size by lia) (show 1<=((arrOf st).extract sb (sb+k2)).size by lia) λzs st2 g pm=>?_);obtain⟨g1,g2,g3,g4⟩:=g;refine N2 (Ob ?_);refine N2 (wpS_get ?_);refine N3 ?_;have e:(failedOf st2).isNone=true:=by rw[g4];show(failedOf st).isNone=true;rw[B.ok];rfl
  show Q (failedOf st2).isNone _;rw[e];refine h _ ⟨?_,g1.trans B.kind,g4.trans B.ok⟩ g3;show(zs.toList.zipIdx.foldl (λa (x:Keyed×Nat)=>a.setIfInBounds (sa+k+x.2) x.1) (arrOf st2)).Perm xs0;rw[g2];exact fin zs pm
 refine N2 (K6 L B.kind (G'.extract _ _) (G'.extract _ _) (show 1<=((arrOf st).extract (sa+k) sb).size by lia) (show 1<=((arrOf st).extract sb (sb+k2)).size by lia) λzs st2 g pm=>?_);obtain⟨g1,g2,g3,g4⟩:=g;refine N2 (Ob ?_);refine N2 (wpS_get ?_);refine N3 ?_;have e:(failedOf st2).isNone=true:=by rw[g4];show(failedOf st).isNone=true;rw[B.ok];rfl
 show Q (failedOf st2).isNone _;rw[e];refine h _ ⟨?_,g1.trans B.kind,g4.trans B.ok⟩ g3;show(zs.toList.zipIdx.foldl (λa (x:Keyed×Nat)=>a.setIfInBounds (sa+k+x.2) x.1) (arrOf st2)).Perm xs0;rw[g2];exact fin zs pm
end
noncomputable def Cont:Nat->List (Nat×Nat×Nat)->Nat->Prop
 |f,[],lo=>f=lo
 |f,(s,n,_)::r,lo=>s=f/\1<=n/\Cont (f+n) r lo
theorem Cont.le:∀{l:List (Nat×Nat×Nat)}{f lo:Nat},Cont f l lo->f<=lo
 |[],f,lo,h=>QI h
 | (s,n,p)::r,f,lo,⟨_,h1,h⟩=>by have:=Cont.le h;lia
theorem Cont.two:∀{l:List (Nat×Nat×Nat)}{f lo:Nat} (i:Nat),Cont f l lo->i+1<l.length->∃sa na pw sb nb pb,l[i]?=some (sa,na,pw)/\l[i+1]?=some (sb,nb,pb)/\sb=sa+na/\1<=na/\1<=nb/\sb+nb<=lo
 | (s,n,p)::(s2,n2,p2)::r,f,lo,0,⟨h1,h2,h3,h4,h5⟩,_=>⟨s,n,p,s2,n2,p2,rfl,rfl,by lia,h2,h4,by have:=h5.le;lia⟩
 | (s,n,p)::r,f,lo,i+1,⟨_,_,h⟩,hl=>Cont.two i h (by simpa using hl)
 |[],_,_,_,_,hl=>by simp at hl
 |[_],_,_,0,_,hl=>by simp at hl
theorem Cont.merge:∀{l:List (Nat×Nat×Nat)}{f lo:Nat} (i:Nat){sa na pw sb nb pb:Nat},Cont f l lo->l[i]?=some (sa,na,pw)->l[i+1]?=some (sb,nb,pb)->Cont f ((l.set i (sa,na+nb,pw)).eraseIdx (i+1)) lo
 | (s,n,p)::(s2,n2,p2)::r,f,lo,0,sa,na,pw,sb,nb,pb,⟨h1,h2,h3,h4,h5⟩,e1,e2=>by cases e1;cases e2;refine⟨h1,by lia,?_⟩;rw[<-Nat.add_assoc];exact h5
 | (s,n,p)::r,f,lo,i+1,sa,na,pw,sb,nb,pb,⟨h1,h2,h⟩,e1,e2=>⟨h1,h2,Cont.merge i h e1 e2⟩
 |[],_,_,_,_,_,_,_,_,_,_,e1,_=>by cases e1
 |[_],_,_,0,_,_,_,_,_,_,_,_,e2=>by cases e2
theorem Cont.mod(pw:Nat):∀{l:List (Nat×Nat×Nat)}{f lo:Nat} (j:Nat),Cont f l lo->Cont f (l.modify j λx=>(x.1,x.2.1,pw)) lo
 |[],f,lo,j,h=>by rw[List.modify_nil];exact h
 | (s,n,p)::r,f,lo,0,⟨h1,h2,h⟩=>⟨h1,h2,h⟩
 | (s,n,p)::r,f,lo,j+1,⟨h1,h2,h⟩=>⟨h1,h2,Cont.mod pw j h⟩
theorem Cont.push{n:Nat}(hn:1<=n):∀{l:List (Nat×Nat×Nat)}{f lo:Nat},Cont f l lo->Cont f (l++[(lo,n,0)]) (lo+n)
 |[],f,lo,h=>⟨h.symm,hn,by show f+n=lo+n;rw[show f=lo from h]⟩
 | (s,m,p)::r,f,lo,⟨h1,h2,h⟩=>⟨h1,h2,Cont.push hn h⟩
section
variable{prog:Program}{w:World}{A:Around}{E:Ro}{s:Shared}{kd:SortKind}{P:Value->Prop}{xs0:Array Keyed}
def pN{st:SortSt}{i lo:Nat}(L:iU prog w A s kd P)(G:Good P xs0)(B:SB kd xs0 st)(C:Cont 0 (pendingOf st).toList lo)(le:lo<=xs0.size)(hi:i+1<(pendingOf st).size)(h:∀st',SB kd xs0 st'->Cont 0 (pendingOf st').toList lo->Q true st'):wpS (model prog w) A E s (mergeAt' i) Q st:=by obtain⟨sa,na,pw,sb,nb,pb,e1,e2,c,n1,n2,l2⟩:=C.two i (by simpa using hi);refine D3 L G B (by rw[<-QK];exact e1) (by rw[<-QK];exact e2) c n1 n2 (by lia) λst' B' p'=>h st' B' ?_;rw[p',Array.toList_eraseIdxIfInBounds,Array.toList_setIfInBounds];exact C.merge i e1 e2
def GL{st:SortSt}(L:iU prog w A s kd P)(G:Good P xs0)(B:SB kd xs0 st)(p0:pendingOf st=#[])(h:∀st',SB kd xs0 st'->Q () st'):wpS (model prog w) A E s sortRuns' Q st:=by
 rw[sortRuns'_eq];refine N2 (wpS_get ?_);dsimp only;rw[B.size];refine N2 (OI (OJ (I:=λx c st'=>SB kd xs0 st'/\c.1=none/\Cont 0 (pendingOf st').toList c.2/\c.2<=xs0.size) (Q:=λc st'=>SB kd xs0 st'/\c.1=none/\Cont 0 (pendingOf st').toList c.2/\c.2<=xs0.size) ?step (λ_ _ q=>q) ⟨B,rfl,by rw[p0];rfl,ON _⟩) ?post)
 case step=>
  rintro x⟨o,lo⟩st' _ _⟨B1,rfl,C1,l1⟩;dsimp only at C1 l1⊢;refine cC (λ_=>N3 ⟨B1,rfl,C1,l1⟩) (λge=>?_)
  refine N2 (DK L G B1 (by lia) (by lia) λm st2 B2 p2 m1 m2=>?_)
  dsimp only;have C2:Cont 0 (pendingOf st2).toList lo:=by rw[p2];exact C1
  refine cC (λlt=>?_) (λlt=>?_)
  .refine N2 (PK (Oe ⟨rfl,?_⟩));generalize hf:min (xs0.size-lo) (minRun' xs0.size xs0.size 0)=force;have f1:1<=force:=by lia
   have f2:lo+force<=xs0.size:=by lia
   refine N2 (J8 L G B2 f2 λst3 B3 p3=>?_)
   have C3:Cont 0 (pendingOf st3).toList lo:=by rw[p3];exact C2
   refine cC (λz=>absurd z (by decide)) (λ_=>?_)
   refine N2 (wpS_get ?_);cases hb:(pendingOf st3).back? with
   |none=>
    dsimp only;refine N2 (Ob ?_);refine N3 ⟨⟨B3.perm,B3.kind,B3.ok⟩,rfl,?_,f2⟩;show Cont 0 ((pendingOf st3).push (lo,force,0)).toList (lo+force);rw[Qi];exact C3.push f1
   |some t=>
    obtain⟨s1,n1',q1⟩:=t;dsimp only;refine N2 (OI (OJ (I:=λy c st4=>SB kd xs0 st4/\c.1=none/\Cont 0 (pendingOf st4).toList lo) (Q:=λc st4=>SB kd xs0 st4/\c.1=none/\Cont 0 (pendingOf st4).toList lo) ?step1 (λ_ _ q=>q) ⟨B3,rfl,C3⟩) ?post1)
    case step1=>
     rintro y⟨o,u⟩st4 _ _⟨B4,rfl,C4⟩;refine N2 (wpS_get ?_);cases hm:(if(pendingOf st4).size>1 then(pendingOf st4)[(pendingOf st4).size-2]? else none)with
     |none=>exact N3 ⟨B4,rfl,C4⟩
     |some t=>
      obtain⟨f1,f2,older⟩:=t;dsimp only;refine cC (λ_=>N3 ⟨B4,rfl,C4⟩) (λ_=>?_)
      have s2:(pendingOf st4).size>1:=by
       by_cases z:(pendingOf st4).size>1
       .exact z
       .rw[if_neg z]at hm;cases hm
      refine N2 (pN L G B4 C4 l1 (by lia) λst5 B5 C5=>?_)
      exact cC (λz=>absurd z (by decide)) (λ_=>N3 ⟨B5,rfl,C5⟩)
    case post1=>
     rintro⟨o,u⟩st4⟨B4,rfl,C4⟩;dsimp only;refine N2 (Ob ?_);refine N2 (Ob ?_);refine N3 ⟨⟨B4.perm,B4.kind,B4.ok⟩,rfl,?_,f2⟩;refine id (?_:Cont 0 (((pendingOf st4).modify ((pendingOf st4).size-1) λx=>(x.1,x.2.1,_)).push (lo,force,0)).toList (lo+force))
     rw[Qi,Array.toList_modify];exact(C4.mod _ _).push f1
  .have f2:lo+m<=xs0.size:=by lia
   refine N2 (wpS_get ?_);cases hb:(pendingOf st2).back? with
   |none=>
    dsimp only;refine N2 (Ob ?_);refine N3 ⟨⟨B2.perm,B2.kind,B2.ok⟩,rfl,?_,f2⟩;show Cont 0 ((pendingOf st2).push (lo,m,0)).toList (lo+m);rw[Qi];exact C2.push m1
   |some t=>
    obtain⟨s1,n1',q1⟩:=t;dsimp only;refine N2 (OI (OJ (I:=λy c st4=>SB kd xs0 st4/\c.1=none/\Cont 0 (pendingOf st4).toList lo) (Q:=λc st4=>SB kd xs0 st4/\c.1=none/\Cont 0 (pendingOf st4).toList lo) ?step2 (λ_ _ q=>q) ⟨B2,rfl,C2⟩) ?post2)
    case step2=>
     rintro y⟨o,u⟩st4 _ _⟨B4,rfl,C4⟩;refine N2 (wpS_get ?_);cases hm:(if(pendingOf st4).size>1 then(pendingOf st4)[(pendingOf st4).size-2]? else none)with
     |none=>exact N3 ⟨B4,rfl,C4⟩
     |some t=>
      obtain⟨f1,f2,older⟩:=t;dsimp only;refine cC (λ_=>N3 ⟨B4,rfl,C4⟩) (λ_=>?_)
      have s2:(pendingOf st4).size>1:=by
       by_cases z:(pendingOf st4).size>1
       .exact z
       .rw[if_neg z]at hm;cases hm
      refine N2 (pN L G B4 C4 l1 (by lia) λst5 B5 C5=>?_)
      exact cC (λz=>absurd z (by decide)) (λ_=>N3 ⟨B5,rfl,C5⟩)
    case post2=>
     rintro⟨o,u⟩st4⟨B4,rfl,C4⟩;dsimp only;refine N2 (Ob ?_);refine N2 (Ob ?_);refine N3 ⟨⟨B4.perm,B4.kind,B4.ok⟩,rfl,?_,f2⟩;refine id (?_:Cont 0 (((pendingOf st4).modify ((pendingOf st4).size-1) λx=>(x.1,x.2.1,_)).push (lo,m,0)).toList (lo+m))
     rw[Qi,Array.toList_modify];exact(C4.mod _ _).push m1
 case post=>
  rintro⟨o,lo⟩st'⟨B1,rfl,C1,l1⟩;dsimp only at C1 l1⊢;refine N2 (OI (OJ (I:=λy c st4=>SB kd xs0 st4/\c.1=none/\Cont 0 (pendingOf st4).toList lo) (Q:=λc st4=>SB kd xs0 st4/\c.1=none/\Cont 0 (pendingOf st4).toList lo) ?stepE (λ_ _ q=>q) ⟨B1,rfl,C1⟩) ?postE)
  case stepE=>
   rintro y⟨o,u⟩st4 _ _⟨B4,rfl,C4⟩;refine N2 (wpS_get ?_);refine cC (λ_=>N3 ⟨B4,rfl,C4⟩) (λgt=>?_)
   refine N2 (pN L G B4 C4 l1 (by(repeat' split)<;>lia) λst5 B5 C5=>?_)
   exact cC (λz=>absurd z (by decide)) (λ_=>N3 ⟨B5,rfl,C5⟩)
  case postE=>
   rintro⟨o,u⟩st4⟨B4,rfl,C4⟩;dsimp only;exact N3 (h _ B4)
end
noncomputable def IsPair (h:Heap)(v:Value):Prop:=∃(a:Addr)(o:Obj) (i j:Int)(t u:Tok) (n:Nat),v=.ref a/\h.get? a=some o/\o.cls=.type "tuple"/\o.data=.seq #[.int i t,.int j u] n
section
variable{prog:Program}{w:World}{A:Around}{E:Ro}{s:Shared}
def Kg(b:Bool){i j:Int}(h:∀c,Q c s):wpAny (model prog w) A (oneLt' b (.int i t) (.int j u)) Q E s:=by
 cases b with
 |true=>exact oneLt_int (h _)
 |false=>rw[oneLt'_eq];rw[if_neg O9];refine N1 (?_:wpAny _ _ (compareOp .Lt (.int i t) (.int j u)) _ _ _);exact lt_int (Pn (h _))
def zM:iU prog w A s (tuples' true) (IsPair s.heap):=by
 rintro E x y⟨a,o,i,j,t,u,n,rfl,ho,hc,hd⟩⟨a2,o2,i2,j2,t2,u2,n2,rfl,ho2,hc2,hd2⟩Q h;refine N1 (Qj ho hd ?_);refine N1 (Qj ho2 hd2 ?_);dsimp only;refine N1 ?_;refine wpAny_forIn_list _ (λrest r s'=>s'=s/\r.1=none/\∀x∈rest,∃(i j:Int)(t u:Tok),x.1=(Value.int i t,Value.int j u)) _ ?_ ?_ _ _ ⟨rfl,rfl,λx hx=>?_⟩
 .rintro⟨⟨p,q⟩,k⟩rest⟨r,⟨⟩⟩s'⟨rfl,rfl,hall⟩;obtain⟨i3,j3,t3,u3,e⟩:=hall _ N6;dsimp only at e;cases e;dsimp only;refine N1 ((intKind prog w).eqBool (a:=i3) (b:=j3) (intKind_is _ _ i3 t3) (intKind_is _ _ j3 u3) ?_);cases decide (i3=j3)with
  |true=>exact N4 ⟨rfl,rfl,λx hx=>hall x (NX _ hx)⟩
  |false=>exact N1 (Kg _ λc=>N4 (N4 (h c)))
 .rintro⟨r,⟨⟩⟩s'⟨rfl,rfl,_⟩;exact N4 (h _)
 have hx':x=((Value.int i t,Value.int i2 t2),0)\/x=((Value.int j u,Value.int j2 u2),1):=by simpa using hx
 rcases hx' with rfl|rfl;{exact⟨_,_,_,_,rfl⟩};exact⟨_,_,_,_,rfl⟩
def zI(hv:IsPair s.heap v)(h:∀i t,Q (some (.int i t)) s):wpAny (model prog w) A (firstOfTuple' v) Q E s:=by obtain⟨a,o,i,j,t,u,n,rfl,ho,hc,hd⟩:=hv;unfold firstOfTuple';refine N1 (QX (T:="tuple") ⟨o,ho,hc⟩ ?_);rw[if_neg (by decide)];refine N1 (Qj ho hd (N4 ?_));exact h i t
theorem firsts:∀{vs:SG},(∀v∈vs,IsPair s.heap v)->(∀os:List (Ry),os.length=vs.length->(∀o∈os,∃i t,o=some (Value.int i t))->Q os s)->wpAny (model prog w) A (vs.mapM firstOfTuple') Q E s
 |[],_,h=>by rw[List.mapM_nil];exact N4 (h [] rfl λo ho=>(nomatch ho))
 |v::r,hv,h=>by rw[List.mapM_cons];refine N1 (zI (hv v N6) λi t=>?_);refine N1 (firsts (λx hx=>hv x (NX _ hx)) λos ol oh=>?_);refine N4 (h _ (by simp[ol]) λo ho=>?_);rcases NY.mp ho with rfl|ho;{exact⟨i,t,rfl⟩};exact oh o ho
def Au{Q:SortKind->Shared->Prop}(h0:vs≠[])(hv:∀v∈vs,IsPair s.heap v)(h:Q (tuples' true) s):wpAny (model prog w) A (keyKind' vs.toArray) Q E s:=by
 rw[keyKind'_eq,List.mapM_toArray];rw[map_eq_pure_bind,bind_assoc];refine N1 (firsts hv λos ol oh=>?_);rw[pure_bind];have all:os.toArray.all (·.isSome)=true:=by rw[List.all_toArray,N7];intro o ho;obtain⟨i,t,rfl⟩:=oh o ho;rfl
 rw[if_pos all];refine N1 (Oe ?_);have inte:∃us:SG,os.toArray.filterMap id=us.toArray/\us≠[]/\∃ns,IntsAre us ns:=by
  have go:∀os:List (Ry),(∀o∈os,∃i t,o=some (Value.int i t))->∃us ns,os.filterMap id=us/\us.length=os.length/\IntsAre us ns:=λos=>by
   induction os with
   |nil=>exact λ_=>⟨[],[],rfl,rfl,.nil⟩
   |cons o r ih=>intro hh;obtain⟨i,t,rfl⟩:=hh o N6;obtain⟨us,ns,e,l,I⟩:=ih λx hx=>hh x (NX _ hx);exact⟨.int i t::us,i::ns,by simp[e],by simp[l],.cons i t I⟩
  obtain⟨us,ns,e,l,I⟩:=go os oh;refine⟨us,?_,λz=>h0 ?_,ns,I⟩;{rw[List.filterMap_toArray,e]};rw[z]at l;have:vs.length=0:=by rw[<-ol,<-l];rfl
  exact List.length_eq_zero_iff.mp this
 obtain⟨us,e,un,ns,I⟩:=inte;rw[e,oneTypeOnly'_eq,List.mapM_toArray,mapM_typeOf_ints I];simp only[map_pure,pure_bind];obtain⟨u0,ur,rfl⟩:=List.exists_cons_of_ne_nil un;have hall:((List.map (λ_=>Value.type "int") (u0::ur)).toArray.all λx=>x==Value.type "int")=true:=by simp only[List.all_toArray,List.all_map,N7];intro _ _;rfl
 have h1:(List.map (λ_=>Value.type "int") (u0::ur)).toArray[0]?=some (Value.type "int"):=by simp
 rw[h1];simp only[hall,if_true,pure_bind];exact N4 h
end
def IsPair.keep{a:Addr}(p:IsPair h v)(ha:h.get? a=some c)(hc:c.cls=.type "list")(k:∀b o,b≠a->h.get? b=some o->h'.get? b=some o):IsPair h' v:=by obtain⟨b,o,i,j,t,u,n,rfl,ho,hco,hd⟩:=p;refine⟨b,o,i,j,t,u,n,rfl,k b o (λz=>?_) ho,hco,hd⟩;rw[z,ha]at ho;cases ho;rw[hc]at hco;injection hco with z;exact absurd z (by decide)
section
variable{prog:Program}{w:World}{A:Around}{E:Ro}{s:Shared}
def As{a:Addr}{n:Nat}(ho:s.heap.get? a=some (seqObj "list" vs.toArray n))(hv:∀v∈vs,IsPair s.heap v)(few:vs.length<=1000)(h:∀us:Rz,us.toList.Perm vs->R (.done (.ret .none)) { s with heap:=sortedHeap s.heap a vs us }):wpAny (model prog w) A (Builtin.«list.sort» ⟨[.ref a],[]⟩) R E s:=by
 have line:(1000:Nat)<=sizeLine:=by decide
 have az:a<s.heap.objs.size:=N8 ho;rw[list_sort_plain (a:Addr)];refine N1 (Qj ho rfl (?_:_));refine N1 (listUpdate_at ho rfl (?_:_) (by simp;lia) (by simp));obtain⟨ep,g1⟩:∃ep,(s.heap.update a (Obj.mapSeq λ_=>#[])).get? a=some (seqObj "list" #[] ep):=⟨_,get?_update_seq ho λ_=>#[]⟩;refine N1 (seqEpoch_at g1 rfl (?_:_));refine N1 (Qk (?_:_) (by simp;lia));refine N1 (wpAny_newList (?_:_));refine Oz (?_:_);have g6:(((s.heap.update a (Obj.mapSeq λ_=>#[])).push (seqObj "tuple" vs.toArray 0)).push (seqObj "list" #[] 0)).get? a=some (seqObj "list" #[] ep):=O1 _ (O1 _ g1);have keep:∀b o,b≠a->s.heap.get? b=some o->(((s.heap.update a (Obj.mapSeq λ_=>#[])).push (seqObj "tuple" vs.toArray 0)).push (seqObj "list" #[] 0)).get? b=some o:=λb o hb e=>O1 _ (O1 _ ((Om _ _ (Ne.symm hb)).trans e));have hv6:∀v∈vs,IsPair (((s.heap.update a (Obj.mapSeq λ_=>#[])).push (seqObj "tuple" vs.toArray 0)).push (seqObj "list" #[] 0)) v:=λv m=>(hv v m).keep ho rfl keep;refine id (?_:wpAny (model prog w) A _ R E { s with heap:=((s.heap.update a (Obj.mapSeq λ_=>#[])).push (seqObj "tuple" vs.toArray 0)).push (seqObj "list" #[] 0) });dsimp only;have psz:(vs.toArray.zip vs.toArray).size=vs.length:=by simp
 have out:∀zs:Array Keyed,zs.Perm (vs.toArray.zip vs.toArray)->(zs.map (·.2)).toList.Perm vs:=λzs p=>by
  have p2:=(RU.mp p).map (·.2);rw[Array.toList_map];refine p2.trans ?_;have:((vs.toArray.zip vs.toArray).toList.map (·.2))=vs:=by rw[Array.toList_zip];simp[List.map_snd_zip]
  rw[this]
 by_cases h2:vs.toArray.size<2;{rw[if_pos h2,if_pos h2];refine N1 (N4 (?_:_));rw[StateT.run_pure];refine N1 (N4 (?_:_));dsimp only;refine N1 (seqEpoch_at g6 rfl (?_:_));have o1:=out (vs.toArray.zip vs.toArray) (Array.Perm.refl _);have l1:=o1.length_eq;rw[PY]at l1;refine N1 (listUpdate_at g6 rfl (?_:_) (by simp) (NZ (QI l1) (by lia)));simp only[bne_self_eq_false,Ql,if_false];refine N4 (?_:_);exact h _ o1};rw[if_neg h2,if_neg h2];have ne:vs≠[]:=λz=>h2 (by rw[z];decide);refine N1 (Au (s:={ s with heap:=((s.heap.update a (Obj.mapSeq λ_=>#[])).push (seqObj "tuple" vs.toArray 0)).push (seqObj "list" #[] 0) }) ne hv6 (?_:_));refine N1 (Od (GL (kd:=tuples' true) (P:=IsPair (((s.heap.update a (Obj.mapSeq λ_=>#[])).push (seqObj "tuple" vs.toArray 0)).push (seqObj "list" #[] 0))) (xs0:=vs.toArray.zip vs.toArray) (s:={ s with heap:=((s.heap.update a (Obj.mapSeq λ_=>#[])).push (seqObj "tuple" vs.toArray 0)).push (seqObj "list" #[] 0) }) (Q:=λ_ st'=>SB (tuples' true) (vs.toArray.zip vs.toArray) st') zM (λk p hp=>?_) ⟨Array.Perm.refl _,rfl,rfl⟩ rfl λst' B=>B) ?_ λ_ _ e=>e);{have m:p∈(vs.toArray.zip vs.toArray).toList:=OD (by rw[QK];exact hp);rw[Array.toList_zip]at m;exact hv6 _ (QU m).1};rintro⟨⟨⟩,st'⟩s'⟨rfl,B⟩;dsimp only;refine N1 (seqEpoch_at g6 rfl (?_:_));have o1:=out _ B.perm;have l1:=o1.length_eq;rw[PY]at l1;refine N1 (listUpdate_at g6 rfl (?_:_) (by simp) (NZ (QI l1) (by lia)));rw[B.ok];simp only[bne_self_eq_false,Ql,if_false];refine N4 (?_:_);exact h _ o1
end
end TS
namespace L2
open PySem PySem.Spec PyProof.Rows
def Cd(p:us.Perm its):∀{ys:List V},Vals ys its->∃zs,zs.Perm ys/\Vals zs us:=by
 induction p with
 |nil=>exact λ{ys} r=>⟨ys,List.Perm.refl _,r⟩
 |cons x _ ih=>
  intro ys r;cases r with
  |cons h r=>obtain⟨zs,p1,r1⟩:=ih r;exact⟨_::zs,p1.cons _,.cons h r1⟩
 |swap x y l=>
  intro ys r;cases r with
  |cons h r=>
   cases r with
   |cons h2 r=>exact⟨_::_::_,List.Perm.swap _ _ _,.cons h2 (.cons h r)⟩
 |trans _ _ ih1 ih2=>intro ys r;obtain⟨zs,p1,r1⟩:=ih2 r;obtain⟨ws,p2,r2⟩:=ih1 r1;exact⟨ws,p2.trans p1,r2⟩
section
variable{X:Cx}
inductive xO(K:Rx)(xs:List V)(H:Hp)(Q:VK):Prop
 |mk:∀(a:Addr)(ys:List V),(xs=[.ref a])->(bX K H a ys)->((∀y∈ys,∃(b:Addr) (i j:Int),y=.ref b/\aU K H b [.int i,.int j]))->(ys.length<=1000)->(∀(zs:List V)(p:Addr),zs.Perm ys->H p=none->Q (.ref p) (upd H p (.lst zs)))->xO K xs H Q
noncomputable def BY (K:Rx):List V->Hp->VK->Prop:=λxs H Q=>xO K xs H Q
def wg:cJ X (.builtin "sorted") (BY X.K):=by
 intro pins s U H xs us Q I r h;obtain⟨a,ys,rfl,hq,tu,few,q⟩:=h;obtain⟨u,rfl,ru⟩:=r.one;cases ru;obtain⟨its,rv,p,_⟩:=I.list hq;have hlen:its.length=ys.length:=rv.length.symm;have hv:∀v∈its,TS.IsPair s.heap v:=λv m=>by
  obtain⟨i,hi⟩:=Py m;have go:∀{ys:List V}{its:SG},Vals ys its->∀(i:Nat)(u:Value),its[i]?=some u->∃x,ys[i]?=some x/\RelV x u:=λ{ys its} r=>by
   induction r with
   |nil=>exact λi u h=>(nomatch h)
   |cons h _ ih=>
    intro i u e;cases i with
    |zero=>cases e;exact⟨_,rfl,h⟩
    |succ i=>exact ih i u e
  obtain⟨x,hx,rx⟩:=go rv i v hi;obtain⟨b,i1,j1,rfl,sb⟩:=tu x (OD hx);cases rx;obtain⟨its2,r2,⟨o2,e2,c2,n2,d2⟩,_⟩:=I.tuple sb;cases r2 with
  |cons ra r3=>
   cases r3 with
   |cons rb r4=>cases r4;obtain⟨t,rfl⟩:=ra;obtain⟨u,rfl⟩:=rb;exact⟨b,o2,i1,j1,t,u,n2,rfl,e2,c2,d2⟩
 have line:(1000:Nat)<=sizeLine:=by decide
 refine Calls.call_function_entry kind_sorted plain_sorted entry_sorted (args_sorted1 _) (?_:_);unfold Builtin.«sorted»;refine N1 (m:=checkCount "sorted" 1 1 _) (N4 (?_:_));refine N1 (collect_list p.isList (?_:_) (by lia));refine N1 (wpAny_newList (?_:_) (by lia));have sz:((s.heap.push (seqObj "list" #[] 0)).update s.heap.objs.size (Obj.mapSeq (·++its.toArray))).objs.size=s.heap.objs.size+1:=by rw[Heap.size_update];exact size_push' _ _
 have g0:(((s.heap.push (seqObj "list" #[] 0)).update s.heap.objs.size (Obj.mapSeq (·++its.toArray))).push (seqObj "list" its.toArray 0)).get? (s.heap.objs.size+1)=some (seqObj "list" its.toArray 0):=by rw[<-sz];exact OC _ rfl
 have old:∀b o,s.heap.get? b=some o->(((s.heap.push (seqObj "list" #[] 0)).update s.heap.objs.size (Obj.mapSeq (·++its.toArray))).push (seqObj "list" its.toArray 0)).get? b=some o:=λb o e=>O1 _ ((Om _ _ (P7 (N8 e))).trans (O1 _ e));refine id (?_:wpAny _ _ _ _ _ { s with heap:=((s.heap.push (seqObj "list" #[] 0)).update s.heap.objs.size (Obj.mapSeq (·++its.toArray))).push (seqObj "list" its.toArray 0) });rw[sz];have hv2:∀v∈its,TS.IsPair (((s.heap.push (seqObj "list" #[] 0)).update s.heap.objs.size (Obj.mapSeq (·++its.toArray))).push (seqObj "list" its.toArray 0)) v:=λv m=>by obtain⟨b,o,i,j,t,u,n,e,ho,r⟩:=hv v m;exact⟨b,o,i,j,t,u,n,e,old b o ho,r⟩
 refine N1 (Oz (P0 slot_list_sort ⟨_,g0,rfl⟩ entry_list_sort (TS.As g0 hv2 (by lia) λout pm=>⟨_,rfl,(?_:_)⟩) (args_list_sort _)));obtain⟨n,hn⟩:=sortedHeap_at (vs:=its) (out:=out) g0;obtain⟨zs,pz,rz⟩:=Cd pm rv;have new:s.heap.get? (s.heap.objs.size+1)=none:=R9 (Nat.le_succ _);have I2:=I.E8 (a:=s.heap.objs.size+1) (o:=.lst zs) (t':=s.toks) (h':=sortedHeap (((s.heap.push (seqObj "list" #[] 0)).update s.heap.objs.size (Obj.mapSeq (·++its.toArray))).push (seqObj "list" its.toArray 0)) (s.heap.objs.size+1) its out) (λb o hb=>by
   have lt:=N8 hb;rw[sortedHeap_old (O6 (Q0 lt)) (by rw[size_push',sz];exact Q0 (Q0 lt))]
   exact old b o hb) new
  ⟨by rw[pz.length_eq];lia,out.toList,n,rz,by simpa using hn⟩
 exact N4 ⟨_,rfl,.ref (s.heap.objs.size+1),_,I2,rfl,q zs _ pz (I.lO new)⟩
end
noncomputable def Km (K:Rx)(a:Addr):It:=
 ⟨λi H=>∃xs x,bX K H a xs/\xs[i]?=some x,λi H v H'=>∃T,H T=none/\v=.ref T/\∀xs,bX K H a xs->∃x,xs[i]?=some x/\H'=upd H T (.tup [.int i,x]),λi H=>∃xs,bX K H a xs/\xs.length<=i⟩
def Bg{P:Program}{w:World}{K:Rx}{elts:SK}{x1:Nat}{pos:Pos}(a e it:Addr)(hne:e≠it) : Turn P w K (.Tuple elts x1 pos) (Km K a) [e,it] e (λi h=>(∃old,IsEnum h e it i old)/\h.IsListIter it a i) where
 mem:=by simp
 obj:=λi h st b hb=>by
  obtain⟨⟨old,he⟩,o,e1,c,d⟩:=st;rcases NY.mp hb with z|z
  .subst z;exact⟨_,he,λv q=>by cases q⟩
  .have z:b=it:=by simpa using z
   subst z;exact⟨o,e1,λv q=>by rw[d]at q;cases q⟩
 keep:=λi h h' st k=>by
  obtain⟨⟨old,he⟩,li⟩:=st;exact⟨⟨old,k e (by simp) _ he⟩,li.at λo q=>k it (by simp) o q⟩
 item:=by
  intro X hP hw hK hc i pins s U H E I hf st hg;subst hP hw hK;obtain⟨xs,x,hq,hx⟩:=hg;obtain⟨its,rv,p,hz⟩:=I.list hq;obtain⟨u,hu,ru⟩:=rv.get hx;obtain⟨⟨old,he⟩,hit⟩:=st;have fe:=hf e (by simp)
  have fi:=hf it (by simp)
  refine wpAny_pyNext_enum_item he hit p.isList (x:=u) (by simpa using hu) hne λh1 heo hit1 ht1 hz1 hk1=>⟨_,rfl,?_⟩
  refine wpAny_letOwnedTupleGo_enum heo λh2 he2 hs2=>?_
  have elt:e<s.heap.objs.size:=N8 he;have ht2:h2.get? s.heap.objs.size=some { cls:=.type "tuple",data:=.seq #[.int i s.toks,u] }:=(hs2.2 _ (P7 elt)).trans ht1;have hfr:H s.heap.objs.size=none:=I.hok.fresh (N5 _);have k2:∀b o,b≠e->b≠it->s.heap.get? b=some o->h2.get? b=some o:=λb o b1 b2 q=>hs2.extBut b o b1 (hk1 b o b1 b2 q)
  have neT:∀b o,H b=some o->b≠s.heap.objs.size:=λb o q z=>by rw[z,hfr]at q;cases q
  have neS:∀b o,s.heap.get? b=some o->b≠s.heap.objs.size:=λb o q=>O6 (N8 q)
  have nt:∀b o,H b=some o->b≠e/\b≠it:=λb o q=>⟨(λz=>by rw[z,fe.1]at q;cases q),(λz=>by rw[z,fi.1]at q;cases q)⟩
  have nin:∀b,b∉[e,it]->b≠e/\b≠it:=λb hb=>⟨λz=>hb (by simp[z]),λz=>hb (by simp[z])⟩
  have I2:Inv X pins U (upd H s.heap.objs.size (.tup [.int i,x])) { s with heap:=h2,toks:=s.toks+1 }:=by
   refine I.step (g':=s.gens) (d':=s.drawn) (ch:=[e,it]) (λb hb=>?_) (λb o _ _ hc' q _=>k2 b o (nin b hc').1 (nin b hc').2 q) (λb o _ _ hc' q _=>⟨o.slots,k2 b o (nin b hc').1 (nin b hc').2 q⟩)
    (λb o _ q n=>by rw[ao (neS b o q)];exact n) (λb o hc' q=>⟨o,k2 b o (nin b hc').1 (nin b hc').2 q⟩) (λb ys q=>by rw[ao (neT b _ q)];exact q) (λb o v q=>by rw[ao (neT b _ q)];exact q)
    (λb ps q=>⟨#[],by rw[ao (neT b _ q),q];simp⟩) (λm hm=>?_) (λb o q=>?_) I.bare
   .rcases NY.mp hb with z|z
    .subst z;exact⟨fe.2.2.2.1,fe.2.1,fe.2.2.2.2.1,fe.2.2.2.2.2⟩
    .have z:b=it:=by simpa using z
     subst z;exact⟨fi.2.2.2.1,fi.2.1,fi.2.2.2.2.1,fi.2.2.2.2.2⟩
   .obtain⟨o,es,ep,ho,r⟩:=hm;exact⟨o,es,ep,k2 _ o (Ne.symm fe.2.1) (Ne.symm fi.2.1) ho,r⟩
   .by_cases z:b=s.heap.objs.size
    .subst z;rw[aG]at q;cases q;exact⟨(by show 2<=sizeLine;decide),[.int i s.toks,u],.cons ⟨_,rfl⟩ (.cons ru .nil),_,ht2,rfl,_,rfl⟩
    .rw[ao z]at q;refine(I.hok b o q).stay (λc v hc' r=>k2 c v ?_ ?_ r) (λc r=>by rw[ao (neT c _ r)];exact r) λc ys r=>by rw[ao (neT c _ r)];exact r
     .rcases hc' with y|y
      .rw[y];exact(nt b o q).1
      .exact(nt c _ y).1
     .rcases hc' with y|y
      .rw[y];exact(nt b o q).2
      .exact(nt c _ y).2
  refine⟨.ref s.heap.objs.size,_,I2,rfl,⟨s.heap.objs.size,hfr,rfl,λys hy=>⟨x,by rw[I.pP hy hq];exact hx,rfl⟩⟩,⟨⟨_,he2⟩,?_⟩,λb hb=>?_⟩
  .exact hit1.at λo q=>hs2.extBut it o (Ne.symm hne) q
  .rcases NY.mp hb with z|z
   .subst z;rw[ao (O6 elt)];exact fe.1
   .have z:b=it:=by simpa using z
    subst z;obtain⟨o,q,_⟩:=id hit;rw[ao (O6 (N8 q))];exact fi.1
 done:=by
  intro X hP hw hK hc i pins s U H E I hf st hg;subst hP hw hK;obtain⟨xs,hq,hx⟩:=hg;obtain⟨its,rv,p,hz⟩:=I.list hq;obtain⟨⟨old,he⟩,hit⟩:=st;obtain⟨f0,f1,f2,f3,f4,f5⟩:=hf it (by simp)
  have hl:=rv.length;exact wpAny_pyNext_enum_end (I.ok.hd hc) he hit p.isList (by simp;lia) λh' eb=>⟨rfl,I.turned (t':=s.toks) (λb o hb q=>eb b o hb q) f0 f1 f3 f4 f5⟩
 self:=λ_ _ _ _ _ st h=>by
  obtain⟨⟨old,he⟩,_⟩:=st;exact Qm he h
section
variable{X:Cx}
inductive Cu(K:Rx)(R:(It->Hp->Prop))(vs:List V)(H1:Hp):Prop
 |mk:∀a,(vs=[.ref a])->((∃xs,bX K H1 a xs))->(R (Km K a) H1)->Cu K R vs H1
noncomputable def Ly (K:Rx)(ta:TA):TI:=λU H R=>ta U H λvs H1=>Cu K R vs H1
def G0{elts:SK}{x1:Nat}{tp p pos:Pos}{e:Expr}{ta:TA}(hg:Gl X "enumerate")(hm:X.mg "enumerate"=none)(ha:PA X [e] ta)(hs:starEach [e] X.env=[(false,eval e X.env)]:=by rfl) : PI X (.Tuple elts x1 tp) (.Call (.Name "enumerate" p) [e] [] pos) (Ly X.K ta):=by
 intro pins s U H R I h;refine Call_ (jk I hg hm boot_enumerate (Po (aQ (ha pos pins s U H _ I h) λus s1 ⟨vs,H1,I1,r1,q1⟩=>?_) hs rfl));obtain⟨a,ev,⟨xs,hq⟩,q⟩:=q1;subst ev;obtain⟨u,rfl,ru⟩:=r1.one;cases ru;obtain⟨its,rv,pl,hz⟩:=I1.list hq;refine call_enumerate_list pl.isList λh' he hit hsz hk=>?_;refine Qm he ?_;have I2:Inv X pins U H1 { s1 with heap:=h' }:=I1.kept (t':=s1.toks) hk;refine⟨s1.heap.objs.size+1,[s1.heap.objs.size+1,s1.heap.objs.size],_,_,H1,rfl,I2,Bg a _ _ (Nat.succ_ne_self _),⟨⟨_,he⟩,hit⟩,λb hb=>?_,q⟩;have hb:s1.heap.objs.size<=b:=by
  rcases NY.mp hb with z|z;{rw[z];exact Nat.le_succ _};have z:b=s1.heap.objs.size:=by simpa using z
  rw[z];exact N5 _
 exact I1.nk hb (I1.hok.fresh hb)
end
section
variable{prog:Program}{w:World}{A:Around}{R:Result->Shared->Prop}{s:Shared}
noncomputable abbrev mV (prog:Program)(w:World)(A:Around)(env:Env)(R:Result->Shared->Prop):Ro:=notedBy (model prog w) A env λe s'=>R (.error e) s'
end
section
variable{X:Cx}
theorem oH:∀{ns:SO}{us:SG},Vals (ns.map V.int) us->∃ps:List (Int×Tok),us=ps.map (λp=>Value.int p.1 p.2)/\ns=ps.map (·.1)
 |[],_,.nil=>⟨[],rfl,rfl⟩
 |n::ns,_,.cons h r=>by obtain⟨t,rfl⟩:=h;obtain⟨ps,rfl,rfl⟩:=oH r;exact⟨(n,t)::ps,rfl,rfl⟩
end
end L2
namespace L2
open PySem PySem.Spec PyProof.Rows PySem.W
section
variable{X:Cx}
def BG(hc:X.calm=true):cJ X (.builtin "min") (λxs H Q=>∃(a:Addr)(ns:SO),xs=[.ref a]/\bX X.K H a (ns.map V.int)/\ns≠[]/\∀M,M∈ns->(∀n∈ns,M<=n)->Q (.int M) H):=by
 intro pins s U H xs us Q I r h;obtain⟨a,ns,rfl,hq,ne,q⟩:=h;obtain⟨u,rfl,ru⟩:=vals1 r;cases ru;obtain⟨its,rv,p,_⟩:=I.list hq;obtain⟨ps,rfl,rfl⟩:=oH rv;have hl:s.heap.IsList a (intItems ps.toArray):=by have:=p.isList;simpa[intItems]using this
 refine min_intList (I.ok.hd hc) hl (by simpa using PM.mpr (λe=>ne (by rw[e];rfl))) λv h' tk hv hk=>?_;obtain⟨t,rfl⟩:=QL hv;obtain⟨g1,g2⟩:=argBest_lt (numAt ps.toArray) (ps.toArray.size-1);have pos:0<ps.length:=PM.mpr λe=>ne (by rw[e];rfl);refine⟨.int _,H,I.kept (t':=tk) hk,⟨_,rfl⟩,q _ ?_ λn hn=>?_⟩;{rw[numAt_eq];exact getD_mem (by simp at g1⊢;lia)};obtain⟨j,hj,rfl⟩:=mem_getD hn;rw[NS]at hj;have e:(ps.map (·.1)).getD j 0=numAt ps.toArray j:=by rw[numAt_eq]
 rw[e];exact g2 j (by simp;lia)
end
end L2
namespace Dv
open PySem L2 PySem.W
section
variable{K:Frag}{H Hm:Hp}{P:Kd->PyData->Prop}{Q:VK}
noncomputable def bN (K:Frag)(H Hm:Hp)(P:Kd->PyData->Prop)(Q:VK):Prop:=∀k v u H' Hm' fp,P k v->ah H H'->ah Hm Hm'->ah Hm' H'->(∀a,H a≠none->OE (Hm' a) (Hm a))->Own K H' Hm' k u v fp->(∀a∈fp,H a=none/\Hm' a=none)->Q u H'
def bN.sc(q:bN K H Hm P Q)(s:ah Hm H)(p:P .sh v)(r:Rp K Hm u v):Q u H:=q _ _ _ _ _ [] p (ah.refl _) (ah.refl _) s (λ_ _=>.inl rfl) (.sh r) λ_ z=>by cases z
def i9(s:ah Hm H){p:Addr}(h:H p=none):Hm p=none:=by
 cases e:Hm p with
 |none=>rfl
 |some o=>rw[s _ _ e]at h;cases h
def bN.nl(q:bN K H Hm P Q)(s:ah Hm H){p:Addr}(pp:P (.ow false) (.list ds))(hp:H p=none)(r:av K Hm xs ds):Q (.ref p) (upd H p (.lst xs)):=
 q _ _ _ _ Hm [p] pp (dm hp) (ah.refl _) (s.trans (dm hp)) (λ_ _=>.inl rfl) (.ow aG r) λa ha=>by rw[NV.mp ha];exact⟨hp,i9 s hp⟩
def bN.nt(q:bN K H Hm P Q)(s:ah Hm H){p:Addr}(pp:P .sh (.tuple ds))(hp:H p=none)(r:av K Hm xs ds):Q (.ref p) (upd H p (.tup xs)):=by
 have n:=i9 s hp;have s2:=dm (o:=.tup xs) n;refine q _ _ _ _ (upd Hm p (.tup xs)) [] pp (dm hp) s2 (λb o e=>?_) (λa ha=>.inl (ao λz=>ha (z▸hp))) (.sh (.tup aG (r.mono s2))) λ_ z=>by cases z
 by_cases c:b=p;{rw[c,aG]at e⊢;exact e};rw[ao c]at e⊢;exact s _ _ e
end
noncomputable def r2 (r:R2):List V->Hp->VK->Prop:=λvs H Q=>match vs with
 |[x,y]=>r x y H Q
 |_=>False
noncomputable def r1 (r:V->Hp->VK->Prop):List V->Hp->VK->Prop:=λvs H Q=>match vs with
 |[x]=>r x H Q
 |_=>False
def dG(h:av K H vs [a]):∃x,vs=[x]/\Rp K H x a:=by
 cases h with
 |cons h t=>cases t;exact⟨_,rfl,h⟩
def eV(h:av K H vs [a,b]):∃x y,vs=[x,y]/\Rp K H x a/\Rp K H y b:=by
 cases h with
 |cons h t=>obtain⟨y,rfl,h2⟩:=dG t;exact⟨_,_,rfl,h,h2⟩
def bA.or(h:bA X f r)(k:bA X f s):bA X f λx y H Q=>r x y H Q\/s x y H Q:=λpins st U H x y v u Q I a b z=>z.elim (h pins st U H x y v u Q I a b) (k pins st U H x y v u Q I a b)
section
variable{X:Cx}{Ex:XK}{Y:SN}
def g9(ho:bA X (binaryOp op) r)(D:cF X.K f (r2 r))(S:aM X Ex Y [a,b] as):SE X Ex Y (.BinOp a op b pos) (aa f as):=fP (r:=r2 r) S (λU H Q h=>WE.of (K9 ho bC bC) h) D
def Ln(ho:EZ X (unaryOp op) r)(D:cF X.K f (r1 r))(S:aM X Ex Y [a] as):SE X Ex Y (.UnaryOp op a pos) (aa f as):=fP (r:=r1 r) S (λU H Q h=>WE.of (KL ho bC) h) D
def qK(ho:bA X (compareOp op) r)(hm:behindInMarks op b=false)(D:cF X.K f (r2 r))(S:aM X Ex Y [a,b] as):SE X Ex Y (.Compare a [op] [b] pos) (aa f as):=fP (r:=r2 r) S (λU H Q h=>WE.of (G7 ho bC bC hm) h) D
def LS(ho:mW X r)(hs:lN b)(D:cF X.K f (r2 r))(S:aM X Ex Y [a,b] as):SE X Ex Y (.Subscript a b pos) (aa f as):=fP (r:=r2 r) S (λU H Q h=>WE.of (ES ho bC bC hs) h) D
end
noncomputable def mj (g:Int->Int->PyData):DR:=λds P=>match ds with
 |[.int a,.int b]=>P .sh (g a b)
 |_=>False
noncomputable def oq (C:Int->Int->Prop)(g:Int->Int->PyData):DR:=λds P=>match ds with
 |[.int a,.int b]=>C a b/\P .sh (g a b)
 |_=>False
def sd{Z:Prop}{f:Int->Int->Prop}(h:match ds with|[PyData.int a,.int b]=>f a b|_=>False)(k:∀a b,ds=[.int a,.int b]->f a b->Z):Z:=by split at h;{exact k _ _ rfl h};exact h.elim
def kj{g:Int->Int->PyData}{gv:Int->Int->V}(hg:∀a b Hm,Rp K Hm (gv a b) (g a b)):cF K (mj g) (r2 (mU gv)):=by intro H Hm vs ds P Q s r h q;refine sd h λa b e p=>?_;subst e;obtain⟨x,y,rfl,h1,h2⟩:=eV r;cases h1;cases h2;exact⟨a,b,rfl,rfl,bN.sc q s p (hg a b Hm)⟩
def l6{g:Int->Int->PyData}{gv:Int->Int->V}(hg:∀a b Hm,Rp K Hm (gv a b) (g a b)):cF K (oq C g) (r2 (rI C gv)):=by intro H Hm vs ds P Q s r h q;refine sd h λa b e p=>?_;subst e;obtain⟨x,y,rfl,h1,h2⟩:=eV r;cases h1;cases h2;exact⟨a,b,rfl,rfl,p.1,bN.sc q s p.2 (hg a b Hm)⟩
inductive BJ(K:Frag) (x:V) (y:V)(H:Hp)(Q:VK):Prop
 |mk:∀l b xs zs,(x=.ref l)->(y=.ref b)->(cu K H l xs)->(cu K H b zs)->(xs.length+zs.length<=sizeLine)->(∀p,H p=none->Q (.ref p) (upd H p (.lst (xs++zs))))->BJ K x y H Q
noncomputable def EC (K:Frag):R2:=λx y H Q=>BJ K x y H Q
section
variable{X:Cx}
def Gq:bA X (binaryOp .Add) (EC X.K):=by
 intro pins s U H x y v u Q I rx ry h;obtain⟨l,b,xs,zs,rfl,rfl,hH,hB,hz,q⟩:=h;cases rx;cases ry;obtain⟨z,its,n,r,e⟩:=hH.get I;obtain⟨z2,its2,n2,r2,e2⟩:=hB.get I;have hl:=r.length;have hl2:=r2.length;refine PySem.P.add_list e e2 ?_ (by rw[O0,O0];lia);have ea:its.toArray++its2.toArray=(its++its2).toArray:=by simp
 rw[ea];exact⟨.ref _,_,I.HM (t':=s.toks) (r.append r2) (by rw[NU];lia),rfl,q _ I.fresh⟩
end
noncomputable def Ma (f:PyData->Prop):SA->Prop
 |[x]=>f x
 |_=>False
noncomputable def uX (f:PyData->PyData->Prop):SA->Prop
 |[x,y]=>f x y
 |_=>False
noncomputable def L4 (f:PyData->PyData->PyData->Prop):SA->Prop
 |[x,y,z]=>f x y z
 |_=>False
noncomputable def uR (d:PyData)(f:Int->Prop):Prop:=match d with
 |.int i=>f i
 |_=>False
def oQ(r:Rp K H x d)(h:uR d f):∃i,x=.int i/\f i:=by
 cases r with
 |int i=>exact⟨i,rfl,h⟩
 |_=>exact h.elim
def IU(r:av K H vs ds)(h:Ma f ds):∃x d,vs=[x]/\ds=[d]/\Rp K H x d/\f d:=by
 cases r with
 |nil=>exact h.elim
 |cons h1 r=>
  cases r with
  |nil=>exact⟨_,_,rfl,rfl,h1,h⟩
  |cons=>exact h.elim
def l5(r:av K H vs ds)(h:uX f ds):∃x y d e,vs=[x,y]/\ds=[d,e]/\Rp K H x d/\Rp K H y e/\f d e:=by
 cases r with
 |nil=>exact h.elim
 |cons h1 r=>
  cases r with
  |nil=>exact h.elim
  |cons h2 r=>
   cases r with
   |nil=>exact⟨_,_,_,_,rfl,rfl,h1,h2,h⟩
   |cons=>exact h.elim
def Ka(r:av K H vs ds)(h:L4 f ds):∃x y z d e d',vs=[x,y,z]/\ds=[d,e,d']/\Rp K H x d/\Rp K H y e/\Rp K H z d'/\f d e d':=by
 cases r with
 |nil=>exact h.elim
 |cons h1 r=>
  cases r with
  |nil=>exact h.elim
  |cons h2 r=>
   cases r with
   |nil=>exact h.elim
   |cons h3 r=>
    cases r with
    |nil=>exact⟨_,_,_,_,_,_,rfl,rfl,h1,h2,h3,h⟩
    |cons=>exact h.elim
noncomputable def bS:DR:=λds P=>uX (λx y=>match x,y with
 |.int a,.int b=>P .sh (.int (a+b))
 |.list a,.list b=>a.length+b.length<=sizeLine/\P (.ow false) (.list (a++b))
 |.tuple a,.tuple b=>(a≠[]/\a.length+b.length<=sizeLine)/\P .sh (.tuple (a++b))
 |.str a,.str b=>a.length+b.length<=sizeLine/\P .sh (.str (a++b))
 |_,_=>False) ds
noncomputable def zx (K:Frag):R2:=λx y H Q=>(((mU λi j=>.int (i+j)) x y H Q\/EC K x y H Q)\/Fi K x y H Q)\/∃i j,x=.str i/\y=.str j/\i.length+j.length<=sizeLine/\Q (.str (i++j)) H
def xH:bA X (binaryOp .Add) (zx X.K):=((JS.or Gq).or G8).or zp
def yu:cF K bS (r2 (zx K)):=by
 intro H Hm vs ds P Q s r h q;obtain⟨x,y,d,e,rfl,rfl,h1,h2,h⟩:=l5 r h;cases h1 with
 |int a=>
  cases h2 with
  |int b=>exact .inl (.inl (.inl ⟨_,_,rfl,rfl,bN.sc q s h (.int _)⟩))
  |_=>exact h.elim
 |lst a1 r1=>
  cases h2 with
  |lst a2 r2=>exact .inl (.inl (.inr ⟨_,_,_,_,rfl,rfl,cu.mono s a1,cu.mono s a2,by rw[r1.len,r2.len];exact h.1,λp hp=>bN.nl q s h.2 hp (r1.app r2)⟩))
  |_=>exact h.elim
 |@tup a xs ds1 a1 r1=>
  cases h2 with
  |@tup b ys ds2 a2 r2=>refine .inl (.inr ⟨_,_,_,_,rfl,rfl,aU.of (s _ _ a1),aU.of (s _ _ a2),λz=>h.1.1 ?_,by rw[r1.len,r2.len];exact h.1.2,λz=>?_,λ_ p hp=>bN.nt q s h.2 hp (r1.app r2)⟩);{subst z;cases r1;rfl};subst z;cases r2;have h:P .sh (.tuple (ds1++[])):=h.2;rw[OV]at h;exact bN.sc q s h (.tup a1 r1)
  |_=>exact h.elim
 |str a=>
  cases h2 with
  |str b=>exact .inr ⟨_,_,rfl,rfl,h.1,bN.sc q s h.2 (.str _)⟩
  |_=>exact h.elim
 |_=>exact h.elim
inductive CF(K:Frag) (x:V) (y:V)(H:Hp)(Q:VK):Prop
 |mk:∀l k xs,(x=.ref l)->(y=.int k)->(cu K H l xs)->(-(2^63)<=k)->(k<2^63)->(xs.length*k.toNat<=sizeLine)->(∀p,H p=none->Q (.ref p) (upd H p (.lst (List.replicate k.toNat xs).flatten)))->CF K x y H Q
noncomputable def EG (K:Frag):R2:=λx y H Q=>CF K x y H Q
section
variable{X:Cx}
open PyProof.Rows in
def GC:bA X (binaryOp .Mult) (EG X.K):=by
 intro pins s U H x y v u Q I rx ry h;obtain⟨l,k,xs,rfl,rfl,hH,h1,h2,hz,q⟩:=h;cases rx;obtain⟨t,rfl⟩:=ry;obtain⟨z,its,n,r,e⟩:=hH.get I;have hl:=r.length;have hlen:its.toArray.size*k.toNat<=sizeLine:=by rw[O0,<-hl];exact hz
 have hcap:¬its.toArray.size*k.toNat>(2^63-1)/8:=by
  have:(sizeLine:Nat)<=(2^63-1)/8:=by decide
  lia
 have hfit:¬(!Builtin.List.listFitsIndex k)=true:=by rw[fitsIndex_both h1 h2];exact O9
 have hlong:¬Builtin.List.listTooLong (its.toArray.size*k.toNat)=true:=by rw[qt hlen];exact O9
 have hnew:List.foldl (λx1 x2=>x1++x2) #[] (List.replicate (if its.toArray.isEmpty=true then 0 else k.toNat) its.toArray)=(List.replicate k.toNat its).flatten.toArray:=by
  have f0:∀m:Nat,List.foldl (λx1 x2=>x1++x2) #[] (List.replicate m its.toArray)=(List.replicate m its).flatten.toArray:=λm=>by have:=foldl_rep its m [];rw[List.nil_append]at this;exact this
  rw[f0];cases its with
  |nil=>simp
  |cons a r'=>rw[if_neg (by simp)]
 refine wpAny_binaryOp_repeat_ref (T:="list") (U:="int") (by decide) ⟨_,e,rfl⟩ (λs'=>typeIs_int s' k t) noFill_list_mul F.fills_int_mul F.slot_int_rmul repeat_list F.slot_int_index.lookup
  (Pd F.slot_int_rmul (typeIs_int s k t) F.entry_int_rmul (F.args_int_rmul_2 _ _) (int___rmul___int_list k t l its.toArray n)
   ⟨e,rfl,⟨_,e,rfl⟩,Pd F.slot_list_mul ⟨_,e,rfl⟩ F.entry_list_mul (F.args_list_mul_2 _ _) (AutoListH.list___mul___list_int_3 l its.toArray n k t hfit hcap hlong) ⟨e,?_⟩⟩)
 rw[hnew];exact⟨.ref _,_,I.HM (t':=s.toks) (r.rep k.toNat) (by rw[len_rep,Nat.mul_comm];exact hz),rfl,q _ I.fresh⟩
end
theorem av.rep(r:av K H xs ds):∀n:Nat,av K H (List.replicate n xs).flatten (List.replicate n ds).flatten
 |0=>.nil
 |n+1=>by rw[P9,P9,Pc,Pc];exact r.app (r.rep n)
noncomputable def jq:DR:=λds P=>match ds with
 |[.int a,.int b]=>sC a b/\P .sh (.int (a*b))
 |[.list a,.int k]=>(-(2^63)<=k/\k<2^63/\a.length*k.toNat<=sizeLine)/\P (.ow false) (.list (List.replicate k.toNat a).flatten)
 |_=>False
noncomputable def ED (K:Frag):R2:=λx y H Q=>(rI sC λi j=>.int (i*j)) x y H Q\/EG K x y H Q
def GS:bA X (binaryOp .Mult) (ED X.K):=Kp.or GC
def GX:cF K jq (r2 (ED K)):=by
 intro H Hm vs ds P Q s r h q;unfold jq at h;split at h;{obtain⟨x,y,rfl,h1,h2⟩:=eV r;cases h1;cases h2;exact .inl ⟨_,_,rfl,rfl,h.1,bN.sc q s h.2 (.int _)⟩}
 .obtain⟨x,y,rfl,h1,h2⟩:=eV r;cases h2;cases h1 with
  |lst a1 r1=>exact .inr ⟨_,_,_,rfl,rfl,cu.mono s a1,h.1.1,h.1.2.1,by rw[r1.len];exact h.1.2.2,λp hp=>bN.nl q s h.2 hp (r1.rep _)⟩
 exact h.elim
end Dv
namespace L2
open PySem PySem.Spec PyProof.Rows
section
variable{prog:Program}{w:World}{A:Around}{E:Ro}{s:Shared}
def ug{t sl:Addr}{items:Rz}{vl vu:Value}{lo hi:Option Int}{Q:Ro}(ht:IsTup s.heap t items)(hs:s.heap.IsSliceOf sl vl vu .none)(pl:IsPart vl lo)(pu:IsPart vu hi)(w0:HT.aO items.size 0 lo=0)(w1:HT.aO items.size items.size hi=items.size)(h:Q (.ref t) s):wpAny (model prog w) A (getItem (.ref t) (.ref sl)) Q E s:=by
 obtain⟨os,hos,hcs,hds⟩:=id hs;have hTs:s.TypeIs (.ref sl) "slice":=⟨os,hos,hcs⟩;unfold getItem;refine Oz (?_:_);refine N1 (wpAny_sequenceKey ht.typeIs (by decide) (?_:_));refine N1 (PF (name:=Str.ofString "__getitem__") ht.typeIs QW
  (P0 QW ht.typeIs entry_tuple_getitem (?_:_) (args_tuple_getitem _ _)))
 refine id (?_:wpAny _ _ (Builtin.Tuple.tupleItemsOf (.ref t)>>=_) _ _ s);refine N1 (tupleItemsOf_ ht (?_:_));refine N1 (QX hTs (?_:_));rw[if_pos (by decide)];refine N1 (HT.jW hs pl pu (?_:_));have yes:(((HT.aO items.size 0 lo:Nat):Int)==0&&(1:Int)==1&&(HT.aO items.size items.size hi-HT.aO items.size 0 lo)==items.size)=true:=by rw[w0,w1,Nat.sub_zero];simp
 refine id (?_:wpAny _ _ (if(((HT.aO items.size 0 lo:Nat):Int)==0&&(1:Int)==1&&(HT.aO items.size items.size hi-HT.aO items.size 0 lo)==items.size)=true then _ else _) _ _ s);rw[if_pos yes];refine N1 (m:=Builtin.Tuple.tupleIsExact _) (N1 (QX ht.typeIs (N4 (?_:_))));rw[if_pos (by decide)];refine N1 (Oe (?_:_));exact N4 ⟨_,rfl,N4 h⟩
end
section
variable{X:Cx}
noncomputable def Ek (K:Rx):V->Option Int->Option Int->Hp->VK->Prop:=λx lo hi H Q=>∃a xs,x=.ref a/\aU K H a xs /\
 (HT.aO xs.length 0 lo=0/\HT.aO xs.length xs.length hi=xs.length->Q (.ref a) H)/\(¬(HT.aO xs.length 0 lo=0/\HT.aO xs.length xs.length hi=xs.length)->∀p,H p=none->Q (.ref p) (upd H p (.tup (mD xs lo hi))))
def GW:AL X (Ek X.K):=by
 intro pins s U H x v vl vu lo hi sl Q I rx hs pl pu h;obtain⟨a,xs,rfl,hx,q1,q2⟩:=h;by_cases c:HT.aO xs.length 0 lo=0/\HT.aO xs.length xs.length hi=xs.length
 .cases rx;obtain⟨its,r,ht,hz⟩:=I.tuple hx;have hlen:its.toArray.size=xs.length:=by rw[O0];exact r.length.symm
  refine⟨"tuple",_,Rk,ht.typeIs,?_⟩;exact ug ht hs pl pu (by rw[hlen];exact c.1) (by rw[hlen];exact c.2) ⟨.ref a,H,I,rfl,q1 c⟩
 exact J9 pins s U H (.ref a) v vl vu lo hi sl Q I rx hs pl pu ⟨a,xs,rfl,hx,c,q2 c⟩
end
end L2
namespace Dv
open PySem L2 PySem.W
noncomputable def dl:Nat->PyData->Bool
 |_,.none=>true
 |_,.int _=>true
 |_,.str x=>PyData.strOk x
 |n+1,.list ds=>ds.all (dl n)
 |n+1,.tuple ds=>ds.all (dl n)
 |_,_=>false
theorem jM:∀{ds:SA},(∀d∈ds,d.canLay0=true)->PyData.canLayAll0 ds=true
 |[],_=>rfl
 |d::ds,h=>by rw[PyData.canLayAll0,h d N6,jM λe he=>h e (NX _ he)];rfl
theorem nZ{n:Nat}:∀{ds:SA},(∀d∈ds,d.depth<=n)->PyData.depthAll ds<=n
 |[],_=>by rw[PyData.depthAll];exact ON _
 |d::ds,h=>by rw[PyData.depthAll];exact Nat.max_le.mpr ⟨h d N6,nZ λe he=>h e (NX _ he)⟩
theorem eU:∀{n:Nat}{d:PyData},dl n d=true->d.canLay0=true/\d.depth<=n
 |_,.none,_=>⟨rfl,ON _⟩
 |_,.int _,_=>⟨rfl,ON _⟩
 |n,.str x,h=>⟨by cases n<;>exact h,ON _⟩
 |n+1,.list ds,h=>by have h:ds.all (dl n)=true:=h;rw[N7]at h;refine⟨by rw[PyData.canLay0];exact jM λd hd=>(eU (h d hd)).1,?_⟩;rw[PyData.depth];have:=nZ (n:=n) (ds:=ds) λd hd=>(eU (h d hd)).2;lia
 |n+1,.tuple ds,h=>by have h:ds.all (dl n)=true:=h;rw[N7]at h;refine⟨by rw[PyData.canLay0];exact jM λd hd=>(eU (h d hd)).1,?_⟩;rw[PyData.depth];have:=nZ (n:=n) (ds:=ds) λd hd=>(eU (h d hd)).2;lia
 |0,.list _,h=>by cases h
 |0,.tuple _,h=>by cases h
 |n,.bool _,h=>by cases n<;>cases h
 |n,.dict _,h=>by cases n<;>cases h
theorem lV:∀{ds:SA},(∀d∈ds,nd d=true)->nd.nds ds=true
 |[],_=>rfl
 |d::ds,h=>by rw[nd.nds,h d N6,lV λe he=>h e (NX _ he)];rfl
theorem i8:∀{n:Nat}{d:PyData},dl n d=true->nd d=true
 |_,.none,_=>rfl
 |_,.int _,_=>rfl
 |_,.str _,_=>rfl
 |_,.bool _,_=>rfl
 |n+1,.list ds,h=>by have h:ds.all (dl n)=true:=h;rw[N7]at h;rw[nd];exact lV λd hd=>i8 (h d hd)
 |n+1,.tuple ds,h=>by have h:ds.all (dl n)=true:=h;rw[N7]at h;rw[nd];exact lV λd hd=>i8 (h d hd)
 |0,.list _,h=>by cases h
 |0,.tuple _,h=>by cases h
 |n,.dict _,h=>by cases n<;>cases h
theorem nH(hf:∀a b,f a=true->f b=true->SeqAt.noMix a b=true):∀{xs ys:SA},xs.all f=true->ys.all f=true->SeqAt.noMixAll xs ys=true
 |[],[],_,_=>rfl
 |[],_::_,_,_=>rfl
 |_::_,[],_,_=>rfl
 |x::xs,y::ys,h1,h2=>by rw[NW,N9]at h1 h2;rw[SeqAt.noMixAll,hf x y h1.1 h2.1,nH hf h1.2 h2.2];rfl
def BW:∀(n:Nat)(a b:PyData),dl n a=true->dl n b=true->SeqAt.noMix a b=true:=by
 intro n;induction n with
 |zero=>intro a b ha hb;cases a<;>first|(cases ha;done)|(cases b<;>first|(cases hb;done)|rfl)
 |succ n ih=>
  intro a b ha hb;cases a with
  |list xs=>
   cases b with
   |list ys=>rw[SeqAt.noMix];exact nH ih ha hb
   |dict _=>cases hb
   |bool _=>cases hb
   |_=>rfl
  |tuple xs=>
   cases b with
   |tuple ys=>rw[SeqAt.noMix];exact nH ih ha hb
   |dict _=>cases hb
   |bool _=>cases hb
   |_=>rfl
  |dict _=>cases ha
  |bool _=>cases ha
  |_=>cases b<;>first|(cases hb;done)|rfl
def vH{n:Nat}(ha:dl n a=true)(hb:dl n b=true):PyData.eqv a b=decide (a=b):=by rw[<-SeqAt.same_eq_eqv a b (BW n a b ha hb),Ov,PyProof.Rows.same_iff,Oo]
def sR{n:Nat}(h:dl n d=true)(l:n<=60):SeqAt.shaped d=true:=by obtain⟨h1,h2⟩:=eU h;unfold SeqAt.shaped;rw[h1,Pw (NZ h2 (by lia))];rfl
noncomputable def Eu (a b:PyData)(P:Bool->Prop):Prop:=match a,b with
 |.int a,.int b=>P (decide (a=b))
 |.str a,.str b=>P (decide (a=b))
 |.bool a,.bool b=>P (decide (a=b))
 |.none,.none=>P true
 |a,b=>(dl 8 a=true/\dl 8 b=true)/\P (decide (a=b))
noncomputable def cV:DR:=λds P=>match ds with
 |[a,b]=>Eu a b λc=>P .sh (.bool c)
 |_=>False
noncomputable def iy:DR:=λds P=>match ds with
 |[a,b]=>Eu a b λc=>P .sh (.bool !c)
 |_=>False
noncomputable def qf (K:Frag)(neg:Bool):R2:=λx y H Q=>DG K neg x y H Q\/(if neg then Mh x y H Q else L5 x y H Q)
section
variable{X:Cx}
def CM(hu:X.A.units+64<cLine):bA X (compareOp .Eq) (qf X.K false):=(JK hu).or (LQ (X:=X))
def CL(hu:X.A.units+64<cLine):bA X (compareOp .NotEq) (qf X.K true):=(IM hu).or (LF (X:=X))
end
def AW(neg:Bool)(s:ah Hm H)(h1:Rp K Hm x a)(h2:Rp K Hm y b)(h:Eu a b Pb)(q:∀c,Pb c->Q (.bl (if neg then !c else c)) H):qf K neg x y H Q:=by
 have gen:dl 8 a=true/\dl 8 b=true->Pb (decide (a=b))->qf K neg x y H Q:=λhd p=>by
  refine .inl ⟨a,b,(h1.mono s).oZ (i8 hd.1),(h2.mono s).oZ (i8 hd.2),sR hd.1 (by decide),sR hd.2 (by decide),BW 8 a b hd.1 hd.2,?_⟩;have e:Spec.same a b=decide (a=b):=by rw[Ov,PyProof.Rows.same_iff,Oo]
  rw[e];exact q _ p
 have sc:DV x y=true->Pb (decide (x=y))->qf K neg x y H Q:=λhs p=>by
  refine .inr ?_;cases neg with
  |true=>exact⟨hs,q _ p⟩
  |false=>exact⟨hs,q _ p⟩
 unfold Eu at h;split at h;{cases h1;cases h2;refine sc rfl ?_;simpa using h};{cases h1;cases h2;refine sc rfl ?_;simpa using h};{cases h1;cases h2;refine sc rfl ?_;simpa using h};{cases h1;cases h2;exact gen ⟨rfl,rfl⟩ (by simpa using h)};exact gen h.1 h.2
def Cf:cF K cV (r2 (qf K false)):=by intro H Hm vs ds P Q s r h q;unfold cV at h;split at h;{obtain⟨x,y,rfl,h1,h2⟩:=eV r;exact AW false s h1 h2 h λc p=>bN.sc q s p (.bl _)};exact h.elim
def CJ:cF K iy (r2 (qf K true)):=by intro H Hm vs ds P Q s r h q;unfold iy at h;split at h;{obtain⟨x,y,rfl,h1,h2⟩:=eV r;exact AW true s h1 h2 h λc p=>bN.sc q s p (.bl _)};exact h.elim
noncomputable def eu (neg:Bool):DR:=λds P=>match ds with
 |[a,.none]=>P .sh (.bool (if neg then !decide (a=.none)else decide (a=.none)))
 |_=>False
def G6(h:Rp K H x d):decide (x=.bq)=decide (d=.none):=by cases h<;>simp
def GU:cF K (eu false) (r2 λx y H Q=>y=.bq/\Q (.bl (decide (x=.bq))) H):=by intro H Hm vs ds P Q s r h q;unfold eu at h;split at h;{obtain⟨x,y,rfl,h1,h2⟩:=eV r;cases h2;refine⟨rfl,?_⟩;rw[G6 h1];exact bN.sc q s h (.bl _)};exact h.elim
noncomputable def FE (neg:Bool):DR:=λds P=>match ds with
 |[d,.list xs]=>(xs.all (dl 8)=true/\dl 8 d=true)/\P .sh (.bool (if neg then !decide (d∈xs)else decide (d∈xs)))
 |[d,.tuple xs]=>(xs.all (dl 8)=true/\dl 8 d=true)/\P .sh (.bool (if neg then !decide (d∈xs)else decide (d∈xs)))
 |_=>False
inductive Ey(K:Frag)(neg:Bool) (x:V) (y:V)(H:Hp)(Q:VK):Prop
 |mk:∀(d:PyData)(xs:SA),(jC K H x d)->((jC K H y (.list xs)\/jC K H y (.tuple xs)))->(PyData.canLayAll0 xs=true)->(d.canLay0=true)->(d.depth<=60)->(Q (.bl (if neg then !xs.any λy=>PyData.eqv y d else xs.any λy=>PyData.eqv y d)) H)->Ey K neg x y H Q
noncomputable def zU (K:Frag)(neg:Bool):R2:=λx y H Q=>Ey K neg x y H Q
section
variable{X:Cx}
def J1(hu:X.A.units+64<cLine):bA X (compareOp .In) (zU X.K false):=by intro pins s U H x y v u Q I rx ry h;obtain⟨d,xs,hx,hy,l1,l2,dp,q⟩:=h;obtain⟨bs,rb⟩:=I.reads hx rx;rcases hy with hy|hy;{obtain⟨as,ra⟩:=I.reads hy ry;exact SeqAt.in_list_reads ra rb l1 l2 (by lia) ⟨.bl _,H,I,rfl,q⟩};obtain⟨as,ra⟩:=I.reads hy ry;exact SeqAt.in_tuple_reads ra rb l1 l2 (by lia) ⟨.bl _,H,I,rfl,q⟩
def Cc(hu:X.A.units+64<cLine):bA X (compareOp .NotIn) (zU X.K true):=by intro pins s U H x y v u Q I rx ry h;obtain⟨d,xs,hx,hy,l1,l2,dp,q⟩:=h;obtain⟨bs,rb⟩:=I.reads hx rx;rcases hy with hy|hy;{obtain⟨as,ra⟩:=I.reads hy ry;exact SeqAt.notIn_list_reads ra rb l1 l2 (by lia) ⟨.bl _,H,I,rfl,q⟩};obtain⟨as,ra⟩:=I.reads hy ry;exact SeqAt.notIn_tuple_reads ra rb l1 l2 (by lia) ⟨.bl _,H,I,rfl,q⟩
end
def yM{n:Nat}{xs:SA}(h:xs.all (dl n)=true)(hd:dl n d=true):(xs.any λy=>PyData.eqv y d)=decide (d∈xs):=by rw[Ov,List.any_eq_true,Oo];rw[N7]at h;constructor;{rintro⟨y,hy,e⟩;rw[vH (h y hy) hd,Oo]at e;exact e▸hy};intro m;exact⟨d,m,by rw[vH hd hd];simp⟩
def Hs{K:Frag}(neg:Bool):cF K (FE neg) (r2 (zU K neg)):=by intro H Hm vs ds P Q s r h q;unfold FE at h;split at h;{rename_i d xs;obtain⟨x,y,rfl,h1,h2⟩:=eV r;obtain⟨⟨ha,hd⟩,p⟩:=h;refine⟨d,xs,(h1.mono s).oZ (i8 hd),.inl ((h2.mono s).oZ (by rw[nd];exact lV λd hd=>i8 (N7.mp ha d hd))),jM λe he=>(eU (N7.mp ha e he)).1,(eU hd).1,NZ (eU hd).2 (by decide),?_⟩;rw[yM ha hd];exact bN.sc q s p (.bl _)};{rename_i d xs;obtain⟨x,y,rfl,h1,h2⟩:=eV r;obtain⟨⟨ha,hd⟩,p⟩:=h;refine⟨d,xs,(h1.mono s).oZ (i8 hd),.inr ((h2.mono s).oZ (by rw[nd];exact lV λd hd=>i8 (N7.mp ha d hd))),jM λe he=>(eU (N7.mp ha e he)).1,(eU hd).1,NZ (eU hd).2 (by decide),?_⟩;rw[yM ha hd];exact bN.sc q s p (.bl _)};exact h.elim
noncomputable def Em:DR:=λds P=>match ds with
 |[.list xs,.int i]=>∃d,cR xs i=some d/\P .sh d
 |[.tuple xs,.int i]=>∃d,cR xs i=some d/\P .sh d
 |_=>False
theorem av.cR(r:av K H vs ds){i:Int}(h:L2.cR ds i=some d):∃v,L2.cR vs i=some v/\Rp K H v d:=by
 unfold L2.cR at h⊢;rw[r.len];cases e:mZ ds.length i with
 |none=>rw[e]at h;cases h
 |some j=>rw[e]at h;exact r.get h
def Jz:cF K Em (r2 (Kn K)):=by
 intro H Hm vs ds P Q s r h q;unfold Em at h;split at h
 .obtain⟨x,y,rfl,h1,h2⟩:=eV r;obtain⟨d,e,p⟩:=h;cases h2;cases h1 with
  |lst a1 r1=>obtain⟨v,e2,rv⟩:=r1.cR e;exact .inl ⟨_,_,_,v,rfl,rfl,(cu.mono s a1).sq,e2,bN.sc q s p rv⟩
 .obtain⟨x,y,rfl,h1,h2⟩:=eV r;obtain⟨d,e,p⟩:=h;cases h2;cases h1 with
  |tup a1 r1=>obtain⟨v,e2,rv⟩:=r1.cR e;exact .inr (.inl ⟨_,_,_,v,rfl,rfl,aU.of (s _ _ a1),e2,bN.sc q s p rv⟩)
 exact h.elim
noncomputable def cutD (xs:SA)(lo hi:Option Int):SA:=(xs.drop (HT.aO xs.length 0 lo)).take (HT.aO xs.length xs.length hi-HT.aO xs.length 0 lo)
def av.cut(r:av K H vs ds)(lo hi:Option Int):av K H (mD vs lo hi) (cutD ds lo hi):=by unfold mD cutD;rw[r.len];exact(r.drop _).take _
noncomputable def Co (d:PyData)(lo hi:Option Int)(P:Kd->PyData->Prop):Prop:=match d with
 |.list xs=>P (.ow false) (.list (cutD xs lo hi))
 |.tuple xs=>P .sh (.tuple (cutD xs lo hi))
 |_=>False
noncomputable def fD (bl bh:Bool):DR:=λds P=>match bl,bh with
 |false,false=>Ma (λd=>Co d none none P) ds
 |true,false=>uX (λd e=>uR e λa=>Co d (some a) none P) ds
 |false,true=>uX (λd e=>uR e λb=>Co d none (some b) P) ds
 |true,true=>L4 (λd e e'=>uR e λa=>uR e' λb=>Co d (some a) (some b) P) ds
noncomputable def rW (K:Frag):V->Option Int->Option Int->Hp->VK->Prop:=λx lo hi H Q=>Hx K x lo hi H Q\/Ek K x lo hi H Q
def D8:AL X (rW X.K):=λpins s U H x v vl vu lo hi sl Q I rx hs pl pu h=>h.elim (FU pins s U H x v vl vu lo hi sl Q I rx hs pl pu) (GW pins s U H x v vl vu lo hi sl Q I rx hs pl pu)
noncomputable def AQ (bl bh:Bool)(K:Frag):List V->Hp->VK->Prop:=λvs H Q=>match bl,bh,vs with
 |false,false,[x]=>rW K x none none H Q
 |true,false,[x,a]=>∃i,a=.int i/\rW K x (some i) none H Q
 |false,true,[x,b]=>∃i,b=.int i/\rW K x none (some i) H Q
 |true,true,[x,a,b]=>∃i,a=.int i/\∃j,b=.int j/\rW K x (some i) (some j) H Q
 |_,_,_=>False
def zg(h:HT.aO xs.length 0 lo=0/\HT.aO xs.length xs.length hi=xs.length):cutD xs lo hi=xs:=by unfold cutD;rw[h.1,h.2,Qc,Nat.sub_zero,P4]
def qG(q:bN K H Hm P Q)(s:ah Hm H)(h1:Rp K Hm x d)(h:Co d lo hi P):rW K x lo hi H Q:=by
 cases h1 with
 |lst a1 r1=>exact .inl ⟨_,_,rfl,(cu.mono s a1).sq,λp hp=>bN.nl q s h hp (r1.cut lo hi)⟩
 |tup a1 r1=>refine .inr ⟨_,_,rfl,aU.of (s _ _ a1),λw=>?_,λ_ p hp=>bN.nt q s h hp (r1.cut lo hi)⟩;rw[r1.len]at w;have h:P .sh (.tuple (cutD _ lo hi)):=h;rw[zg w]at h;exact bN.sc q s h (.tup a1 r1)
 |_=>exact h.elim
def vC(bl bh:Bool):cF K (fD bl bh) (AQ bl bh K):=by
 intro H Hm vs ds P Q s r h q;cases bl with
 |false=>
  cases bh with
  |false=>obtain⟨x,d,rfl,rfl,h1,h⟩:=IU r h;exact qG q s h1 h
  |true=>obtain⟨x,y,d,e,rfl,rfl,h1,h2,h⟩:=l5 r h;obtain⟨i,rfl,h⟩:=oQ h2 h;exact⟨_,rfl,qG q s h1 h⟩
 |true=>
  cases bh with
  |false=>obtain⟨x,y,d,e,rfl,rfl,h1,h2,h⟩:=l5 r h;obtain⟨i,rfl,h⟩:=oQ h2 h;exact⟨_,rfl,qG q s h1 h⟩
  |true=>obtain⟨x,y,z,d,e,e',rfl,rfl,h1,h2,h3,h⟩:=Ka r h;obtain⟨i,rfl,h⟩:=oQ h2 h;obtain⟨j,rfl,h⟩:=oQ h3 h;exact⟨_,rfl,_,rfl,qG q s h1 h⟩
section
variable{X:Cx}{Ex:XK}{Y:SN}{a l u:Expr}{pos p2:Pos}{as:List Arg}
def qC(S:aM X Ex Y [a,l] as):SE X Ex Y (.Subscript a (.Slice (some l) none none p2) pos) (aa (fD true false) as):=fP (r:=AQ true false X.K) S (λU H Q h=>WE.of (vF D8 bC (yS bC) xD) h) (vC _ _)
def jO(S:aM X Ex Y [a,u] as):SE X Ex Y (.Subscript a (.Slice none (some u) none p2) pos) (aa (fD false true) as):=fP (r:=AQ false true X.K) S (λU H Q h=>WE.of (vF D8 bC xD (yS bC)) h) (vC _ _)
open PyProof.Rows in
def Ko(h:nV X [a,l,u] U H λvs H1=>AQ true true X.K vs H1 Q):WE X (.Subscript a (.Slice (some l) (some u) none p2) pos) U H Q:=by intro pins s I;refine Subscript_ (aQ (h pins s I) λv s1 ⟨x,H1,I1,r1,q1⟩=>?_);refine wpAny_Slice ?_;rw[evalPart_some];refine aQ (q1 pins s1 I1) λvl s2 ⟨y,H2,I2,pl,q2⟩=>?_;rw[evalPart_some];refine aQ (q2 pins s2 I2) λvu s3 ⟨z,H3,I3,pu,q3⟩=>?_;obtain⟨i,rfl,j,rfl,q3⟩:=q3;obtain⟨t1,rfl⟩:=pl;obtain⟨t2,rfl⟩:=pu;rw[evalPart_none];refine N4 ?_;have I4:Inv X pins U H3 { s3 with heap:=s3.heap.push { cls:=.type "slice",data:=.fields #[.int i t1,.int j t2,.none] } }:=I3.kept (t':=s3.toks) λb ob q=>O1 _ q;obtain⟨T,id,hT,ht,hg⟩:=D8 pins { s3 with heap:=s3.heap.push { cls:=.type "slice",data:=.fields #[.int i t1,.int j t2,.none] } } U H3 x v (.int i t1) (.int j t2) (some i) (some j) s3.heap.objs.size Q I4 r1 (Heap.IsSliceOf.new ..) (.int i t1) (.int j t2) q3;show wpAny (model X.prog X.w) X.A (subscriptTail a (.Slice (some l) (some u) none p2) v (.ref s3.heap.objs.size)) (EP X pins U Q) X.xe { s3 with heap:=s3.heap.push { cls:=.type "slice",data:=.fields #[.int i t1,.int j t2,.none] } };exact tail_any (ops:=[.ref s3.heap.objs.size,v]) ht hT hg (by with_unfolding_all rfl)
def Iw(S:aM X Ex Y [a,l,u] as):SE X Ex Y (.Subscript a (.Slice (some l) (some u) none p2) pos) (aa (fD true true) as):=fP (r:=AQ true true X.K) S (λU H Q h=>Ko h) (vC _ _)
end
end Dv
namespace L2
open PySem PySem.Spec PyProof.Rows
section
variable{X:Cx}
def xu:cJ X (.type "range") (λxs H Q=>∃j:Int,xs=[.int j]/\∀p,H p=none->Q (.ref p) (upd H p (.pK 0 j))):=by intro pins s U H xs us Q I r h;obtain⟨j,rfl,q⟩:=h;obtain⟨u,rfl,ru⟩:=vals1 r;obtain⟨t,rfl⟩:=ru;refine call_range_1 (?_:_);exact⟨.ref s.heap.objs.size,_,I.laid (o:=.pK 0 j) (λb o e=>O1 _ e) (N5 _) ⟨_,_,_,OC _ rfl⟩,rfl,q _ (I.hok.fresh (N5 _))⟩
def z0(hc:X.calm=true):cJ X (.type "list") (λxs H Q=>∃(a:Addr) (j:Int),xs=[.ref a]/\H a=some (.pK 0 j)/\0<=j/\j<=1000/\∀l,H l=none->Q (.ref l) (upd H l (.lst (((List.range j.toNat).map λi:Nat=>(i:Int)).map V.int)))):=by
 intro pins s U H xs us Q I r h;obtain⟨a,j,rfl,ha,j0,j1,q⟩:=h;obtain⟨u,rfl,ru⟩:=vals1 r;cases ru;obtain⟨t,u,v,e⟩:=I.hok a _ ha;refine call_list_range (n:=j.toNat) (I.ok.hd hc) e (small_one (by decide) (by decide) (by lia) (by lia)) (by rw[rangeSize_one];split<;>lia) (by lia) λh' tk acc c kp hS its=>?_;obtain⟨z1,z2⟩:=its;have rv:Vals (((List.range j.toNat).map λi:Nat=>(i:Int)).map V.int) acc.toList:=by
  have go:∀(l:SG) (k:Nat),(∀(i:Nat)(v:Value),l[i]?=some v->∃t:Tok,v=Value.int ((k+i:Nat):Int) t)->Vals (((List.range' k l.length).map λi:Nat=>(i:Int)).map V.int) l:=λl=>by
   induction l with
   |nil=>exact λk _=>.nil
   |cons x l ih=>intro k h;obtain⟨t,e⟩:=h 0 x rfl;refine .cons ⟨t,by simpa using e⟩ (ih (k+1) λi v hv=>?_);obtain⟨t,e⟩:=h (i+1) v hv;exact⟨t,by rw[e,Nat.add_assoc,Nat.add_comm 1 i]⟩
  have:=go acc.toList 0 λi v hv=>by obtain⟨t,e⟩:=z2 i v (by simpa using hv);exact⟨t,by rw[e];simp⟩
  rw[List.range_eq_range'];simpa[z1]using this
 exact⟨.ref s.heap.objs.size,_,I.laid (t':=tk) kp (N5 _) (o:=.lst _) ⟨by rw[NS,NS,O3];exact NZ (show j.toNat<=1000 by lia) (by decide),acc.toList,c,rv,by simpa using hS⟩,rfl,q _ (I.hok.fresh (N5 _))⟩
end
end L2
namespace Dv
open PySem L2 PySem.W
section
variable{X:Cx}{Ex:XK}{Y:SN}
def zo(h:PE X e (tC u))(r:∀Hm,Rp X.K Hm u v):SE X Ex Y e (dC v):=λg x E U H Hm F P Q hx R p q=>WE.of h (q _ _ _ _ _ _ _ [] p R (ah.refl _) (Tm.sh (r Hm)))
def IW{i j:Nat}(h:PE X e (mJ j))(hj:Y[j]?=some i):SE X Ex Y e (aV i):=by
 intro g x E U H Hm F P Q hx R p q;replace p:CI E i P:=p;unfold CI at p;split at p
 rotate_left
 .exact p.elim
 rename_i k d e1;rw[<-aY,yy]at p;obtain⟨E',e2,p⟩:=p;obtain⟨v,Hm',F',h1,s,R',r⟩:=R.cY e1 e2;exact WE.of h ⟨v,fN hj h1,q _ _ _ _ _ _ _ [] p R' s (Tm.sh r)⟩
noncomputable def aS (X:Cx)(Ex:XK)(Y:SN)(e:Expr)(d:DE):Prop:=
 ∀(g:Gh)(x:XC)(E:En)(U:St)(H Hm:Hp)(F:Nat->SH)(P:En->Kd->PyData->Prop)(Q:Bool->Hp->Prop),XL X Ex x g->Rl X.K g E U H Hm F->d x E P->
  (∀E' k v H' Hm' F',P E' k v->Rl X.K g E' U H' Hm' F'->ah Hm Hm'->∃b,kN v=some b/\Q b H')->WT X e (sel Y U) H Q
def aS.st{e:Expr}{d:DE}(h:aS X Ex Y e d):ST X Ex Y e (aR d):=by rw[GY];exact λg x E U H Hm F P Q hx R p q=>h g x E U H Hm F _ Q hx R p λE' k v H' Hm' F' ⟨b,e1,p⟩ R' s=>⟨b,e1,q _ _ _ _ _ p R' s⟩
theorem Rp.kN{b:Bool}(r:Rp K H u v)(h:Dv.kN v=some b):rL K u H b:=by
 cases r with
 |bq=>cases h;rfl
 |bl c=>cases h;rfl
 |int i=>cases h;show(!decide (i=0))=(i != 0);rw[bne,Bool.beq_eq_decide_eq]
 |str _=>cases h
 |lst a r1=>cases h;refine .inl ⟨_,a.sq,?_⟩;cases r1<;>rfl
 |tup a r1=>cases h;refine .inr (.inl ⟨_,aU.of a,?_⟩);cases r1<;>rfl
 |dk _ _=>cases h
 |dt _ _=>cases h
 |exc _ _=>cases h
theorem Own.kN{b:Bool}(o:Own K H Hm k u v fp)(s:ah Hm H)(h:Dv.kN v=some b):rL K u H b:=by by_cases hk:k.rd=true;{exact(o.rp (Hm':=H) hk s λ_ _=>rfl).kN h};cases o<;>first|exact absurd rfl hk|cases h
def SE.lI(h:SE X Ex Y e d)(he:∀whole,isTrue e X.env whole=(do let v <-whole;standAt e.pos;holding [v] (truthy v))):aS X Ex Y e d:=by intro g x E U H Hm F P Q hx R p q;refine WT.of (vd bC he) (h g x E U H Hm F P _ hx R p λE' k v u H' Hm' F' fp p' R' s T=>?_);obtain⟨b,e1,q'⟩:=q _ _ _ _ _ _ p' R' s;exact⟨b,T.own.kN R'.sub e1,q'⟩
def IP(ho:bA X (compareOp op) r)(hm:behindInMarks op b=false)(h:nV X [a,b] U H λvs H1=>r2 r vs H1 λx H'=>∃k,rL X.K x H' k/\Q k H'):WT X (.Compare a [op] [b] pos) U H Q:=by intro pins s I;refine wpAny_isTrue_Compare1 (aQ (h pins s I) λv s1 ⟨x,H1,I1,r1,q1⟩=>aQ (q1 pins s1 I1) λu s2 ⟨y,H2,I2,r2,q2⟩=>aQ (ho pins s2 U H2 x y v u _ I2 r1 r2 q2) λc s3 ⟨z,H3,I3,r3,q3⟩=>?_) hm;exact Ci pins s3 U H3 z c Q I3 r3 q3
def JM(S:aM X Ex Y es as)(hr:∀U H (Q:Bool->Hp->Prop),nV X es U H (λvs H1=>r vs H1 λx H'=>∃k,rL X.K x H' k/\Q k H')->WT X e U H Q)(D:cF X.K f r):aS X Ex Y e (aa f as):=by
 intro g x E U H Hm F P Q hx R h q;refine hr _ _ _ (jj hx S R h λE1 os vs H1 Hm1 F1 p R1 s1 G=>?_);replace p:uQ f as E1 os P:=p;unfold uQ at p;rw[<-aY,dR]at p;obtain⟨ds,hf,hg⟩:=p;have off:∀a∈(cK as).flatMap F1,Hm1 a=none:=λa ha=>by obtain⟨i,_,h⟩:=OG.mp ha;exact R1.off i a h
 have up:=gO (Hm:=Hm1) (H:=H1) off;refine D H1 (lend Hm1 H1 ((cK as).flatMap F1)) vs ds _ _ (iS R1.sub) (lJ R1 up G hf λi hi a ha=>eo (OG.mpr ⟨i,hi,ha⟩)) hg λk v u H' Hm2 fp p sH sM sS old o fr=>?_;replace p:au (qq as E1 k v) _:=p;rw[<-aY,yI]at p;obtain⟨E2,ha,p⟩:=p;obtain⟨Hm',F',R',s',T⟩:=vM R1 (is:=cK as) (qL ha) sH sM sS old o fr;obtain⟨b,e1,q'⟩:=q _ _ _ _ _ _ p R' (s1.trans s');exact⟨b,o.kN sS e1,q'⟩
def fO(ho:bA X (compareOp op) r)(hm:behindInMarks op b=false)(D:cF X.K f (r2 r))(S:aM X Ex Y [a,b] as):aS X Ex Y (.Compare a [op] [b] pos) (aa f as):=JM S (λU H Q h=>IP ho hm h) D
theorem Own.bool{c:Bool}(o:Own K H Hm k u (.bool c) fp):u=.bl c:=by
 cases o with
 |sh r=>cases r;rfl
theorem Own.int{i:Int}(o:Own K H Hm k u (.int i) fp):u=.int i:=by
 cases o with
 |sh r=>cases r;rfl
def Cw(h:SE X Ex Y a d):SE X Ex Y (.BoolOp op [a] pos) d:=λg x E U H Hm F P Q hx R p q=>WE.of (HK bC) (h g x E U H Hm F P Q hx R p q)
def BQ{a b:Expr}{rest:SK}{pos:Pos}{d e:DE}(ha:SE X Ex Y a d)(hb:SE X Ex Y (.BoolOp .And (b::rest) pos) e):SE X Ex Y (.BoolOp .And (a::b::rest) pos) (iJ d e):=by
 rw[xZ];intro g x E U H Hm F P Q hx R p q;refine WE.of (JG bC bC) (ha g x E U H Hm F _ _ hx R p λE1 k v u H1 Hm1 F1 fp p1 R1 s1 T=>?_);obtain⟨c,rfl,p1⟩:=p1;refine⟨c,T.own.bool,?_⟩;cases c with
 |true=>exact nA (hb g x E1 U H1 Hm1 F1 P Q hx R1 p1 λE' k v u H' Hm' F' fp p' R' s' T'=>q _ _ _ _ _ _ _ _ p' R' (s1.trans s') T')
 |false=>exact n6 (q _ _ _ _ _ _ _ [] p1 R1 s1 (Tm.sh (.bl false)))
def rR(ha:aS X Ex Y a d):aS X Ex Y (.UnaryOp .Not a pos) (pO d):=by rw[GQ];intro g x E U H Hm F P Q hx R p q;refine WT.of (CS jb) (ha g x E U H Hm F _ _ hx R p λE1 k v H1 Hm1 F1 p1 R1 s1=>?_);obtain⟨c,hc,p1⟩:=p1;obtain⟨b,e1,q'⟩:=q _ _ _ _ _ _ p1 R1 s1;refine⟨c,hc,?_⟩;cases e1;exact q'
noncomputable def WW (X:Cx)(e:Expr):TT:=λU H Q=>∀(whole:Sem Value)(pins:Rt)(s:Shared),Inv X pins U H s->wpAny (model X.prog X.w) X.A (isTrue e X.env whole) (TP X pins U Q) X.xe s
def pw_ww:PW X e (WW X e):=λwh pins s _ _ _ I h=>h wh pins s I
def WW.of(h:PW X e t)(q:t U H Q):WW X e U H Q:=λwh pins s I=>h wh pins s U H Q I q
noncomputable def iC (X:Cx)(Ex:XK)(Y:SN)(e:Expr)(d:DE):Prop:=
 ∀(g:Gh)(x:XC)(E:En)(U:St)(H Hm:Hp)(F:Nat->SH)(P:En->Kd->PyData->Prop)(Q:Bool->Hp->Prop),XL X Ex x g->Rl X.K g E U H Hm F->d x E P->
  (∀E' k v H' Hm' F',P E' k v->Rl X.K g E' U H' Hm' F'->ah Hm Hm'->∃b,kN v=some b/\Q b H')->WW X e (sel Y U) H Q
def iC.lI(h:iC X Ex Y e d):aS X Ex Y e d:=λg x E U H Hm F P Q hx R p q=>WT.of (PW.pt pw_ww) (h g x E U H Hm F P Q hx R p q)
def eL(h:aS X Ex Y a d):iC X Ex Y (.BoolOp op [a] pos) d:=λg x E U H Hm F P Q hx R p q=>by
 cases op with
 |And=>exact WW.of (pw_and1 jb) (h g x E U H Hm F P Q hx R p q)
 |Or=>exact WW.of (pw_or1 jb) (h g x E U H Hm F P Q hx R p q)
def jL{a b:Expr}{rest:SK}{pos:Pos}{d e:DE}(ha:aS X Ex Y a d)(hb:iC X Ex Y (.BoolOp .And (b::rest) pos) e):iC X Ex Y (.BoolOp .And (a::b::rest) pos) (iJ d e):=by
 rw[xZ];intro g x E U H Hm F P Q hx R p q;refine WW.of (pw_and jb pw_ww) (ha g x E U H Hm F _ _ hx R p λE1 k v H1 Hm1 F1 p1 R1 s1=>?_);obtain⟨c,rfl,p1⟩:=p1;refine⟨c,rfl,?_⟩;cases c with
 |true=>exact nA (hb g x E1 U H1 Hm1 F1 P Q hx R1 p1 λE' k v H' Hm' F' p' R' s'=>q _ _ _ _ _ _ p' R' (s1.trans s'))
 |false=>obtain⟨b,e1,q'⟩:=q _ _ _ _ _ _ p1 R1 s1;cases e1;exact n6 q'
def je{a b:Expr}{rest:SK}{pos:Pos}{d e:DE}(ha:aS X Ex Y a d)(hb:iC X Ex Y (.BoolOp .Or (b::rest) pos) e):iC X Ex Y (.BoolOp .Or (a::b::rest) pos) (m8 d e):=by
 rw[Ht];intro g x E U H Hm F P Q hx R p q;refine WW.of (pw_or jb pw_ww) (ha g x E U H Hm F _ _ hx R p λE1 k v H1 Hm1 F1 p1 R1 s1=>?_);obtain⟨c,rfl,p1⟩:=p1;refine⟨c,rfl,?_⟩;cases c with
 |true=>obtain⟨b,e1,q'⟩:=q _ _ _ _ _ _ p1 R1 s1;cases e1;exact nA q'
 |false=>exact n6 (hb g x E1 U H1 Hm1 F1 P Q hx R1 p1 λE' k v H' Hm' F' p' R' s'=>q _ _ _ _ _ _ p' R' (s1.trans s'))
def Br(ho:bA X (compareOp op) (mU λi j=>.bl (f i j)))(ho':bA X (compareOp op') (mU λi j=>.bl (f' i j)))(hm:lastMarks [op,op'] [b,c]=false)(ha:SE X Ex Y a da)(hb:SE X Ex Y b db)(hc:SE X Ex Y c dc):aS X Ex Y (.Compare a [op,op'] [b,c] pos) (nR f f' da db dc):=by rw[CO];intro g x E U H Hm F P Q hx R p q;refine WT.of (DB ho ho' bC bC bC hm) (ha g x E U H Hm F _ _ hx R p λE1 k1 v1 u1 H1 Hm1 F1 fp1 p1 R1 s1 T1=>?_);obtain⟨i,rfl,p1⟩:=p1;cases T1.own.int;refine hb g x E1 U H1 Hm1 F1 _ _ hx R1 p1 λE2 k2 v2 u2 H2 Hm2 F2 fp2 p2 R2 s2 T2=>?_;obtain⟨j,rfl,p2⟩:=p2;cases T2.own.int;refine⟨i,j,rfl,rfl,f i j,rfl,?_⟩;by_cases z:f i j=true;{rw[if_pos z]at p2⊢;refine hc g x E2 U H2 Hm2 F2 _ _ hx R2 p2 λE3 k3 v3 u3 H3 Hm3 F3 fp3 p3 R3 s3 T3=>?_;obtain⟨k,rfl,p3⟩:=p3;cases T3.own.int;obtain⟨b',e1,q'⟩:=q _ _ _ _ _ _ p3 R3 (s1.trans (s2.trans s3));cases e1;exact⟨j,k,rfl,rfl,_,rfl,q'⟩};rw[if_neg z]at p2⊢;obtain⟨b',e1,q'⟩:=q _ _ _ _ _ _ p2 R2 (s1.trans s2);cases e1;exact⟨_,rfl,q'⟩
def Fd(hc:ST X Ex Y c t)(ha:SE X Ex Y a d)(hb:SE X Ex Y b e):SE X Ex Y (.IfExp c a b pos) (yf t d e):=by
 rw[Hr];intro g x E U H Hm F P Q hx R p q;refine WE.of (C0 jb bC bC) (hc g x E U H Hm F _ _ hx R p λE1 b H1 Hm1 F1 p1 R1 s1=>?_);cases b with
 |true=>exact nA (ha g x E1 U H1 Hm1 F1 P Q hx R1 (by simpa using p1) λE' k v u H' Hm' F' fp p' R' s' T'=>q _ _ _ _ _ _ _ _ p' R' (s1.trans s') T')
 |false=>exact n6 (hb g x E1 U H1 Hm1 F1 P Q hx R1 (by simpa using p1) λE' k v u H' Hm' F' fp p' R' s' T'=>q _ _ _ _ _ _ _ _ p' R' (s1.trans s') T')
def M0{i j:Nat}(h:PE X e (mJ j))(hj:Y[j]?=some i)(he:∀whole,isTrue e X.env whole=(do let v <-whole;standAt e.pos;holding [v] (truthy v))):ST X Ex Y e (Ew i):=by
 intro g x E U H Hm F P Q hx R p q;replace p:By E i P:=p;unfold By at p;split at p
 rotate_left
 .exact p.elim
 rename_i k d e1;rw[cZ,<-zV]at p;obtain⟨hk,b,ht,p⟩:=p;obtain⟨v,h1,h2⟩:=R.slot i k d e1;exact WT.of (vd h he) ⟨v,fN hj h1,b,h2.kN R.sub ht,q _ _ _ _ _ p R (ah.refl _)⟩
def IA(ha:ST X Ex Y a t):ST X Ex Y (.UnaryOp .Not a pos) (Ec t):=by intro g x E U H Hm F P Q hx R p q;exact WT.of (CS jb) (ha g x E U H Hm F _ _ hx R p λE1 b H1 Hm1 F1 p1 R1 s1=>q _ _ _ _ _ p1 R1 s1)
end
noncomputable def noStar:Expr->Bool
 |.Starred ..=>false
 |_=>true
def bz(h:noStar e=true):starEach (e::es) env=(false,eval e env)::starEach es env:=by cases e<;>first|rfl|cases h
theorem gk:∀{es:SK},es.all noStar=true->(backTo pos (starEach es env)).any (·.1)=false
 |[],_=>rfl
 |e::es,h=>by rw[NW,N9]at h;rw[bz h.1];show(false||(backTo pos (starEach es env)).any (·.1))=false;rw[gk h.2];rfl
section
variable{X:Cx}{Ex:XK}{Y:SN}
theorem dM:∀{es:SK},es.all noStar=true->PA X es (nV X es)
 |[],_=>nW
 |e::es,h=>by rw[NW,N9]at h;exact jK bC (dM h.2) (bz h.1)
def gm{x:Str}{id:String}{p pos:Pos}{e:Expr}{es:SK}{as:List Arg}{f:DR}{r:List V->Hp->VK->Prop}(hc:cJ X (.builtin id) r)(D:cF X.K f r)(hg:Gl X x)(hm:X.mg x=none)(hv:bootBuiltins x=some (.builtin id))(hn:x≠"__name__")(hd:(x==("__debug__":Str))=false)(ns:(e::es).all noStar=true)(S:aM X Ex Y (e::es) as):SE X Ex Y (.Call (.Name x p) (e::es) [] pos) (aa f as):=
 fP S (λU H Q h=>WE.of (vm hc hg hm hv (dM ns) hn hd (bz (by rw[NW,N9]at ns;exact ns.1)) (gk (by rw[NW,N9]at ns;exact ns.2))) h) D
def nu(hc:cJ X (.type T) r)(D:cF X.K f r)(hg:Gl X x)(hm:X.mg x=none)(hv:bootBuiltins x=some (.type T))(hn:x≠"__name__")(hd:(x==("__debug__":Str))=false)(ns:(e::es).all noStar=true)(S:aM X Ex Y (e::es) as):SE X Ex Y (.Call (.Name x p) (e::es) [] pos) (aa f as):=
 fP S (λU H Q h=>WE.of (nK hc hg hm hv (dM ns) hn hd (bz (by rw[NW,N9]at ns;exact ns.1)) (gk (by rw[NW,N9]at ns;exact ns.2))) h) D
noncomputable def aZ:DR:=λds P=>ds.length<=sizeLine/\P (.ow false) (.list ds)
noncomputable def bO:DR:=λds P=>ds.length<=sizeLine/\P .sh (.tuple ds)
def GD:cF K aZ λxs H Q=>xs.length<=sizeLine/\∀p,H p=none->Q (.ref p) (upd H p (.lst xs)):=λH Hm vs ds P Q s r h q=>⟨by rw[r.len];exact h.1,λp hp=>bN.nl q s h.2 hp r⟩
def Gg:cF K bO λxs H Q=>xs.length<=sizeLine/\∀p,H p=none->Q (.ref p) (upd H p (.tup xs)):=λH Hm vs ds P Q s r h q=>⟨by rw[r.len];exact h.1,λp hp=>bN.nt q s h.2 hp r⟩
def Ku(ns:es.all noStar=true)(S:aM X Ex Y es as):SE X Ex Y (.List es pos) (aa aZ as):=fP S (λU H Q h=>WE.of (Ip (dM ns)) h) GD
def ID{k:Nat}(ns:es.all noStar=true)(S:aM X Ex Y es as):SE X Ex Y (.Tuple es k pos) (aa bO as):=fP S (λU H Q h=>WE.of (Jv (dM ns)) h) Gg
noncomputable def DW:DR:=λds P=>match ds with
 |[.list xs]=>P .sh (.int xs.length)
 |[.tuple xs]=>P .sh (.int xs.length)
 |_=>False
def GG:cF K DW λxs H Q=>∃p ys,xs=[.ref p]/\(bX K H p ys\/aU K H p ys)/\Q (.int ys.length) H:=by
 intro H Hm vs ds P Q s r h q;unfold DW at h;split at h
 .obtain⟨x,rfl,h1⟩:=dG r;cases h1 with
  |lst a r1=>exact⟨_,_,rfl,.inl (cu.mono s a).sq,by rw[r1.len];exact bN.sc q s h (.int _)⟩
 .obtain⟨x,rfl,h1⟩:=dG r;cases h1 with
  |tup a r1=>exact⟨_,_,rfl,.inr (aU.of (s _ _ a)),by rw[r1.len];exact bN.sc q s h (.int _)⟩
 exact h.elim
noncomputable def mO:DR:=λds P=>match ds with
 |[.list xs]=>P (.ow false) (.list xs)
 |[.tuple xs]=>P (.ow false) (.list xs)
 |_=>False
def Dk:cF K mO λxs H Q=>∃p ys,xs=[.ref p]/\(bX K H p ys\/aU K H p ys)/\∀l,H l=none->Q (.ref l) (upd H l (.lst ys)):=by
 intro H Hm vs ds P Q s r h q;unfold mO at h;split at h
 .obtain⟨x,rfl,h1⟩:=dG r;cases h1 with
  |lst a r1=>exact⟨_,_,rfl,.inl (cu.mono s a).sq,λp hp=>bN.nl q s h hp r1⟩
 .obtain⟨x,rfl,h1⟩:=dG r;cases h1 with
  |tup a r1=>exact⟨_,_,rfl,.inr (aU.of (s _ _ a)),λp hp=>bN.nl q s h hp r1⟩
 exact h.elim
noncomputable def jc:DR:=λds P=>match ds with
 |[.list xs]=>P .sh (.tuple xs)
 |[.tuple xs]=>P .sh (.tuple xs)
 |_=>False
def Bv:cF K jc λxs H Q=>∃p ys,xs=[.ref p]/\((bX K H p ys/\∀l,H l=none->Q (.ref l) (upd H l (.tup ys)))\/(aU K H p ys/\Q (.ref p) H)):=by
 intro H Hm vs ds P Q s r h q;unfold jc at h;split at h
 .obtain⟨x,rfl,h1⟩:=dG r;cases h1 with
  |lst a r1=>exact⟨_,_,rfl,.inl ⟨(cu.mono s a).sq,λp hp=>bN.nt q s h hp r1⟩⟩
 .obtain⟨x,rfl,h1⟩:=dG r;cases h1 with
  |tup a r1=>exact⟨_,_,rfl,.inr ⟨aU.of (s _ _ a),bN.sc q s h (.tup a r1)⟩⟩
 exact h.elim
noncomputable def uA:DR:=mj λi j=>.int (if j<i then j else i)
noncomputable def LC:DR:=mj λi j=>.int (if j>i then j else i)
def Lr{f:Int->Int->Int}:cF K (mj λi j=>.int (f i j)) λxs H Q=>∃i j,xs=[.int i,.int j]/\Q (.int (f i j)) H:=by intro H Hm vs ds P Q s r h q;refine sd h λa b e p=>?_;subst e;obtain⟨x,y,rfl,h1,h2⟩:=eV r;cases h1;cases h2;exact⟨a,b,rfl,bN.sc q s p (.int _)⟩
noncomputable def MK:DR:=λds P=>match ds with
 |[.int i]=>P .sh (.int (if i<0 then-i else i))
 |_=>False
noncomputable def fj:DR:=λds P=>match ds with
 |[.int i]=>P .sh (.int i)
 |[.bool k]=>P .sh (.int (if k then 1 else 0))
 |_=>False
def AM:cF K fj λxs H Q=>(∃i,xs=[.int i]/\Q (.int i) H)\/∃k,xs=[.bl k]/\Q (.int (if k then 1 else 0)) H:=by intro H Hm vs ds P Q s r h q;unfold fj at h;split at h;{obtain⟨x,rfl,h1⟩:=dG r;cases h1;exact .inl ⟨_,rfl,bN.sc q s h (.int _)⟩};{obtain⟨x,rfl,h1⟩:=dG r;cases h1;exact .inr ⟨_,rfl,bN.sc q s h (.int _)⟩};exact h.elim
theorem uP:∀{vs:List V}{ns:SO},av K H vs (ns.map PyData.int)->vs=ns.map V.int
 |_,[],h=>by cases h;rfl
 |_,n::ns,h=>by
  cases h with
  |cons h t=>cases h;rw[uP t];rfl
theorem pR:∀(ns:SO),av K H (ns.map V.int) (ns.map PyData.int)
 |[]=>.nil
 |n::ns=>.cons (.int n) (pR ns)
theorem sZ:∀{vs:List V}{ns:SJ},av K H vs (ns.map PyData.bool)->vs=ns.map V.bl
 |_,[],h=>by cases h;rfl
 |_,n::ns,h=>by
  cases h with
  |cons h t=>cases h;rw[sZ t];rfl
def iK(h:Rp K H x (.list ds)):∃a xs,x=.ref a/\cu K H a xs/\av K H xs ds:=by
 cases h with
 |lst a r=>exact⟨_,_,rfl,a,r⟩
noncomputable def uC:DR:=λds P=>∃ns:SO,ds=[.list (ns.map .int)]/\ns≠[]/\∀M,M∈ns->(∀n∈ns,M<=n)->P .sh (.int M)
def CW:cF K uC λxs H Q=>∃(a:Addr)(ns:SO),xs=[.ref a]/\bX K H a (ns.map V.int)/\ns≠[]/\∀M,M∈ns->(∀n∈ns,M<=n)->Q (.int M) H:=by rintro H Hm vs ds P Q s r⟨ns,rfl,hn,h⟩q;obtain⟨x,rfl,h1⟩:=dG r;obtain⟨a,xs,rfl,ha,r1⟩:=iK h1;cases uP r1;exact⟨a,ns,rfl,(cu.mono s ha).sq,hn,λM m1 m2=>bN.sc q s (h M m1 m2) (.int _)⟩
noncomputable def zR:DR:=λds P=>∃bs:SJ,ds=[.list (bs.map .bool)]/\P .sh (.bool (bs.all id))
def FI:cF K zR λxs H Q=>∃(a:Addr)(bs:SJ),xs=[.ref a]/\bX K H a (bs.map V.bl)/\Q (.bl (bs.all id)) H:=by rintro H Hm vs ds P Q s r⟨ns,rfl,h⟩q;obtain⟨x,rfl,h1⟩:=dG r;obtain⟨a,xs,rfl,ha,r1⟩:=iK h1;cases sZ r1;exact⟨a,ns,rfl,(cu.mono s ha).sq,bN.sc q s h (.bl _)⟩
noncomputable def pD (p:Int×Int):PyData:=.tuple [.int p.1,.int p.2]
inductive xA(vs:List V)(H:Hp)(Q:VK):Prop
 |mk:∀j:Int,(vs=[.int j])->(∀p,H p=none->0<=j/\j<=1000/\∀l,upd H p (.pK 0 j) l=none->Q (.ref l) (upd (upd H p (.pK 0 j)) l (.lst (((List.range j.toNat).map λi:Nat=>(i:Int)).map V.int))))->xA vs H Q
noncomputable def Az:List V->Hp->VK->Prop:=λvs H Q=>xA vs H Q
noncomputable def jX:DR:=λds P=>match ds with
 |[.int j]=>(0<=j/\j<=1000)/\P (.ow false) (.list (jh 0 j.toNat))
 |_=>False
def Hi(n:Nat):av K H (((List.range n).map λi:Nat=>(i:Int)).map V.int) (jh 0 n):=by have:=pR (K:=K) (H:=H) ((List.range n).map λi:Nat=>(i:Int));rw[Oc (l:=List.range n) (g:=PyData.int)]at this;unfold jh;rw[show(λi:Nat=>PyData.int (0+i))=PyData.int∘λi:Nat=>(i:Int)from funext λi=>by simp];exact this
def AH:cF K jX Az:=by intro H Hm vs ds P Q s r h q;unfold jX at h;split at h;{obtain⟨x,rfl,h1⟩:=dG r;cases h1;rename_i j;refine⟨j,rfl,λp hp=>⟨h.1.1,h.1.2,λl hl=>?_⟩⟩;have s1:=dm (o:=.pK 0 j) hp;have s2:=dm (o:=.lst (((List.range j.toNat).map λi:Nat=>(i:Int)).map V.int)) hl;refine q _ _ _ _ Hm [l] h.2 (s1.trans s2) (ah.refl _) (s.trans (s1.trans s2)) (λ_ _=>.inl rfl) (.ow aG (Hi _)) λa ha=>?_;rw[NV.mp ha];have:H l=none:=s1.free hl;exact⟨this,i9 s this⟩};exact h.elim
def Dr(hc:X.calm=true)(g1:Gl X "list")(m1:X.mg "list"=none)(g2:Gl X "range")(m2:X.mg "range"=none)(ns:noStar a=true)(S:aM X Ex Y [a] as) : SE X Ex Y (.Call (.Name "list" p1) [.Call (.Name "range" p2) [a] [] pos2] [] pos) (aa jX as):=
 fP (r:=Az) S (λU H Q h=>WE.of (nK (z0 hc) g1 m1 PyProof.Rows.boot_list (jK (nK xu g2 m2 PyProof.Rows.boot_range (dM (es:=[a]) (by rw[NW,ns];rfl)) (by decide) (by decide) (bz ns) (by rfl)) nW)) (by
  refine λpins s I=>aQ (h pins s I) λv s1 ⟨x,H1,I1,r1,j,e,q⟩=>⟨x,H1,I1,r1,?_⟩
  cases e;refine⟨j,rfl,λp hp=>?_⟩
  obtain⟨q1,q2,q3⟩:=q p hp;exact⟨p,j,rfl,aG,q1,q2,q3⟩)) AH
end
inductive Ag(K:Frag)(H Hm:Hp):SJ->List V->SA->SH->Prop
 |nil:Ag K H Hm [] [] [] []
 |sh {ms:SJ}{vs:List V}{ds:SA}{as:SH}{v:V}{d:PyData}:Rp K Hm v d->Ag K H Hm ms vs ds as->Ag K H Hm (false::ms) (v::vs) (d::ds) as
 |mu {ms:SJ}{vs:List V}{ds:SA}{as:SH}{a:Addr}{xs:List V}{es:SA}:H a=some (.lst xs)->av K Hm xs es->Hm a=none->a∉as->Ag K H Hm ms vs ds as->Ag K H Hm (true::ms) (.ref a::vs) (.list es::ds) (a::as)
inductive Bk(K:Frag)(H Hm:Hp):SH->SA->Prop
 |nil:Bk K H Hm [] []
 |cons {a:Addr}{xs:List V}{es:SA}{as:SH}{us:SA}:H a=some (.lst xs)->av K Hm xs es->Hm a=none->Bk K H Hm as us->Bk K H Hm (a::as) (.list es::us)
noncomputable def b9 (mg:Rr)(K:Frag)(ms:SJ)(sp:bM):Sp:=λvs H Q Ex=>∃(ds:SA)(as:SH)(Hm:Hp)(P:SA->Kd->PyData->Prop)(x:XC),ah Hm H/\Ag K H Hm ms vs ds as/\sp ds P x /\
 (∀us k r u H' Hm' fp,P us k r->ah Hm Hm'->ah Hm' H'->(∀p o,p∉as->H p=some o->H' p=some o)->(∀a,a∉as->H a≠none->OE (Hm' a) (Hm a))->Bk K H' Hm' as us->Own K H' Hm' k u r fp->(∀a∈fp,H a=none/\Hm' a=none)->Q u H') /\
 (∀c d C a H',mg c=some (.ref C)->x c d->(∀p o,p∉as->H p=some o->H' p=some o)->H' a=some (.ext (lD a C none))->H a=none->Ex (.ref C) (some a) H')
section
variable{K:Frag}{g:Gh}{U:St}
def LD{F:Nat->SH}(R:Rl K g E U H Hm F)(s:ah Hm Hm1):∀{ms:SJ}{as:List Arg}{os:List (Option PyData)}{vs:List V}{ds:SA},Got K U Hm as os vs->fill as E os=some ds->shape ms as=true->(lent ms as).Nodup->(∀i∈lent ms as,∃p es,E[i]?=some (some (.ow p,.list es)))->(∀i∈kept ms as,∀a∈F i,Hm1 a=H a)->(∀i∈lent ms as,∀a∈F i,Hm1 a=none)->∃ix:List (Nat×Addr),ix.map (·.1)=lent ms as/\Ag K H Hm1 ms vs ds (ix.map (·.2))/\∀q∈ix,U[q.1]?=some (some (.ref q.2))/\F q.1=[q.2]:=by
 intro ms as os vs ds G;induction G generalizing ms ds with
 |nil=>
  intro h sh nd hl hk hn;cases ms with
  |nil=>cases h;exact⟨[],rfl,.nil,λ_ z=>by cases z⟩
  |cons b ms=>cases b<;>cases sh
 |@pk i v as os vs hv G ih=>
  intro h sh nd hl hk hn;cases ms with
  |nil=>cases sh
  |cons b ms=>
   cases b with
   |false=>
    rw[fill]at h;split at h
    .rename_i k d e;by_cases hr:k.rd=true
     .rw[if_pos hr]at h;cases hf:fill as E os with
      |none=>rw[hf]at h;cases h
      |some es=>rw[hf]at h;cases h;obtain⟨v',h1,h2⟩:=R.slot i k d e;rw[hv]at h1;cases h1;obtain⟨ix,e1,e2,e3⟩:=ih (ms:=ms) hf sh nd hl (λj hj=>hk j (NX _ hj)) hn;exact⟨ix,e1,.sh (h2.rp hr s (hk i N6)) e2,e3⟩
     rw[if_neg hr]at h;cases h
    cases h
   |true=>
    rw[fill]at h;obtain⟨p,es0,e0⟩:=hl i N6;rw[e0]at h;have h:(if(Kd.ow p).rd=true then(fill as E os).map (PyData.list es0::·)else none)=some _:=h;rw[if_pos (show(Kd.ow p).rd=true from rfl)]at h;cases hf:fill as E os with
    |none=>rw[hf]at h;cases h
    |some es=>
     rw[hf]at h;cases h;obtain⟨v',h1,h2⟩:=R.slot i _ _ e0;rw[hv]at h1;cases h1;have nd':=OW.mp (show(i::lent ms as).Nodup from nd);obtain⟨ix,e1,e2,e3⟩:=ih (ms:=ms) hf sh nd'.2 (λj hj=>hl j (NX _ hj)) hk (λj hj=>hn j (NX _ hj));have hFi:=hn i N6;generalize hF:F i=fi at h2 hFi;cases h2 with
     |@ow _ a xs _ ha hr=>refine⟨(i,a)::ix,?_,.mu ha (hr.mono s) (hFi a N6) ?_ e2,?_⟩;{show i::ix.map (·.1)=i::lent ms as;rw[e1]};{intro m;obtain⟨q,hq,rfl⟩:=NT.mp m;have:=R.aL i q.1 q.2 (by rw[hF];exact N6) (by rw[(e3 q hq).2];exact N6);exact nd'.1 (e1▸(this▸NT.mpr ⟨q,hq,rfl⟩))};intro q hq;rcases NY.mp hq with rfl|hq;{exact⟨hv,hF⟩};exact e3 q hq
 |@ev d0 v u as os vs r G ih=>
  intro h sh nd hl hk hn;cases ms with
  |nil=>cases sh
  |cons b ms=>
   cases b with
   |true=>cases sh
   |false=>
    rw[fill]at h;cases hf:fill as E os with
    |none=>rw[hf]at h;cases h
    |some es=>rw[hf]at h;cases h;obtain⟨ix,e1,e2,e3⟩:=ih (ms:=ms) hf sh nd hl hk hn;exact⟨ix,e1,.sh (r.mono s) e2,e3⟩
theorem mG:∀{ms:SJ}{as:List Arg}{us:SA}{E E2:En},pW ms as us E=some E2->(lent ms as).Nodup->E2.length=E.length/\(∀j,j∉lent ms as->E2[j]?=E[j]?)/\(lent ms as).length=us.length /\ ∀(n i:Nat)(u:PyData),(lent ms as)[n]?=some i->us[n]?=some u->∃p es es',u=.list es'/\E[i]?=some (some (.ow p,.list es))/\E2[i]?=some (some (.ow p,.list es'))
 |[],[],[],E,E2,h,_=>by cases h;exact⟨rfl,λ_ _=>rfl,rfl,λ_ _ _ z=>by cases z⟩
 |[],[],_::_,E,E2,h,_=>by cases h
 |[],_::_,_,E,E2,h,_=>by cases h
 |false::ms,.pk j::r,us,E,E2,h,nd=>mG (ms:=ms) (as:=r) (us:=us) h nd
 |false::ms,.ev _::r,us,E,E2,h,nd=>mG (ms:=ms) (as:=r) (us:=us) h nd
 |false::ms,[],us,E,E2,h,_=>by cases h
 |true::ms,[],us,E,E2,h,_=>by cases h
 |true::ms,.ev _::r,us,E,E2,h,_=>by cases h
 |true::ms,.pk i::r,[],E,E2,h,_=>by cases h
 |true::ms,.pk i::r,u::us,E,E2,h,nd=>by
  rw[pW]at h;obtain⟨n1,n2⟩:=OW.mp (show(i::lent ms r).Nodup from nd);split at h
  .rename_i p es e;by_cases hu:yD u=true
   .rw[if_pos hu]at h;cases u with
    |list es'=>
     have li:i<E.length:=by rcases OY i E.length with h|h;{exact h};rw[OL h]at e;cases e
     obtain⟨l1,g1,l2,g2⟩:=mG (ms:=ms) (as:=r) (us:=us) h n2;rw[OR]at l1;refine⟨l1,λj hj=>?_,congrArg (·+1) l2,λn j v h1 h2=>?_⟩;{have hj':j∉lent ms r:=λz=>hj (NX _ z);have hne:i≠j:=λz=>hj (z▸N6);rw[g1 j hj',aj hne]};cases n with
     |zero=>cases h1;cases h2;exact⟨p,es,es',rfl,e,by rw[g1 i n1,aD li]⟩
     |succ n=>have h1:(lent ms r)[n]?=some j:=h1;have h2:us[n]?=some v:=h2;obtain⟨p',fs,fs',e1,e2,e3⟩:=g2 n j v h1 h2;have hne:i≠j:=λz=>n1 (z▸OD h1);rw[aj hne]at e2;exact⟨p',fs,fs',e1,e2,e3⟩
    |_=>cases hu
   rw[if_neg hu]at h;cases h
  cases h
theorem Bk.get:∀{as:SH}{us:SA}{n:Nat}{a:Addr},Bk K H Hm as us->as[n]?=some a->∃xs es,us[n]?=some (.list es)/\H a=some (.lst xs)/\av K Hm xs es/\Hm a=none
 |_,_,_,_,.nil,h=>by simp at h
 |_,_,0,_,.cons h1 h2 h3 _,h=>by simp at h;subst h;exact⟨_,_,rfl,h1,h2,h3⟩
 |_,_,n+1,_,.cons _ _ _ t,h=>t.get (n:=n) (by simpa using h)
def qV{E E2 E3:En}{H H' Hm Hm2:Hp}{F:Nat->SH}{is:SN}{ix:List (Nat×Addr)}{us:SA}{k:Kd}{u:V}{v:PyData}{fp:SH}(R:Rl K g E U H Hm F)(hix:∀q∈ix,U[q.1]?=some (some (.ref q.2))/\F q.1=[q.2])(hik:∀q∈ix,q.1∉is)(l2:E2.length=E.length)(hs:∀j,j∉ix.map (·.1)->E2[j]?=E[j]?)(hu:∀q∈ix,∃p es xs' es',PyData.list es'∈us/\E[q.1]?=some (some (.ow p,.list es))/\E2[q.1]?=some (some (.ow p,.list es'))/\H' q.2=some (.lst xs')/\av K Hm2 xs' es'/\Hm2 q.2=none)(hE:(if(flat k v&&us.all (flat (.ow false)))=true then some E2 else dN is E2)=some E3)(s1:ah (lend Hm H (is.flatMap F)) Hm2)(s2:ah Hm2 H')(sH:∀p o,p∉ix.map (·.2)->H p=some o->H' p=some o)(old:∀a,a∉ix.map (·.2)->H a≠none->OE (Hm2 a) (lend Hm H (is.flatMap F) a))(o:Own K H' Hm2 k u v fp)(fr:∀a∈fp,H a=none/\Hm2 a=none) : ∃Hm' F',Rl K g E3 U H' Hm' F'/\ah Hm Hm'/\Tm K g F' H' Hm' k u v fp:=by
 have mem:∀{a i},a∈F i->i∈is->a∈is.flatMap F:=λha hi=>OG.mpr ⟨_,hi,ha⟩;have off:∀a∈is.flatMap F,Hm a=none:=λa ha=>by obtain⟨i,_,h⟩:=OG.mp ha;exact R.off i a h
 have up:ah Hm (lend Hm H (is.flatMap F)):=gO off;have bB:∀{i a},a∈F i->H a≠none:=λha z=>by obtain⟨u,hu,_⟩:=R.bB _ _ ha;rw[z]at hu;cases hu
 have own:∀q∈ix,q.2∈F q.1:=λq hq=>by rw[(hix q hq).2];exact N6
 have lentF:∀{i a},a∈F i->a∈ix.map (·.2)->i∈ix.map (·.1):=λ{i a} ha m=>by obtain⟨q,hq,rfl⟩:=NT.mp m;exact NT.mpr ⟨q,hq,(R.aL i q.1 q.2 ha (own q hq)).symm⟩
 have lis:∀a,a∈ix.map (·.2)->a∉is.flatMap F:=λa m z=>by obtain⟨q,hq,rfl⟩:=NT.mp m;obtain⟨i,hi,h⟩:=OG.mp z;exact hik q hq (R.aL i q.1 q.2 h (own q hq)▸hi)
 have nfp:∀a∈fp,∀i,a∉F i:=λa ha i=>R.fresh (fr a ha).1;have m2:∀{a},H a≠none->a∉is.flatMap F->(a∉ix.map (·.2)/\OE (Hm2 a) (Hm a))\/(a∈ix.map (·.2)/\Hm2 a=none):=λ{a} h c=>by by_cases z:a∈ix.map (·.2);{obtain⟨q,hq,rfl⟩:=NT.mp z;obtain⟨_,_,_,_,_,_,_,_,_,e⟩:=hu q hq;exact .inr ⟨z,e⟩};refine .inl ⟨z,?_⟩;have h':=old a z h;rw[cM c]at h';exact h'
 have offI:∀{i a},a∈F i->a∉is.flatMap F->Hm2 a=none:=λ{i a} ha c=>by rcases m2 (bB ha) c with⟨z,e⟩|⟨_,e⟩;{obtain⟨w,hw,nt⟩:=R.bB i a ha;exact e.off (R.off i a ha) s2 (sH a w z hw) nt};exact e
 have od:∀{a},g.H0 a≠none->a∉is.flatMap F->OE (Hm2 a) (g.dF a):=λ{a} h c=>by rcases m2 (R.rA h) c with⟨_,e⟩|⟨z,e⟩;{exact e.trans (R.old a h)};obtain⟨q,hq,rfl⟩:=NT.mp z;have h':=R.old _ h;rw[R.off q.1 q.2 (own q hq)]at h';rw[e];exact h'
 have hliv:∀{i a},a∈F i->∃w,H' a=some w/\nQ w:=λ{i a} ha=>by by_cases z:a∈ix.map (·.2);{obtain⟨q,hq,rfl⟩:=NT.mp z;obtain⟨_,_,_,_,_,_,_,e,_,_⟩:=hu q hq;exact⟨_,e,kJ⟩};obtain⟨w,hw,nt⟩:=R.bB i a ha;exact⟨w,sH a w z hw,nt⟩
 have keepH:∀{j a},j∉ix.map (·.1)->a∈F j->H' a=H a:=λ{j a} hj ha=>by obtain⟨w,hw,_⟩:=R.bB j a ha;rw[hw];exact sH a w (λz=>hj (lentF ha z)) hw
 have frm:∀p o,p∉g.M->g.H0 p=some o->H' p=some o:=λp o hp ho=>by refine sH p o (λz=>?_) (R.fr p o hp ho);obtain⟨q,hq,rfl⟩:=NT.mp z;rcases R.new q.1 q.2 (own q hq)with y|y;{exact hp y};rw[y]at ho;cases ho
 have pinn:∀{E4:En},(∀j,j∉is->E4[j]?=E2[j]?)->(∀j∈is,E4[j]?=E2[j]?\/∃k d,E2[j]?=some (some (k,d))/\k.fz=true)->∀q∈g.pins,U[q.1]?=some (some (.ref q.2))/\∃ds,E4[q.1]?=some (some (.ow true,.list ds)):=λ{E4} h4 h5 q hq=>by
  obtain⟨h1,ds',h2⟩:=R.pin q hq;refine⟨h1,?_⟩;have e2:∃ds,E2[q.1]?=some (some (.ow true,.list ds)):=by by_cases z:q.1∈ix.map (·.1);{obtain⟨q',hq',e⟩:=NT.mp z;obtain⟨p,es,xs',es',_,g1,g2,_⟩:=hu q' hq';rw[e,h2]at g1;cases g1;exact⟨es',e▸g2⟩};exact⟨ds',by rw[hs _ z];exact h2⟩
  obtain⟨ds,e2⟩:=e2;by_cases z:q.1∈is;{rcases h5 _ z with y|⟨k0,d0,y,yk⟩;{exact⟨ds,y.trans e2⟩};rw[e2]at y;cases y;cases yk};exact⟨ds,(h4 _ z).trans e2⟩
 by_cases hf:(flat k v&&us.all (flat (.ow false)))=true
 .rw[if_pos hf]at hE;cases hE;rw[N9,N7]at hf;have st:kF Hm2 (back Hm2 (is.flatMap F)):=λa xs h=>by
   have c:a∉is.flatMap F:=λz=>by obtain⟨i,_,hi⟩:=OG.mp z;obtain⟨w,hw,nt⟩:=R.bB i a hi;have e2:Hm2 a=some w:=s1 _ _ (by rw[eo z];exact hw);rw[e2]at h;cases h;exact nt xs rfl
   rw[cU c];exact h
  have upB:ah Hm (back Hm2 (is.flatMap F)):=λb o e=>by rw[cU λz=>by rw[off b z]at e;cases e];exact s1 _ _ (up _ _ e)
  have R':Rl K g E2 U H' (back Hm2 (is.flatMap F)) F:={
   len:=l2.trans R.len
   sub:=wQ s2
   slot:=λj k' d' e'=>by
    by_cases z:j∈ix.map (·.1)
    .obtain⟨q,hq,rfl⟩:=NT.mp z;obtain⟨p,es,xs',es',mu,g1,g2,g3,g4,_⟩:=hu q hq;rw[g2]at e';cases e';obtain⟨h1,h2⟩:=hix q hq;exact⟨_,h1,by rw[h2];exact .ow g3 (g4.vP st (hf.2 _ mu))⟩
    .rw[hs j z]at e';obtain⟨v',h1,h2⟩:=R.slot j k' d' e';exact⟨v',h1,h2.step upB λa ha=>keepH z ha⟩
   off:=λi a ha=>by
    by_cases c:a∈is.flatMap F
    .exact iV c
    .rw[cU c];exact offI ha c
   bB:=λi a ha=>hliv ha
   aL:=R.aL
   fr:=frm
   new:=R.new
   pin:=pinn (λj _=>rfl) λj _=>.inl rfl
   old:=λa ha=>by
    by_cases c:a∈is.flatMap F
    .have h':=R.old a ha;rw[off a c]at h';rw[iV c];exact h'
    .rw[cU c];exact od ha c }
  refine⟨_,F,R',upB,⟨o.flat st hf.1,λa ha=>?_,nfp,λa ha=>R.ir (fr a ha).1⟩⟩;by_cases c:a∈is.flatMap F;{exact iV c};rw[cU c];exact(fr a ha).2
 rw[if_neg hf]at hE;obtain⟨l3,g3⟩:=l9 hE;have R':Rl K g E3 U H' Hm2 (λj=>if j∈is then []else F j):={
  len:=l3.trans (l2.trans R.len)
  sub:=s2
  slot:=λj k' d' e'=>by
   by_cases c:j∈is
   .obtain⟨k0,d0,e0,hk0,e1⟩:=(g3 j).2 c;rw[e1]at e';cases e';have z:j∉ix.map (·.1):=λz=>by
     obtain⟨q,hq,rfl⟩:=NT.mp z;exact hik q hq c
    rw[hs j z]at e0;obtain⟨v',h1,h2⟩:=R.slot j k0 _ e0;refine⟨v',h1,?_⟩;rw[if_pos c];exact .sh ((h2.rp (by cases k0<;>first|rfl|cases hk0) up λa ha=>eo (mem ha c)).mono s1)
   .rw[(g3 j).1 c]at e';rw[if_neg c]
    by_cases z:j∈ix.map (·.1)
    .obtain⟨q,hq,rfl⟩:=NT.mp z;obtain⟨p,es,xs',es',mu,g1,g2,g4,g5,_⟩:=hu q hq;rw[g2]at e';cases e';obtain⟨h1,h2⟩:=hix q hq;exact⟨_,h1,by rw[h2];exact .ow g4 g5⟩
    .rw[hs j z]at e';obtain⟨v',h1,h2⟩:=R.slot j k' d' e';exact⟨v',h1,h2.step (up.trans s1) λa ha=>keepH z ha⟩
  off:=λj a ha=>by
   by_cases c:j∈is
   .rw[if_pos c]at ha;cases ha
   .rw[if_neg c]at ha;exact offI ha λz=>by
     obtain⟨i,hi,h⟩:=OG.mp z;exact c (R.aL i j a h ha▸hi)
  bB:=λj a ha=>by
   by_cases c:j∈is
   .rw[if_pos c]at ha;cases ha
   .rw[if_neg c]at ha;exact hliv ha
  aL:=λj l a h1 h2=>by
   by_cases c:j∈is
   .rw[if_pos c]at h1;cases h1
   .rw[if_neg c]at h1
    by_cases c':l∈is
    .rw[if_pos c']at h2;cases h2
    .rw[if_neg c']at h2;exact R.aL j l a h1 h2
  fr:=frm
  new:=λj a ha=>by
   by_cases c:j∈is
   .rw[if_pos c]at ha;cases ha
   .rw[if_neg c]at ha;exact R.new j a ha
  pin:=pinn (λj hj=>(g3 j).1 hj) λj hj=>by
   obtain⟨k0,d0,e0,hk0,_⟩:=(g3 j).2 hj;exact .inr ⟨k0,d0,e0,hk0⟩
  old:=λa ha=>by
   refine od ha λz=>?_
   obtain⟨i,hi,h⟩:=OG.mp z;obtain⟨k0,d0,e0,hk0,_⟩:=(g3 i).2 hi;have zi:i∉ix.map (·.1):=λz=>by
    obtain⟨q,hq,rfl⟩:=NT.mp z;exact hik q hq hi
   rw[hs i zi]at e0;exact ha (R.notM e0 (by cases k0<;>first|rfl|(rename_i p;cases p<;>first|rfl|cases hk0)|cases hk0) h) }
 refine⟨Hm2,_,R',up.trans s1,⟨o,λa ha=>(fr a ha).2,λa ha i=>?_,λa ha=>R.ir (fr a ha).1⟩⟩;by_cases c:i∈is;{rw[if_pos c];simp};rw[if_neg c];exact nfp a ha i
end
section
variable{X:Cx}{Ex:XK}{Y:SN}
def GO{x:Str}{k:Nat}{ps:SQ}{ms:SJ}{sp:bM}{p pos:Pos}{e:Expr}{es:SK}{as:List Arg}(F:bU X.prog X.w X.K X.mg X.base k x ps (b9 X.mg X.K ms sp))(hp:Passes (eN X.prog X.w) X Ex)(hr:dD k X.A)(hg:Gl X x)(hd:(x==("__debug__":Str))=false)(ns:(e::es).all noStar=true)(S:aM X Ex Y (e::es) as):SE X Ex Y (.Call (.Name x p) (e::es) [] pos) (aA sp ms as):=by
 intro g xc E U H Hm Fo P Q hx R h q;obtain⟨f,fd,h1,h2,h3,h4⟩:=F;refine WE.of (yx (E:=Ex) h4 hr hg h1 h2 h3 .nil hp (dM ns) hd (bz (by rw[NW,N9]at ns;exact ns.1)) (gk (by rw[NW,N9]at ns;exact ns.2))) ?_;refine jj hx S R h λE1 os vs H1 Hm1 F1 p R1 s1 G=>?_;replace p:CG sp ms as xc E1 os P:=p;unfold CG at p;rw[<-aY,dR]at p;obtain⟨ds,hf,p⟩:=p;rw[cZ,DQ]at p;obtain⟨hl,hsp⟩:=p;unfold uL at hl;rw[N9,N9,Oo,N7]at hl;obtain⟨⟨l1,l2⟩,l3⟩:=hl;have hlent:∀i∈lent ms as,i∉kept ms as/\∃p es,E1[i]?=some (some (.ow p,.list es)):=λi hi=>by have:=l3 i hi;rw[N9]at this;refine⟨λz=>?_,?_⟩;{have y:=this.1;rw[RW,Q9]at y;simp[z]at y};have y:=this.2;split at y;{rename_i p es e;exact⟨p,es,e⟩};cases y
 have off:∀a∈(kept ms as).flatMap F1,Hm1 a=none:=λa ha=>by obtain⟨i,_,h⟩:=OG.mp ha;exact R1.off i a h
 have up:=gO (Hm:=Hm1) (H:=H1) off;obtain⟨ix,e1,e2,e3⟩:=LD R1 up (ms:=ms) G hf l1 l2 (λi hi=>(hlent i hi).2) (λi hi a ha=>eo (OG.mpr ⟨i,hi,ha⟩)) λi hi a ha=>by
  rw[cM λz=>by
   obtain⟨j,hj,h⟩:=OG.mp z;exact(hlent i hi).1 (R1.aL j i a h ha▸hj)]
  exact R1.off i a ha
 show b9 X.mg X.K ms sp (vs++[]) H1 Q Ex;rw[OV];refine⟨ds,ix.map (·.2),lend Hm1 H1 ((kept ms as).flatMap F1),_,xc,iS R1.sub,e2,hsp,λus k r u H' Hm' fp p sM sS fr old bk o new=>?_,λc d C a H' hC hxc fr ha hn=>?_⟩
 .replace p:Bt ms as E1 us k r P:=p;unfold Bt at p;rw[<-aY,sj]at p;obtain⟨E2,hu,p⟩:=p;rw[<-aY,Df]at p;obtain⟨E3,ha,p⟩:=p;obtain⟨u1,u2,u3,u4⟩:=mG hu l2;have hu':∀q∈ix,∃p es xs' es',PyData.list es'∈us/\E1[q.1]?=some (some (.ow p,.list es))/\E2[q.1]?=some (some (.ow p,.list es'))/\H' q.2=some (.lst xs')/\av X.K Hm' xs' es'/\Hm' q.2=none:=λq hq=>by
   obtain⟨n,hn⟩:=Py hq;have hn1:(lent ms as)[n]?=some q.1:=by rw[<-e1,O4,hn];rfl
   have hn2:(ix.map (·.2))[n]?=some q.2:=by rw[O4,hn];rfl
   obtain⟨xs',es',g1,g2,g3,g4⟩:=bk.get hn2;obtain⟨p',es,es'',g5,g6,g7⟩:=u4 n q.1 _ hn1 g1;cases g5;exact⟨p',es,xs',es',OD g1,g6,g7,g2,g3,g4⟩
  obtain⟨Hm'',F'',R'',s'',T⟩:=qV R1 (is:=kept ms as) (ix:=ix) (us:=us) e3 (λq hq=>(hlent q.1 (e1▸NT.mpr ⟨q,hq,rfl⟩)).1) u1 (λj hj=>u2 j (e1▸hj)) hu' (qL ha) sM sS fr old o new;exact q _ _ _ _ _ _ _ _ p R'' (s1.trans s'') T
 refine hx c d C a H' hC hxc (λp o hp ho=>?_) ha (R1.ir hn);refine fr p o (λz=>?_) (R1.fr p o hp ho);obtain⟨q,hq,rfl⟩:=NT.mp z;rcases R1.new q.1 q.2 (by rw[(e3 q hq).2];exact N6)with y|y;{exact hp y};rw[y]at ho;cases ho
end
noncomputable def WS (X:Cx)(st:Stmt):TS:=λD U H=>∀(pins:Rt)(s:Shared),Inv X pins U H s->wpAny (model X.prog X.w) X.A (exec st X.env) (SP X pins D) X.xe s
noncomputable def pe (X:Cx)(st:SM):TS:=λD U H=>∀(pins:Rt)(s:Shared),Inv X pins U H s->wpAny (model X.prog X.w) X.A (execs st X.env) (SP X pins D) X.xe s
def zG:PS X st (WS X st):=λpins s _ _ _ I h=>h pins s I
def iW:m5 X st (pe X st):=λpins s _ _ _ I h=>h pins s I
def WS.of(h:PS X st t)(q:t D U H):WS X st D U H:=λpins s I=>h pins s U H D I q
def pe.of(h:m5 X st t)(q:t D U H):pe X st D U H:=λpins s I=>h pins s U H D I q
def bR{α:Type}{l:List α}{i:Nat}{a:α}(h:l[i]?=some a):i<l.length:=by rcases OY i l.length with z|z;{exact z};rw[OL z]at h;cases h
def gI{Y:SN}{U:St}{j i:Nat}{v:Option V}(nd:Y.Nodup)(h:Y[j]?=some i)(hi:i<U.length):(sel Y U).set j v=sel Y (U.set i v):=by
 have lj:j<Y.length:=bR h;refine PC λk=>?_;by_cases c:k=j;{subst c;rw[aD (by unfold sel;rw[NS];exact lj)];unfold sel;rw[O4,h];show some v=some ((U.set i v)[i]?).join;rw[aD hi];rfl};rw[aj (Ne.symm c)];unfold sel;rw[O4,O4];cases e:Y[k]? with
 |none=>rfl
 |some m=>
  have ne:i≠m:=λz=>c (by
   have h1:=Ox.mp e;have h2:=Ox.mp h;obtain⟨l1,e1⟩:=h1;obtain⟨l2,e2⟩:=h2;exact(List.getElem_inj nd).mp (e1.trans (z.symm.trans e2.symm)))
  show some (U[m]?).join=some ((U.set i v)[m]?).join;rw[aj ne]
noncomputable abbrev aW (X:Cx):SN:=List.range X.N.length
noncomputable def L8 (X:Cx)(Ex:XK)(w:TS)(d:DS):Prop:=
 ∀(g:Gh)(D':iz)(E:En)(U:St)(H Hm:Hp)(F:Nat->SH)(D:Ends),XL X Ex D'.xc g->Rl X.K g E U H Hm F->d D' E->
  (∀E' σ' H' Hm' F',D'.nx E'->Rl X.K g E' σ' H' Hm' F'->ah Hm Hm'->D.nx (sel (aW X) σ') H')->
  (∀E' k v u σ' H' Hm' F' fp,D'.rt E' k v->Rl X.K g E' σ' H' Hm' F'->Tm X.K g F' H' Hm' k u v fp->D.rt u H')->w D (sel (aW X) U) H
noncomputable abbrev S1 (X:Cx)(Ex:XK)(st:Stmt)(d:DS):Prop:=L8 X Ex (WS X st) d
noncomputable abbrev SS (X:Cx)(Ex:XK)(st:SM)(d:DS):Prop:=L8 X Ex (pe X st) d
section
variable{X:Cx}{Ex:XK}
def aJ:SS X Ex [] bx:=λg D' E U H Hm F D hx R h nx rt=>pe.of Gj (nx _ _ _ _ _ h R (ah.refl _))
def af{st:Stmt}{rest:SM}{a b:DS}(h1:S1 X Ex st a)(h2:SS X Ex rest b):SS X Ex (st::rest) (ak a b):=by intro g D' E U H Hm F D hx R h nx rt;refine pe.of (vB zG iW) (h1 g { D' with nx:=b D' } E U H Hm F _ hx R h (λE1 σ1 H1 Hm1 F1 p1 R1 s1=>?_) rt);exact h2 g D' E1 σ1 H1 Hm1 F1 D hx R1 p1 (λE2 σ2 H2 Hm2 F2 p2 R2 s2=>nx _ _ _ _ _ p2 R2 (s1.trans s2)) rt
def gW{st:Stmt}{rest:SM}{a b:DS}(h1:S1 X Ex st a)(h2:SS X Ex rest b):SS X Ex (st::rest) (kh a b):=by intro g D' E U H Hm F D hx R h nx rt;obtain⟨J,h,hJ⟩:=h;refine pe.of (vB zG iW) (h1 g { D' with nx:=J } E U H Hm F _ hx R h (λE1 σ1 H1 Hm1 F1 p1 R1 s1=>?_) rt);exact h2 g D' E1 σ1 H1 Hm1 F1 D hx R1 (hJ E1 p1) (λE2 σ2 H2 Hm2 F2 p2 R2 s2=>nx _ _ _ _ _ p2 R2 (s1.trans s2)) rt
def ai(h1:S1 X Ex st a):SS X Ex [st] a:=λg D' E U H Hm F D hx R h nx rt=>pe.of (GB zG) (h1 g D' E U H Hm F D hx R h nx rt)
def MG(hc:ST X Ex (aW X) c t)(ha:SS X Ex a d)(hb:SS X Ex b2 e):S1 X Ex (.If c a b2 pos) (br t d e):=by
 rw[Ge];intro g D' E U H Hm F D hx R h nx rt;refine WS.of (KR jb iW iW) (hc g D'.xc E U H Hm F _ (λb H1=>if b=true then pe X a D _ H1 else pe X b2 D _ H1) hx R h λE1 b H1 Hm1 F1 p1 R1 s1=>?_);cases b with
 |true=>exact nA (ha g D' E1 U H1 Hm1 F1 D hx R1 (by simpa using p1) (λE2 σ2 H2 Hm2 F2 p2 R2 s2=>nx _ _ _ _ _ p2 R2 (s1.trans s2)) rt)
 |false=>exact n6 (hb g D' E1 U H1 Hm1 F1 D hx R1 (by simpa using p1) (λE2 σ2 H2 Hm2 F2 p2 R2 s2=>nx _ _ _ _ _ p2 R2 (s1.trans s2)) rt)
def LR(h:SE X Ex (aW X) e d):S1 X Ex (.Return (some e) pos) (bw d):=λg D' E U H Hm F D hx R p nx rt=>WS.of (BD bC) (h g D'.xc E U H Hm F _ _ hx R p λE' k v u H' Hm' F' fp p' R' s' T=>rt _ _ _ _ _ _ _ _ _ p' R' T)
def IB(h:SE X Ex (aW X) e d)(hs:swapsWith e none pos.line X.env=pure false):S1 X Ex (.Expr e pos) (cN d):=λg D' E U H Hm F D hx R p nx rt=>WS.of (GF bC hs) (h g D'.xc E U H Hm F _ _ hx R p λE' k v u H' Hm' F' fp p' R' s' T=>nx _ _ _ _ _ p' R' s')
def Rl.move{K:Frag}{g:Gh}{E:En}{U:St}{H Hm:Hp}{F:Nat->SH}(R:Rl K g E U H Hm F){i:Nat}{k:Kd}{d:PyData}(e:E[i]?=some (some (k,d)))(hk:k.pin=false):∃v F',U[i]?=some (some v)/\Rl K g (E.set i none) U H Hm F'/\Tm K g F' H Hm k v d (F i):=by
 obtain⟨v,h1,h2⟩:=R.slot i k d e;have li:=bR e;refine⟨v,λj=>if j=i then []else F j,h1,?_,⟨h2,R.off i,λa ha j=>?_,λa ha=>R.notM e hk ha⟩⟩
 .exact {
   len:=by rw[OR];exact R.len
   sub:=R.sub
   slot:=λj k' d' e'=>by
    by_cases c:j=i
    .subst c;rw[aD li]at e';cases e'
    .rw[aj (Ne.symm c)]at e';obtain⟨u,g1,g2⟩:=R.slot j k' d' e';exact⟨u,g1,by rw[if_neg c];exact g2⟩
   off:=λj a ha=>by
    by_cases c:j=i
    .rw[if_pos c]at ha;cases ha
    .rw[if_neg c]at ha;exact R.off j a ha
   bB:=λj a ha=>by
    by_cases c:j=i
    .rw[if_pos c]at ha;cases ha
    .rw[if_neg c]at ha;exact R.bB j a ha
   aL:=λj l a g1 g2=>by
    by_cases c:j=i
    .rw[if_pos c]at g1;cases g1
    .rw[if_neg c]at g1
     by_cases c':l=i
     .rw[if_pos c']at g2;cases g2
     .rw[if_neg c']at g2;exact R.aL j l a g1 g2
   fr:=R.fr
   new:=λj a ha=>by
    by_cases c:j=i
    .rw[if_pos c]at ha;cases ha
    .rw[if_neg c]at ha;exact R.new j a ha
   pin:=λq hq=>by
    obtain⟨g1,ds',g2⟩:=R.pin q hq;have c:i≠q.1:=λz=>by
     rw[<-z,e]at g2;cases g2;cases hk
    exact⟨g1,ds',by rw[aj c];exact g2⟩
   old:=R.old }
 by_cases c:j=i;{rw[if_pos c];simp};rw[if_neg c];exact λz=>c (R.aL j i a z ha)
def iG{n i:Nat}(h:i<n):(List.range n)[i]?=some i:=OB h
def JF{i:Nat}(h:PE X e (mJ i))(hi:i<X.N.length):S1 X Ex (.Return (some e) pos) (gR i):=by
 intro g D' E U H Hm F D hx R p nx rt;replace p:A9 E i D'.rt:=p;unfold A9 at p;split at p
 rotate_left
 .exact p.elim
 rename_i k d e1;rw[cZ]at p;obtain⟨hk,p⟩:=p;have hk:k.pin=false:=by simpa using hk
 obtain⟨v,F',h1,R',T⟩:=R.move e1 hk;exact WS.of (BD h) ⟨v,fN (iG hi) h1,rt _ _ _ _ _ _ _ _ _ p R' T⟩
def eX{i:Nat}(h:bg E i=true):i<E.length:=by rcases OY i E.length with z|z;{exact z};unfold bg at h;rw[OL z]at h;cases h
def Lw{i:Nat}{x:Str}{e:Expr}{pos pos':Pos}{d:DE}(hN:X.N.Nodup)(hi:X.N[i]?=some x)(hl:Loc X.env.scope x)(hs:swapsWith e (some (.Name x pos')) pos.line X.env=pure false)(hf:X.fn x=true\/X.env.scope.names.lookup x=some .local)(h:SE X Ex (aW X) e d):S1 X Ex (.Assign [.Name x pos'] e pos) (aC i d):=by rw[sf];intro g D' E U H Hm F D hx R p nx rt;refine WS.of (Jm hN hi hl bC hs hf) (h g D'.xc E U H Hm F _ _ hx R p λE' k v u H' Hm' F' fp p' R' s' T=>?_);show D.nx ((sel (aW X) U).set i (some u)) H';rw[gI PN (iG (bR hi)) (R'.len▸eX p'.1)];exact nx _ _ _ _ _ p'.2 (R'.put T p'.1) s'
inductive iR(X:Cx)(Y:SN):SK->SN->Prop
 |nil:iR X Y [] []
 |cons {x:Str}{p:Pos}{j i:Nat}{ts:SK}{is:SN}:X.N[j]?=some x->Y[j]?=some i->Loc X.env.scope x->(X.fn x=true\/X.env.scope.names.lookup x=some .local)->iR X Y ts is->iR X Y (.Name x p::ts) (i::is)
inductive fB(X:Cx)(Y:SN):Expr->Tg->Prop
 |nm {x:Str}{p:Pos}{j i:Nat}:X.N[j]?=some x->Y[j]?=some i->Loc X.env.scope x->(X.fn x=true\/X.env.scope.names.lookup x=some .local)->fB X Y (.Name x p) (.nm i)
 |tp {ts:SK}{k:Nat}{p:Pos}{is:SN}:iR X Y ts is->fB X Y (.Tuple ts k p) (.tp is)
 |nt {x:Str}{q p2 p:Pos}{ts:SK}{k k2 j i:Nat}{is:SN}:X.N[j]?=some x->Y[j]?=some i->Loc X.env.scope x->(X.fn x=true\/X.env.scope.names.lookup x=some .local)->iR X Y ts is->fB X Y (.Tuple [.Name x q,.Tuple ts k2 p2] k p) (.nt i is)
noncomputable def Nt (X:Cx)(Y:SN)(tg:Tg)(G:TG):Prop:=∀{g:Gh}{d:PyData}{v:V}{E E2:En}{U:St}{H Hm:Hp}{F:Nat->SH}{Q:St->Hp->Prop},cI tg d E=some E2->Rp X.K Hm v d->Rl X.K g E U H Hm F->(∀σ' F',Rl X.K g E2 σ' H Hm F'->(∀j,j∉tg.slots->σ'[j]?=U[j]?)->Q (sel Y σ') H)->G v (sel Y U) H Q
def wV(hN:X.N.Nodup)(nd:Y.Nodup)(h:iR X Y ts is):∃G:oS,Ay X ts G/\(assignEach ts X.env).length=is.length/\(assignEach ts X.env).findIdx? (·.1)=none /\ ∀{g:Gh}{ds:SA}{vs:List V}{E E2:En}{U:St}{H Hm:Hp}{F:Nat->SH}{Q:St->Hp->Prop},bu is ds E=some E2->av X.K Hm vs ds->Rl X.K g E U H Hm F->(∀σ' F',Rl X.K g E2 σ' H Hm F'->(∀j,j∉is->σ'[j]?=U[j]?)->Q (sel Y σ') H)->vs.length=is.length/\G vs (sel Y U) H Q:=by
 induction h with
 |nil=>
  refine⟨DL,yR,rfl,rfl,λ{g ds vs E E2 U H Hm F Q} h r R q=>?_⟩;cases ds with
  |nil=>cases h;cases r;exact⟨rfl,rfl,q _ _ R λ_ _=>rfl⟩
  |cons _ _=>cases h
 |@cons x p j i ts is h1 h2 h3 h4 _ ih=>
  obtain⟨G,g1,g2,g3,g4⟩:=ih;refine⟨Ad (oG j) G,qj (rX hN h1 h3 h4) g1,?_,?_,λ{g ds vs E E2 U H Hm F Q} h r R q=>?_⟩;{show(assignEach ts X.env).length+1=_;rw[g2];rfl};{show List.findIdx? (·.1) ((false,assign (.Name x p) X.env)::assignEach ts X.env)=none;rw[List.findIdx?_cons,g3];rfl};cases ds with
  |nil=>cases h
  |cons d ds=>
   rw[bu]at h;by_cases o:bg E i=true
   .rw[if_pos o]at h;cases r with
    |cons r1 r2=>
     obtain⟨l,k⟩:=g4 h r2 (R.put (Tm.sh r1) o) λσ' F' R' a=>q σ' F' R' λj' hj=>by have ne:i≠j':=λz=>hj (z▸N6);exact(a j' λz=>hj (NX _ z)).trans (aj ne)
     refine⟨congrArg (·+1) l,_,_,rfl,?_⟩;show G _ ((sel Y U).set j (some _)) H Q;rw[gI nd h2 (R.len▸eX o)];exact k
   rw[if_neg o]at h;cases h
def sE{i:Nat}(h:cI (.nt i is) d E=some E2):∃a ds,d=.tuple [a,.tuple ds]/\bu (i::is) (a::ds) E=some E2:=by
 cases d with
 |tuple l=>
  rcases l with _|⟨a,_|⟨b,_|⟨c,r⟩⟩⟩;{cases h};{cases h}
  .cases b with
   |tuple ds=>exact⟨a,ds,rfl,h⟩
   |_=>cases h
  cases b<;>cases h
 |_=>cases h
def uB(hc:X.calm=true)(hN:X.N.Nodup)(nd:Y.Nodup)(h:fB X Y e tg):∃G,PG X e G/\Nt X Y tg G:=by
 cases h with
 |@nm x p j i h1 h2 h3 h4=>refine⟨oG j,rX hN h1 h3 h4,λ{g d v E E2 U H Hm F Q} h r R q=>?_⟩;have h:bu [i] [d] E=some E2:=h;rw[bu]at h;by_cases o:bg E i=true;{rw[if_pos o]at h;cases h;show Q ((sel Y U).set j (some v)) H;rw[gI nd h2 (R.len▸eX o)];exact q _ _ (R.put (Tm.sh r) o) λj' hj=>aj (show i≠j' from λz=>hj (z▸N6))};rw[if_neg o]at h;cases h
 |@tp ts k p is h=>
  obtain⟨G,g1,g2,g3,g4⟩:=wV hN nd h;refine⟨_,wW hc g1 g2 g3,λ{g d v E E2 U H Hm F Q} h r R q=>?_⟩;cases d with
  |tuple ds=>
   have h:bu is ds E=some E2:=h;cases r with
   |tup a r=>obtain⟨l,k⟩:=g4 h r R q;exact⟨_,_,rfl,aU.of (R.sub _ _ a),l,k⟩
  |_=>cases h
 |@nt x q p2 p ts k k2 j i is h1 h2 h3 h4 h=>
  obtain⟨G,g1,g2,g3,g4⟩:=wV hN nd h;refine⟨_,wW hc (qj (rX hN h1 h3 h4) (qj (wW hc g1 g2 g3) yR)) rfl rfl,λ{g d v E E2 U H Hm F Q} h r R q=>?_⟩;obtain⟨a1,ds,rfl,h⟩:=sE h;cases r with
  |tup a r=>
   cases r with
   |cons r1 r2=>
    cases r2 with
    |cons r2 r3=>
     cases r3;cases r2 with
     |tup b rs=>
      replace h:(if bg E i then bu is ds (E.set i (some (.sh,a1)))else none)=some E2:=h;by_cases o:bg E i=true
      .rw[if_pos o]at h;obtain⟨l,k⟩:=g4 (Q:=λσ' H'=>DL [] σ' H' Q) h rs (R.put (Tm.sh r1) o) λσ' F' R' a=>⟨rfl,q σ' F' R' λj' hj=>by
        have ne:i≠j':=λz=>hj (z▸N6)
        exact(a j' λz=>hj (NX _ z)).trans (aj ne)⟩
       refine⟨_,_,rfl,aU.of (R.sub _ _ a),rfl,_,_,rfl,?_⟩;show Ad _ _ _ ((sel Y U).set j (some _)) H Q;rw[gI nd h2 (R.len▸eX o)];exact⟨_,_,rfl,_,_,rfl,aU.of (R.sub _ _ b),l,k⟩
      rw[if_neg o]at h;cases h
def KP{k:Nat}(hc:X.calm=true)(hN:X.N.Nodup)(ht:iR X (aW X) ts is)(hs:swapsWithSole [.Tuple ts k p] e pos.line X.env=pure false)(hw:swappedStores [.Tuple ts k p] e X.env=pure none)(h:SE X Ex (aW X) e d):S1 X Ex (.Assign [.Tuple ts k p] e pos) (g8 is d):=by
 intro g D' E U H Hm F D hx R pp nx rt;obtain⟨G,g1,g2⟩:=uB hc hN PN (fB.tp (k:=k) (p:=p) ht);refine WS.of (AN bC g1 hs hw) (h g D'.xc E U H Hm F _ _ hx R pp λE' k v u H' Hm' F' fp p' R' s' T=>?_);replace p':bK k.fz _:=p';rw[cZ]at p';obtain⟨hk,p'⟩:=p';unfold Bx at p';split at p'
 rotate_left
 .exact p'.elim
 rename_i ds;rw[<-aY,vA]at p';obtain⟨E2,e2,p'⟩:=p';have e2:cI (.tp is) (.tuple ds) E'=some E2:=e2;obtain⟨Hm2,s2,R2,r2⟩:=T.dZ R' hk;exact g2 e2 r2 R2 λσ' F' R3 _=>nx _ _ _ _ _ p' R3 (s'.trans s2)
def Gf(hp:PassesOwn (model X.prog X.w) X.A X.env X.xe)(hc:ST X Ex (aW X) c t)(hb:SS X Ex b d):S1 X Ex (.While c b [] pos) (uK t d):=by
 intro g D' E U H Hm F D hx R h nx rt;obtain⟨W,⟨m0,w0⟩,step⟩:=h;refine WS.of (DP hp jb iW) ⟨λm τ H'=>∃E' σ' Hm' F',W m E'/\Rl X.K g E' σ' H' Hm' F'/\ah Hm Hm'/\τ=sel (aW X) σ',⟨m0,E,U,Hm,F,w0,R,ah.refl _,rfl⟩,?_⟩;rintro m τ H1⟨E1,σ1,Hm1,F1,w1,R1,s1,rfl⟩;refine hc g D'.xc E1 σ1 H1 Hm1 F1 _ _ hx R1 (step m E1 w1) λE2 b2 H2 Hm2 F2 p2 R2 s2=>?_;cases b2 with
 |true=>
  refine nA ⟨λτ H'=>∃m',m'<m/\∃E' σ' Hm' F',W m' E'/\Rl X.K g E' σ' H' Hm' F'/\ah Hm Hm'/\τ=sel (aW X) σ',λ_ _ z=>z,?_⟩;exact hb g { D' with nx:=λE'=>∃m',m'<m/\W m' E' } E2 σ1 H2 Hm2 F2 _ hx R2 (by simpa using p2) (λE3 σ3 H3 Hm3 F3 p3 R3 s3=>by
   obtain⟨m',hm,w3⟩:=p3;exact⟨m',hm,E3,σ3,Hm3,F3,w3,R3,s1.trans (s2.trans s3),rfl⟩) rt
 |false=>exact n6 (nx _ _ _ _ _ (by simpa using p2) R2 (s1.trans s2))
noncomputable def vU (K:Frag)(J:It)(xs:SA)(dF:Hp):Prop:=∀(i:Nat)(H Hm:Hp),ah dF Hm->ah Hm H->
 (∀d,xs[i]?=some d->J.go i H/\∀x H',J.pC i H x H'->∃Hm',ah Hm Hm'/\ah Hm' H'/\ah H H'/\(∀a,H a≠none->OE (Hm' a) (Hm a))/\Rp K Hm' x d)/\(xs.length<=i->J.stop i H)
noncomputable def SI (X:Cx)(Ex:XK)(Y:SN)(tg e:Expr)(d:DI):Prop:=∃wi:TI,PI X tg e wi /\
 ∀(g:Gh)(x:XC)(E:En)(U:St)(H Hm:Hp)(F:Nat->SH)(P:En->SA->Prop)(R:It->Hp->Prop),XL X Ex x g->Rl X.K g E U H Hm F->d x E P->
  (∀E' xs J H' Hm' F',P E' xs->Rl X.K g E' U H' Hm' F'->ah Hm Hm'->vU X.K J xs Hm'->R J H')->wi (sel Y U) H R
def Rl.turn{F:Nat->SH}(R:Rl K g E U H Hm F)(s1:ah Hm Hm')(s2:ah Hm' H')(s3:ah H H')(old:∀a,H a≠none->OE (Hm' a) (Hm a)):Rl K g E U H' Hm' F:=
 R.grow s3 s1 s2 (λi a ha=>by
  obtain⟨u,hu,nt⟩:=R.bB i a ha;exact(old a (by rw[hu];simp)).off (R.off i a ha) s2 (s3 _ _ hu) nt) λa ha=>old a (R.rA ha)
def LK(hp:PassesOwn (model X.prog X.w) X.A X.env X.xe)(hc:X.calm=true)(hN:X.N.Nodup)(hi:SI X Ex (aW X) tg it di)(ht:fB X (aW X) tg t)(hb:SS X Ex b d)(hs:∀x,foldedSetIterable it X.env x=pure x):S1 X Ex (.For tg it b [] pos) (dS di t d):=by
 intro g D' E U H Hm F D hx R h nx rt;obtain⟨wi,hpi,hw⟩:=hi;obtain⟨G,g1,g2⟩:=uB hc hN PN ht;refine WS.of (IV hp hc hpi g1 iW hs) (hw g D'.xc E U H Hm F _ _ hx R h λE1 xs J H1 Hm1 F1 p1 R1 s1 it1=>?_);obtain⟨I,i0,step,fin⟩:=p1;refine⟨λi m τ H'=>m=xs.length-i/\i<=xs.length/\∃E' σ' Hm' F',I i E'/\Rl X.K g E' σ' H' Hm' F'/\ah Hm1 Hm'/\τ=sel (aW X) σ',⟨xs.length,by simp,ON _,E1,U,Hm1,F1,i0,R1,ah.refl _,rfl⟩,?_⟩;rintro i m τ H2⟨rfl,hi,E2,σ2,Hm2,F2,i2,R2,s2,rfl⟩;obtain⟨go,stop⟩:=it1 i H2 Hm2 s2 R2.sub;by_cases c:i<xs.length;{obtain⟨go,pC⟩:=go xs[i] (O5 c);refine .inr ⟨go,λτ H'=>i+1<=xs.length/\∃E' σ' Hm' F',I (i+1) E'/\Rl X.K g E' σ' H' Hm' F'/\ah Hm1 Hm'/\τ=sel (aW X) σ',λτ H' z=>⟨xs.length-(i+1),by lia,rfl,z⟩,λx H3 y=>?_⟩;obtain⟨Hm3,t1,t2,t3,old,r⟩:=pC x H3 y;have R3:=R2.turn t1 t2 t3 old;obtain⟨E4,e4,p4⟩:=step i xs[i] E2 (O5 c) i2;refine g2 e4 r R3 λσ4 F4 R4 _=>?_;exact hb g { D' with nx:=I (i+1) } E4 σ4 H3 Hm3 F4 _ hx R4 p4 (λE5 σ5 H5 Hm5 F5 p5 R5 s5=>⟨c,E5,σ5,Hm5,F5,p5,R5,s2.trans (t1.trans s5),rfl⟩) rt};have e:i=xs.length:=by lia
 subst e;exact .inl ⟨stop (N5 _),nx _ _ _ _ _ (fin E2 i2) R2 (s1.trans s2)⟩
end
end Dv
namespace L2
open PySem PySem.Spec PyProof.Rows
noncomputable def iL (elt:Expr)(gens:Rq)(scope:Scope)(pos:Pos) (k:Nat)(acc:Value)(env:Env)(fin:Sem Fin):Sem Fin:=match gens[k]? with
 |some g'=>do
  let x <-eval g'.iter env
  standAt g'.iter.pos
  let x <-foldedSetIterable g'.iter env x
  let y <-holding [x] (pyIter x)
  let _ <-runOwn (.compStart (.ListComp elt gens scope pos) k y acc env) env
  fin
 |none=>do
  (do let _ <-call (.builtin "list.append") [acc,<-eval elt env])
  fin
def compTurn_gen{k:Nat}(hk:gens[k]?=some ⟨tg,iter,ifs,0⟩)(ha:∀g∈gens,g.is_async=0)(it acc:Value)(env:Env) :
  compTurn (.ListComp elt gens scope pos) k it acc env=(do
   standAt iter.pos
   match <-pyNext it with
   |none=>pure (.done .next)
   |some v=>
    letOwnedTupleGo tg it v
    assign tg env v
    let mut ok:=true
    for c in ifs do
     if ok then ok <-isTrue c env (eval c env)
    if ok then iL elt gens scope pos (k+1) acc env (again (.compLoop (.ListComp elt gens scope pos) k it acc env))
    else again (.compLoop (.ListComp elt gens scope pos) k it acc env)):=by
 unfold compTurn iL;simp only[hk];cases h:gens[k+1]? with
 |none=>rfl
 |some g'=>have e:=ha g' (OD h);obtain⟨t,i,f,a⟩:=g';dsimp only at e;subst e;rfl
section
variable{prog:Program}{w:World}{A:Around}{R:Result->Shared->Prop}{s:Shared}{elt tg iter:Expr}{gens:Rq}{ifs:SK}{scope:Scope}{pos:Pos}{k:Nat}
def ze(hk:gens[k]?=some ⟨tg,iter,ifs,0⟩)(ha:∀g∈gens,g.is_async=0)(I:Nat->Shared->Prop)(turn:∀n s,I n s->wpAny (model prog w) A (pyNext it) (λr s1=>match r with
   |none=>R (.ok .next) s1
   |some v=>wpAny (model prog w) A (letOwnedTupleGo tg it v) (λ_ s0=>wpAny (model prog w) A (assign tg env v) (λ_ s2=>wpAny (model prog w) A (forIn ifs true λc r=>if r=true then do let ok <-isTrue c env (eval c env);pure (ForInStep.yield ok)else pure (ForInStep.yield r)) (λok s3=>
      if ok=true then ∀(fin:Sem Fin)(Qf:Fin->Shared->Prop),(∀s5,(∃m,m<n/\I m s5)->wpAny (model prog w) A fin Qf (mV prog w A env R) s5)->wpAny (model prog w) A (iL elt gens scope pos (k+1) acc env fin) Qf (mV prog w A env R) s3
      else ∃m,m<n/\I m s3) (mV prog w A env R) s2) (mV prog w A env R) s0) (mV prog w A env R) s1) (mV prog w A env R) s)
  (n:Nat)(h:I n s):codeAny (model prog w) A (.compLoop (.ListComp elt gens scope pos) k it acc env) R s:=by
 refine codeAny_loop rfl I (λn s hI=>?_) n h
 refine(wpAny_noted (?_:_):wpAny _ A ((compTurn (.ListComp elt gens scope pos) k it acc env).onRaise (λx=>do noteFrame x env;theTreesLotGoes x)) _ _ s)
 rw[compTurn_gen hk ha];refine N1 (wpAny_standAt (N1 (Od (turn n s hI) (λr s1 h1=>?_) λ_ _ z=>z)))
 cases r with
 |none=>exact N4 h1
 |some v=>
  refine N1 (Od h1 (λ_ s0 h0=>N1 (Od h0 (λ_ s2 h2=>N1 (Od h2 (λok s3 h3=>?_) λ_ _ z=>z)) λ_ _ z=>z)) λ_ _ z=>z)
  cases ok with
  |false=>exact N4 ⟨rfl,h3⟩
  |true=>exact h3 _ _ λs5 h5=>N4 ⟨rfl,h5⟩
end
noncomputable def lS (N:SQ)(fs scope:Scope)(vs NB:SQ)(ix:SN):Bool:=
 decide (scope.kind=.function)&&scope.names.all (λy=>decide (y.2≠.cell))&&scope.names.all (λy=>decide (y.2≠.local)||decide (scope.names.lookup y.1=some .local)) &&
 scope.names.all (λy=>decide (y.2≠.free)||(decide (fs.names.lookup y.1=some .cell)||decide (fs.names.lookup y.1=some .free))) &&
 decide (NB=vs++ix.map λi=>N.getD i "")&&decide NB.Nodup&&ix.all λi=>match N[i]? with|some y=>decide (scope.names.lookup y=some .free)|none=>false
structure cE(X:Cx)(scope:Scope)(vs NB:SQ)(ix:SN):Prop where
 kind:scope.kind=.function
 cell:∀y∈scope.names,y.2≠.cell
 names:∀y∈scope.names,y.2=.local->scope.names.lookup y.1=some .local
 free:∀y,(y,NameKind.free)∈scope.names->(X.env.kindOf y=some .cell\/X.env.kindOf y=some .free)
 nb:NB=vs++ix.map λi=>X.N.getD i ""
 nd:NB.Nodup
 cap:∀i∈ix,∃y,X.N[i]?=some y/\scope.names.lookup y=some .free
def cE.of(h:lS N fs scope vs NB ix=true)(hN:X.N=N:=by rfl)(hf:X.env.scope=fs:=by rfl):cE X scope vs NB ix:=by
 subst hN hf;unfold lS at h;simp only[N9]at h;obtain⟨⟨⟨⟨⟨⟨h1,h2⟩,h3⟩,h4⟩,h6⟩,h7⟩,h8⟩:=h;refine⟨Oq h1,λy hy=>Oq (N7.mp h2 y hy),λy hy e=>?_,λy hy=>?_,Oq h6,Oq h7,λi hi=>?_⟩;{have z:=N7.mp h3 y hy;rw[Bool.or_eq_true]at z;rcases z with z|z;{exact absurd e (Oq z)};exact Oq z};{have z:=N7.mp h4 _ hy;rw[Bool.or_eq_true,Bool.or_eq_true]at z;rcases z with z|z|z;{exact absurd rfl (Oq z)};{exact .inl (Oq z)};exact .inr (Oq z)};have z:=N7.mp h8 i hi;cases e:X.N[i]? with
 |none=>rw[e]at z;cases z
 |some y=>rw[e]at z;exact⟨y,rfl,Oq z⟩
section
variable{X:Cx}{scope:Scope}{vs:SQ}{NB:SQ}{ix:SN}{pins:Rt}{U:St}{H2:Hp}{s2:Shared}{fp:SH}
def cE.clos(B:cE X scope vs NB ix)(I2:Inv X pins U H2 s2):closureFor scope X.env=pure (eF X.env.cells scope.names []):=
 qw λn hn=>I2.ok.has n (B.free n hn)
def cE.look(B:cE X scope vs NB ix)(I2:Inv X pins U H2 s2){c:Addr}(h:(eF X.env.cells scope.names []).lookup y=some c):X.env.cells.lookup y=some c:=by rcases pI _ _ h with⟨m,e⟩|e;{obtain⟨c',hc⟩:=I2.ok.has y (B.free y m);rw[hc]at e⊢;exact congrArg some e};cases e
def AI(B:cE X scope vs NB ix)(I2:Inv X pins U H2 s2){C:Addr}(hC:s2.heap.objs.size<=C)(f2:∀b∈fp,gu X pins H2 b)(ft:∀b∈fp,b<s2.heap.objs.size):(X.block scope C NB s2 H2 fp).Ok where
 mod:=I2.ok.mod
 kind:=B.kind
 glob:=I2.ok.glob
 blt:=I2.ok.blt
 above:=hC
 inj:=λa b c h1 h2=>I2.ok.inj a b c (B.look I2 h1) (B.look I2 h2)
 has:=λy hy=>by
  have key:∀k,(relabel scope X.env).names.lookup y=some k->(k=.cell\/k=.free)->∃c,(eF X.env.cells scope.names []).lookup y=some c:=λk hk kk=>by
   rcases v7 (names:=scope.names) hk with e|⟨e,_⟩
   .rcases kk with rfl|rfl
    .exact absurd rfl (B.cell _ (iI e))
    .exact jG _ _ (.inl (iI e))
   .exact jG _ _ (.inl (iI e))
  rcases hy with e|e
  .exact key _ e (.inl rfl)
  .exact key _ e (.inr rfl)
 El:=λ_ _ z=>by cases z
 hd:=I2.ok.hd
 frames:=I2.ok.frames
 stk:=.inl rfl
 Ni:=λb hb=>⟨O6 (OH (ft b hb) hC),λy c e=>(f2 b hb).2.2.2.2.1 y c (B.look I2 e)⟩
 bs:=I2.bs
 yL:=NZ I2.ok.yL I2.sz
 Ar:=λb o e hb=>by
  rcases(f2 b hb).2.2.2.1 with z|z
  .exact I2.ok.Ar b o e z
  .exact absurd (OH (N8 (I2.ok.bs b o e).1) z) (Ow _)
 DX:=λb hb z=>by
  rcases NY.mp (I2.nL b z)with e|e
  .exact(f2 b hb).2.1 e
  .exact(f2 b hb).2.2.1 e
 ly:=I2.stack
 Cs:=I2.rM
def yX(B:cE X scope vs NB ix)(I2:Inv X pins U H2 s2){C D:Addr}{tk:Nat}(hC:s2.heap.objs.size<=C)(hD:s2.heap.objs.size<=D)(hDC:D≠C)(f2:∀b∈fp,gu X pins H2 b)(ft:∀b∈fp,b<s2.heap.objs.size)(old:∀b o,s2.heap.get? b=some o->h1.get? b=some o)(hn:h1.Ns C m)(ho:h1.get? D=some oD)(hcl:∀v,oD.data≠.cell v) : Inv (X.block scope C NB s2 H2 fp) [(D,oD)] (List.replicate vs.length none++caps ix U) H2 { s2 with heap:=h1,toks:=tk } where
 ok:=AI B I2 hC f2 ft
 os:=rfl
 bare:=I2.bare
 base:=Un.kept old
 loc:=by
  refine⟨m,hn,λi y v e1 e2 _=>?_⟩
  have e1:NB[i]?=some y:=e1
  by_cases li:i<vs.length
  .rw[QE (by rw[PD];exact li),List.getElem?_replicate,if_pos li]at e2
   cases e2
  .obtain⟨j,rfl⟩:∃j,i=vs.length+j:=⟨i-vs.length,by lia⟩
   have e2:(caps ix U)[j]?=some (some v):=by
    rw[QV (by rw[PD];lia),PD,RQ]at e2
    exact e2
   rw[B.nb]at e1;have e1:(ix.map λi=>X.N.getD i "")[j]?=some y:=by
    rw[QV (by lia),RQ]at e1
    exact e1
   rw[O4]at e1;unfold caps at e2;rw[O4]at e2;cases q:ix[j]? with
   |none=>rw[q]at e1;cases e1
   |some i=>
    rw[q]at e1 e2;obtain⟨z,hz,fz⟩:=B.cap i (OD q);have ey:y=z:=by
     have w:X.N.getD i ""=y:=Option.some.inj e1;rw[<-w,OX,hz];rfl
    subst ey;have e2:(U[i]?).join=some v:=Option.some.inj e2;have es:U[i]?=some (some v):=by
     cases w:U[i]? with
     |none=>rw[w]at e2;cases e2
     |some o=>rw[w]at e2;exact congrArg some e2
    have fk:=B.free y (iI fz);have vis:mX X.env.scope y:=.inr fk;obtain⟨mm,_,hl⟩:=I2.loc;obtain⟨u,ru,lk⟩:=hl i y v hz es vis;refine⟨u,ru,.inr ⟨?_,?_⟩⟩
    .rcases qF (env:=X.env) (names:=scope.names) fz with e|⟨_,e⟩
     .exact .inr e
     .exact .inl e
    .rcases lk with⟨lk,_⟩|⟨_,c,hc,hcell⟩
     .rcases fk with fk|fk
      .rw[lk]at fk;cases fk
      .rw[lk]at fk;cases fk
     .obtain⟨c',hc'⟩:=jG (cells:=X.env.cells) scope.names [] (.inl (iI fz));have e3:=B.look I2 hc';rw[hc]at e3;cases e3;obtain⟨oc,g1,g2⟩:=hcell;exact⟨c,hc',oc,old _ _ g1,g2⟩
 cell:=λy c e=>by
  obtain⟨v,o,g1,g2⟩:=I2.cell y c (B.look I2 e);exact⟨v,o,old _ _ g1,g2⟩
 free:=I2.hok.fresh hC
 jF:=λy c e=>I2.jF y c (B.look I2 e)
 pin:=λp hp=>by
  have e:p=(D,oD):=by simpa[Cx.block]using hp
  subst e;refine⟨ho,I2.hok.fresh hD,hDC,λz=>?_,hcl⟩
  rcases NY.mp (I2.nL D z)with e|e
  .have e:D=X.env.locals:=e;exact absurd (OH I2.lt (e▸hD)) (Ow _)
  .exact I2.IQ hD e
 hok:=I2.hok.kept old
 len:=by
  show(List.replicate vs.length none++caps ix U).length=NB.length;rw[B.nb,NU,NU,Dm,NS,PD]
end
noncomputable abbrev TL:=List V->St->Hp->(List V->St->Hp->Prop)->Prop
noncomputable def PL (X:Cx)(D:Addr)(elt:Expr)(gens:Rq)(scope:Scope)(pos:Pos) (k:Nat)(t:TL):Prop:=
 X.s₀.heap.objs.size<=D->(∀y c,X.env.cells.lookup y=some c->c≠D)->(∀e s',X.xe e s'->False)->
 ∀(pins:Rt)(s:Shared)(U:St)(H:Hp)(ys:List V)(its:SG) (nn:Nat)(Q:List V->St->Hp->Prop)(fin:Sem Fin)(Qf:Fin->Shared->Prop)(E:Ro),
  (∀p∈X.pn++pins,p.1≠D)->Inv X ((D,ic its nn)::pins) U H s->Vals ys its->ys.length<=sizeLine->t ys U H Q->
  (∀s' ys' its' nn' σ' H',Inv X ((D,ic its' nn')::pins) σ' H' s'->Vals ys' its'->ys'.length<=sizeLine->Q ys' σ' H'->wpAny (model X.prog X.w) X.A fin Qf E s')->
  wpAny (model X.prog X.w) X.A (iL elt gens scope pos k (.ref D) X.env fin) Qf E s
noncomputable def Ff (te:TE):TL:=λys U H Q=>te U H λv H1=>ys.length<sizeLine/\Q (ys++[v]) U H1
noncomputable def D6 (J:It)(g:TG)(tt:TT)(tr:TL)(ys0:List V)(σ0:St)(H1:Hp)(Q:List V->St->Hp->Prop):Prop:=
 ∃W:Nat->Nat->List V->St->Hp->Prop,(∃m,W 0 m ys0 σ0 H1)/\∀i m ys U H,W i m ys U H->
  (J.stop i H/\Q ys U H)\/(J.go i H/\∃N:List V->St->Hp->Prop,(∀ys' σ' H',N ys' σ' H'->∃m',m'<m/\W (i+1) m' ys' σ' H') /\
   ∀x H',J.pC i H x H'->g x U H' λσ2 H2=>tt σ2 H2 λb H3=>if b=true then tr ys σ2 H3 N else N ys σ2 H3)
section
variable{X:Cx}{D:Addr}{elt tg iter:Expr}{gens:Rq}{ifs:SK}{scope:Scope}{pos:Pos}{k:Nat}
def yr(he:PE X elt te)(hk:gens[k]?=none:=by rfl):PL X D elt gens scope pos k (Ff te):=by
 intro hD hc hx pins s U H ys its nn Q fin Qf E hp I rv hz h hf;unfold iL;rw[hk];refine N1 (N1 (Od (he _ s U H _ I h) (λy s8 ⟨yv,H8,I8,r8,hlt,n8⟩=>N1 ?_) λe s' z=>(hx e s' z).elim));have pD:=I8.pin (D,ic its nn) (Og _ N6);refine append_at (hsz:=by rw[O0,<-rv.length];exact hz) pD.1 λh9 hs9 hD9=>N4 ?_;have I8n:Inv X pins U H8 s8:=I8.lK λp hp'=>I8.pin p (Og _ (NX _ hp'));have I9:=I8n.turned (h':=h9) (t':=s8.toks) (it:=D) (λb o hb e=>hs9.extBut b o hb e) pD.2.1 pD.2.2.1 (.inr hD) hc hp;have e9:ic (its++[y]) (nn+1)={ cls:=.type "list",data:=.seq (its.toArray.push y) (nn+1) }:=by show({ cls:=.type "list",data:=.seq (its++[y]).toArray (nn+1) }:Obj)=_;rw[List.push_toArray]
 have I10:Inv X ((D,ic (its++[y]) (nn+1))::pins) U H8 { s8 with heap:=h9 }:=by refine I9.lK λp hp'=>?_;rcases NY.mp hp' with rfl|hp';{exact⟨hD9.trans (congrArg some e9.symm),pD.2.1,pD.2.2.1,pD.2.2.2.1,λv q=>by cases q⟩};exact I9.pin p (Og _ hp')
 exact hf _ (ys++[yv]) (its++[y]) (nn+1) U H8 I10 (Vals.append rv (.cons r8 .nil)) (by rw[NU];exact hlt) n8
end
section
variable{X:Cx}{scope:Scope}{vs:SQ}{NB:SQ}{ix:SN}
noncomputable def qU (wi:TI) (n:Nat)(ix:SN)(g:TG)(tt:TT)(tr:TL):TE:=λU H Q=>wi U H λJ H1=>D6 J g tt tr [] (List.replicate n none++caps ix U) H1 λys _ H'=>∀p,H' p=none->Q (.ref p) (upd H' p (.lst ys))
def qI{elt tg iter:Expr}{ifs:SK}{rest:Rq}{pos:Pos}{g:TG}{tt:TT}{tr:TL}{J:It}{it:Addr}{tn:Nat->Heap->Prop}{fp:SH}{pins:Rt}{U:St}{H2:Hp}{s2:Shared}{E:Ro}{RR:Value->Addr->Result->Shared->Prop}{Qr:VK}(B:cE X scope vs NB ix)(hc:X.calm=true)(hg:∀(C:Addr)(s:Shared)(H:Hp)(fp:SH),PG (X.block scope C NB s H fp) tg g)(ht:∀(C:Addr)(s:Shared)(H:Hp)(fp:SH),tL (X.block scope C NB s H fp) ifs tt)(hr:∀(C:Addr)(s:Shared)(H:Hp)(fp:SH)(D:Addr),PL (X.block scope C NB s H fp) D elt (⟨tg,iter,ifs,0⟩::rest) scope pos 1 tr)(ha:∀g∈rest,g.is_async=0)(I2:Inv X pins U H2 s2)(T:Turn X.prog X.w X.K tg J fp it tn)(st2:tn 0 s2.heap)(f2:∀b∈fp,gu X pins H2 b)(h:D6 J g tt tr [] (List.replicate vs.length none++caps ix U) H2 λys _ H'=>∀p,H' p=none->Qr (.ref p) (upd H' p (.lst ys)))(hRR:∀(D C:Addr)(Hf:Hp)(s':Shared)(m':Rr),Inv X pins U Hf s'->s'.heap.Ns C m'->gu X pins Hf C->Qr (.ref D) Hf->RR (.ref D) C (.ok .next) s') : wpAny (model X.prog X.w) X.A (newList []) (λacc s3=>wpAny (model X.prog X.w) X.A (newFunctionEnv scope X.env.globals (eF X.env.cells scope.names []) [] X.env.qual none .none (some X.env)) (λcenv s4=> codeAny (model X.prog X.w) X.A (.compStart (.ListComp elt (⟨tg,iter,ifs,0⟩::rest) scope pos) 0 (.ref it) acc { cenv with scope:=relabel scope X.env }) (RR acc cenv.locals) s4) E s3) E s2:=by
 obtain⟨W,⟨m0,w0⟩,turn⟩:=h;have ha':∀g∈(⟨tg,iter,ifs,0⟩:Comprehension)::rest,g.is_async=0:=λg hg=>by rcases NY.mp hg with rfl|hg;{rfl};exact ha g hg
 refine PJ (wpAny_newFunctionEnv B.cell (by intro y hy;simp at hy) (λh1 hns hsb=>?_) B.kind);dsimp only at hns hsb⊢;generalize eG:s2.heap.push { cls:=.type "list",dict:=none,data:=.seq ([]:SG).toArray }=G at hns hsb⊢;have hC:G.objs.size=s2.heap.objs.size+1:=by rw[<-eG,Ot]
 have hDC:s2.heap.objs.size≠G.objs.size:=by rw[hC];exact O6 (Nat.lt_succ_self _)
 have hCle:s2.heap.objs.size<=G.objs.size:=by rw[hC];exact Nat.le_succ _
 have old:∀b o,s2.heap.get? b=some o->h1.get? b=some o:=λb o e=>by have lt:=N8 e;exact hsb.extBut b o (O6 (OH lt hCle)) (O1 _ (eG▸O1 _ e))
 have hacc:h1.get? s2.heap.objs.size=some (ic [] 0):=hsb.extBut _ _ hDC (O1 _ (eG▸OC _ rfl));have ft:∀b∈fp,b<s2.heap.objs.size:=λb hb=>by obtain⟨o,e,_⟩:=T.obj _ _ st2 b hb;exact N8 e
 have cD:∀y c,(X.block scope G.objs.size NB s2 H2 fp).env.cells.lookup y=some c->c≠s2.heap.objs.size:=λy c e z=>by obtain⟨w,q⟩:=I2.cell y c (B.look I2 e);exact Ow _ (z▸q.lt)
 have loop:∀s3:Shared,s3={ s2 with heap:=h1,toks:=s2.toks+([]:List (Str×Value)).length }->
   codeAny (model X.prog X.w) X.A (.compLoop (.ListComp elt (⟨tg,iter,ifs,0⟩::rest) scope pos) 0 (.ref it) (.ref s2.heap.objs.size) (compEnvC scope (eF X.env.cells scope.names []) G.objs.size X.env))
    (RR (.ref s2.heap.objs.size) G.objs.size) s3:=by
  rintro s3 rfl;have I3:=yX (tk:=s2.toks+([]:List (Str×Value)).length) B I2 hCle (N5 _) hDC f2 ft old hns hacc (λv q=>by cases q)
  have st3:tn 0 h1:=T.keep _ _ _ st2 λb _ o e=>old b o e
  have fy:∀{H':Hp}{oD:Obj},(∀b∈fp,H' b=none)->∀b∈fp,gu (X.block scope G.objs.size NB s2 H2 fp) [(s2.heap.objs.size,oD)] H' b:=λ{H' oD} hn b hb=>by
   refine⟨hn b hb,O6 (OH (ft b hb) hCle),λz=>?_,.inl hb,λy c e=>(f2 b hb).2.2.2.2.1 y c (B.look I2 e),λp hp=>?_⟩;{rcases NY.mp (I2.nL b z)with e|e;{exact(f2 b hb).2.1 e};exact(f2 b hb).2.2.1 e};have e:p=(s2.heap.objs.size,oD):=by simpa[Cx.block]using hp
   subst e;exact Ne.symm (O6 (ft b hb))
  refine ze (k:=0) rfl ha' (λn s'=>∃i ys its nn σ' H',W i n ys σ' H'/\Inv (X.block scope G.objs.size NB s2 H2 fp) [(s2.heap.objs.size,ic its nn)] σ' H' s'/\tn i s'.heap/\(∀b∈fp,H' b=none)/\Vals ys its/\ys.length<=sizeLine)
   ?_ m0 ⟨0,[],[],0,_,H2,w0,I3,st3,λb hb=>(f2 b hb).1,.nil,ON _⟩
  rintro n s'⟨i,ys,its,nn,σ',H',w',I',st',fr',rv,hz⟩;rcases turn i n ys σ' H' w' with⟨stop,q⟩|⟨go,Nx,hNx,step⟩
  .refine Od (T.done (X.block scope G.objs.size NB s2 H2 fp) rfl rfl rfl hc i _ s' _ H' (λ_ _=>False) I' (fy fr') st' stop) (λr s4 ⟨hr',I4⟩=>?_) λ_ _ z=>z.elim
   subst hr';have I5:=Bc I2 f2 (N5 _) I4 rv hz;obtain⟨m4,hn4,_⟩:=I4.loc;have hfree:H' s2.heap.objs.size=none:=(I4.pin (s2.heap.objs.size,ic its nn) (by show _∈[]++[(s2.heap.objs.size,ic its nn)];simp)).2.1
   have fC:gu X pins (upd H' s2.heap.objs.size (.lst ys)) G.objs.size:=I2.nk hCle (by
    rw[ao (Ne.symm hDC)];exact I4.free)
   exact hRR _ _ _ s4 m4 I5 hn4 fC (q _ hfree)
  .refine Od (T.item (X.block scope G.objs.size NB s2 H2 fp) rfl rfl rfl hc i _ s' _ H' (λ_ _=>False) I' (fy fr') st' go) (λr s4 ⟨u,hr',h4⟩=>?_) λ_ _ z=>z.elim
   subst hr';refine Od h4 (λ_ s4 ⟨v,H5,I5,r5,y5,st5,fr5⟩=>?_) λ_ _ z=>z.elim
   have pIt:∀b∈fp,∃o,s4.heap.get? b=some o/\∀v,o.data≠.cell v:=T.obj _ _ st5;have I5':=I5.pinned (fy fr5) pIt;refine Od (hg _ _ _ _ _ s4 σ' H5 v u _ I5' r5 (step v H5 y5)) (λ_ s6 ⟨σ6,H6,I6,q6⟩=>?_) λ_ _ z=>z.elim
   refine Od (ht _ _ _ _ _ s6 σ6 H6 _ I6 q6) (λb s7 ⟨H7,I7,q7⟩=>?_) λ_ _ z=>z.elim
   have stays:∀{s9:Shared}{H9:Hp}{σ9:St}{oD:Obj},Inv (X.block scope G.objs.size NB s2 H2 fp) ((s2.heap.objs.size,oD)::j5 fp s4.heap) σ9 H9 s9->tn (i+1) s9.heap/\(∀b∈fp,H9 b=none)/\Inv (X.block scope G.objs.size NB s2 H2 fp) [(s2.heap.objs.size,oD)] σ9 H9 s9:=λ{s9 H9 σ9 oD} I9=>by
    refine⟨T.keep _ _ _ st5 λb hb o e=>(I9.pin (b,o) (Og _ (NX _ (jD hb e)))).1,λb hb=>?_,I9.lK λp hp'=>I9.pin p (Og _ ?_)⟩
    .obtain⟨o,e,d⟩:=pIt b hb;exact(I9.pin (b,o) (Og _ (NX _ (jD hb e)))).2.1
    .rw[NV.mp hp'];exact N6
   cases b with
   |false=>
    rw[if_neg O9]at q7⊢;obtain⟨m',hm,w7⟩:=hNx _ _ _ q7;obtain⟨g1,g2,g3⟩:=stays I7;exact⟨m',hm,i+1,ys,its,nn,σ6,H7,w7,g3,g1,g2,rv,hz⟩
   |true=>
    rw[if_pos rfl]at q7⊢;intro fin' Qf' hf';refine hr _ _ _ _ s2.heap.objs.size (N5 _) cD (λ_ _ z=>z) (j5 fp s4.heap) s7 σ6 H7 ys its nn Nx fin' Qf' _ (λp hp'=>?_) I7 rv hz q7 λs8 ys8 its8 nn8 σ8 H8 I8 rv8 hz8 n8=>?_
    .have hp'':p∈j5 fp s4.heap:=hp';exact O6 (ft _ (sY hp'').1)
    .obtain⟨m',hm,w8⟩:=hNx _ _ _ n8;obtain⟨g1,g2,g3⟩:=stays I8;exact hf' s8 ⟨m',hm,i+1,ys8,its8,nn8,σ8,H8,w8,g3,g1,g2,rv8,hz8⟩
 exact codeAny_compStart_list (loop _ rfl) (T.self _ 0 _ _ _ (T.keep _ _ _ st2 λb _ o e=>old b o e) (loop _ rfl))
def Eb{elt tg iter:Expr}{ifs:SK}{rest:Rq}{pos:Pos}{wi:TI}{g:TG}{tt:TT}{tr:TL}(B:cE X scope vs NB ix)(hc:X.calm=true)(hi:PI X tg iter wi)(hg:∀(C:Addr)(s:Shared)(H:Hp)(fp:SH),PG (X.block scope C NB s H fp) tg g)(ht:∀(C:Addr)(s:Shared)(H:Hp)(fp:SH),tL (X.block scope C NB s H fp) ifs tt)(hr:∀(C:Addr)(s:Shared)(H:Hp)(fp:SH)(D:Addr),PL (X.block scope C NB s H fp) D elt (⟨tg,iter,ifs,0⟩::rest) scope pos 1 tr)(ha:∀g∈rest,g.is_async=0:=by decide)(hs:∀v,foldedSetIterable iter X.env v=pure v:=by intro _;rfl):PE X (.ListComp elt (⟨tg,iter,ifs,0⟩::rest) scope pos) (qU wi vs.length ix g tt tr):=by intro pins s U H Q I h;rw[eval_ListComp];refine wpAny_comprehension_free (use:=none) rfl hs (B.clos I) B.kind B.names (aQ (hi pins s U H _ I h) λv s1 h1=>aQ h1 λitv s2 h2=>?_);obtain⟨it,fp,tn,J,H2,e,I2,T,st2,f2,w⟩:=h2;subst e;refine qI (Qr:=Q) (RR:=λacc C=>compPost (model X.prog X.w) X.A X.xe none (EP X pins U Q) acc C) B hc hg ht hr ha I2 T st2 f2 w λD C Hf s' m' I' hn' fC q=>?_;refine⟨m',hn',λh'' hs''=>⟨.ref D,Hf,?_,rfl,q⟩⟩;obtain⟨c0,c1,c2,c3,c4,c5⟩:=fC;exact I'.turned (it:=C) (t':=s'.toks) (λb o hb e=>hs''.extBut b o hb e) c0 c1 c3 c4 c5
def vW{elt tg iter:Expr}{ifs:SK}{rest:Rq}{pos py spos:Pos}{wi:TI}{g:TG}{tt:TT}{tr:TL}{j:Nat}{y:Str}(hN:X.N.Nodup)(hj:X.N[j]?=some y)(hy:X.env.scope.names.lookup y=some .local)(B:cE X scope vs NB ix)(hc:X.calm=true)(hi:PI X tg iter wi)(hg:∀(C:Addr)(s:Shared)(H:Hp)(fp:SH),PG (X.block scope C NB s H fp) tg g)(ht:∀(C:Addr)(s:Shared)(H:Hp)(fp:SH),tL (X.block scope C NB s H fp) ifs tt)(hr:∀(C:Addr)(s:Shared)(H:Hp)(fp:SH)(D:Addr),PL (X.block scope C NB s H fp) D elt (⟨tg,iter,ifs,0⟩::rest) scope pos 1 tr)(hsw:swapsWith (.ListComp elt (⟨tg,iter,ifs,0⟩::rest) scope pos) (some (.Name y py)) spos.line X.env=pure true)(ha:∀g∈rest,g.is_async=0:=by decide)(hs:∀v,foldedSetIterable iter X.env v=pure v:=by intro _;rfl):PS X (.Assign [.Name y py] (.ListComp elt (⟨tg,iter,ifs,0⟩::rest) scope pos) spos) (Di (qU wi vs.length ix g tt tr) (oG j)):=by
 intro pins s U H Dn I h;rw[exec_Assign_Name_used _ _ _ _ hsw];refine N1 (wpAny_standAt (N1 ?_));show wpAny (model X.prog X.w) X.A (comprehension (.ListComp elt (⟨tg,iter,ifs,0⟩::rest) scope pos) scope X.env _ (newList []) false (eval iter X.env) (some (assign (.Name y py) X.env))>>=λ_=>pure ()) _ _ s;refine N1 (aQ (wpAny_comprehension_free (use:=some (assign (.Name y py) X.env)) (Q:=λ_ s'=>SP X pins Dn .next s') rfl hs (B.clos I) B.kind B.names (aQ (hi pins s U H _ I h) λv s1 h1=>aQ h1 λitv s2 h2=>?_)) λ_ s' q=>N4 (N4 q));obtain⟨it,fp,tn,J,H2,e,I2,T,st2,f2,w⟩:=h2;subst e;refine qI (Qr:=λx H1=>oG j x U H1 Dn.nx) (RR:=λacc C=>compPost (model X.prog X.w) X.A X.xe (some (assign (.Name y py) X.env)) (λ_ s'=>SP X pins Dn .next s') acc C) B hc hg ht hr ha I2 T st2 f2 w λD C Hf s' m' I' hn' fC q=>?_;obtain⟨c0,c1,c2,c3,c4,c5⟩:=fC;show wpAny (model X.prog X.w) X.A (assign (.Name y py) X.env (.ref D)) _ _ s';refine wpAny_assign_Name (tX I' hN hj (.inl hy) (v:=.ref D) rfl (λs'' I'' ⟨a,sb,ha⟩=>?_) (.inr hy));have hCa:C≠a:=by rcases ha with e|e;{rw[e];exact c1};exact λz=>c4 y a e z.symm
 refine⟨m',hn'.sameBut sb hCa,λh3 hs3=>⟨_,Hf,?_,q⟩⟩;exact I''.turned (it:=C) (t':=s''.toks) (λb o hb e=>hs3.extBut b o hb e) c0 c1 c3 c4 c5
end
end L2
namespace Dv
open PySem L2 PySem.W
section
variable{X:Cx}{Ex:XK}{Y:SN}{tg:Expr}
def DF{a:Addr}(h:cu K dF a xs)(r:av K dF xs ds):vU K (EE K a) ds dF:=by intro i H Hm s1 s2;have q:bX K H a xs:=(cu.mono (s1.trans s2) h).sq;refine⟨λd e=>?_,λl=>⟨xs,q,by rw[r.len];exact l⟩⟩;obtain⟨v,e1,r1⟩:=r.get e;refine⟨⟨xs,v,q,e1⟩,λx H' y=>?_⟩;obtain⟨rfl,y⟩:=y;have:=y xs q;rw[e1]at this;cases this;exact⟨Hm,ah.refl _,s2,ah.refl _,λ_ _=>.inl rfl,r1.mono s1⟩
def FH{a:Addr}(h:dF a=some (.tup xs))(r:av K dF xs ds):vU K (Es K a) ds dF:=by intro i H Hm s1 s2;have q:aU K H a xs:=aU.of (s2 _ _ (s1 _ _ h));refine⟨λd e=>?_,λl=>⟨xs,q,by rw[r.len];exact l⟩⟩;obtain⟨v,e1,r1⟩:=r.get e;refine⟨⟨xs,v,q,e1⟩,λx H' y=>?_⟩;obtain⟨rfl,y⟩:=y;have:=y xs q;rw[e1]at this;cases this;exact⟨Hm,ah.refl _,s2,ah.refl _,λ_ _=>.inl rfl,r1.mono s1⟩
def Gp{lo:Int}{n i:Nat}(h:(jh lo n)[i]?=some d):i<n/\d=.int (lo+i):=by unfold jh at h;rw[O4]at h;by_cases c:i<n;{rw[OB c]at h;cases h;exact⟨c,rfl⟩};rw[OL (by rw[O3];lia)]at h;cases h
def yd{lo:Int}{n:Nat}:vU K (CA lo n) (jh lo n) dF:=by intro i H Hm s1 s2;refine⟨λd e=>?_,λl=>?_⟩;{obtain⟨l,rfl⟩:=Gp e;refine⟨l,λx H' y=>?_⟩;obtain⟨rfl,rfl⟩:=y;exact⟨Hm,ah.refl _,s2,ah.refl _,λ_ _=>.inl rfl,.int _⟩};unfold jh at l;rw[NS,O3]at l;exact l
def qi{T:Addr}(s:ah Hm H)(hT:H T=none)(r1:Rp K Hm x a)(r2:Rp K Hm y b):∃Hm',ah Hm Hm'/\ah Hm' (upd H T (.tup [x,y]))/\ah H (upd H T (.tup [x,y]))/\(∀a,H a≠none->OE (Hm' a) (Hm a))/\Rp K Hm' (.ref T) (.tuple [a,b]):=by have n:=i9 s hT;have s2:=dm (o:=.tup [x,y]) n;refine⟨upd Hm T (.tup [x,y]),s2,λb o e=>?_,dm hT,λa ha=>.inl (ao λz=>ha (z▸hT)),.tup aG (.cons (r1.mono s2) (.cons (r2.mono s2) .nil))⟩;by_cases c:b=T;{rw[c,aG]at e⊢;exact e};rw[ao c]at e⊢;exact s _ _ e
def sX{i:Nat}(h:(d8 ds)[i]?=some d):∃e,ds[i]?=some e/\d=.tuple [.int i,e]:=by
 unfold d8 at h;rw[O4,RX]at h;cases e:ds[i]? with
 |none=>rw[e]at h;cases h
 |some a=>rw[e]at h;simp at h;exact⟨a,rfl,h.symm⟩
def tH(ds:SA):(d8 ds).length=ds.length:=by unfold d8;rw[NS,List.length_zipIdx]
def Dy{a:Addr}(h:cu K dF a xs)(r:av K dF xs ds):vU K (Km K a) (d8 ds) dF:=by intro i H Hm s1 s2;have q:bX K H a xs:=(cu.mono (s1.trans s2) h).sq;refine⟨λd e=>?_,λl=>⟨xs,q,by rw[r.len,<-tH];exact l⟩⟩;obtain⟨d0,e0,rfl⟩:=sX e;obtain⟨v,e1,r1⟩:=r.get e0;refine⟨⟨xs,v,q,e1⟩,λx H' y=>?_⟩;obtain⟨T,hT,rfl,y⟩:=y;obtain⟨x',e2,rfl⟩:=y xs q;rw[e1]at e2;cases e2;exact qi s2 hT (.int _) (r1.mono s1)
open PyProof.Rows in
def Gu{a:Addr}(I:Inv X pins U H s)(hq:bX X.K H a xs)(q:R (EE X.K a) H):wpAny (model X.prog X.w) X.A (pyIter (.ref a)) (Fy X pins U tg R) E s:=by
 obtain⟨its,rv,p,hz⟩:=I.list hq;refine RM p.isList ?_;refine⟨s.heap.objs.size,[s.heap.objs.size],_,_,H,rfl,I.kept (t':=s.toks) λb o e=>O1 _ e,BF a _,⟨_,OC _ rfl,rfl,rfl⟩,λb hb=>?_,q⟩;have e:b=s.heap.objs.size:=by simpa using hb
 subst e;exact I.nk (N5 _) (I.hok.fresh (N5 _))
open PyProof.Rows in
def Jj{a:Addr}(I:Inv X pins U H s)(hq:aU X.K H a xs)(q:R (Es X.K a) H):wpAny (model X.prog X.w) X.A (pyIter (.ref a)) (Fy X pins U tg R) E s:=by
 obtain⟨its,rv,p,hz⟩:=I.tuple hq;refine RY (show s.heap.IsTuple a its.toArray from p) ?_;refine⟨s.heap.objs.size,[s.heap.objs.size],_,_,H,rfl,I.kept (t':=s.toks) λb o e=>O1 _ e,zN a _,⟨_,OC _ rfl,rfl,rfl⟩,λb hb=>?_,q⟩;have e:b=s.heap.objs.size:=by simpa using hb
 subst e;exact I.nk (N5 _) (I.hok.fresh (N5 _))
def gp(h:SE X Ex Y e d):SI X Ex Y tg e (iE d):=by
 rw[K5];refine⟨λU H R=>WE X e U H λx H1=>(∃a,x=.ref a/\(∃xs,bX X.K H1 a xs)/\R (EE X.K a) H1)\/∃a,x=.ref a/\(∃xs,aU X.K H1 a xs)/\R (Es X.K a) H1,?_,?_⟩;{intro pins s U H R I h;refine aQ (h pins s I) λv s1 ⟨x,H1,I1,r1,q1⟩=>?_;rcases q1 with⟨a,rfl,⟨xs,hq⟩,q⟩|⟨a,rfl,⟨xs,hq⟩,q⟩;{cases r1;exact Gu I1 hq q};cases r1;exact Jj I1 hq q};intro g x E U H Hm F P R hx Rl p q;refine h g x E U H Hm F _ _ hx Rl p λE' k v u H' Hm' F' fp p' R' s' T=>?_;obtain⟨hk,ds,e1,p'⟩:=p';obtain⟨Hm2,s2,R2,r2⟩:=T.dZ R' hk;cases r2 with
 |lst a r=>cases e1;exact .inl ⟨_,rfl,⟨_,(cu.mono R2.sub a).sq⟩,q _ _ _ _ _ _ p' R2 (s'.trans s2) (DF a r)⟩
 |tup a r=>cases e1;exact .inr ⟨_,rfl,⟨_,aU.of (R2.sub _ _ a)⟩,q _ _ _ _ _ _ p' R2 (s'.trans s2) (FH a r)⟩
 |_=>cases e1
noncomputable def jU:SA->Option (SA)
 |[.int j]=>@ite _ (-(2^62)<=j/\j<2^62) (Classical.propDecidable _) (some (jh 0 j.toNat)) none
 |_=>none
noncomputable def xy:SA->Option (SA)
 |[.int i,.int j]=>@ite _ (-(2^62)<=i/\i<2^62/\-(2^62)<=j/\j<2^62) (Classical.propDecidable _) (some (jh i (j-i).toNat)) none
 |_=>none
def uY{g:Gh}{U:St}{E:En}{H Hm:Hp}{F:Nat->SH}{as:List Arg}{os:List (Option PyData)}{vs:List V}{ds:SA}{K:Frag}(R:Rl K g E U H Hm F)(G:Got K U Hm as os vs)(h:fill as E os=some ds):av K H vs ds:=lJ R R.sub G h λ_ _ _ _=>rfl
def Lh(hg:Gl X "range")(hm:X.mg "range"=none)(ns:noStar a=true)(S:aM X Ex Y [a] as):SI X Ex Y tg (.Call (.Name "range" p) [a] [] pos) (iB jU as):=by refine⟨_,Cv hg hm (dM (es:=[a]) (by rw[NW,ns];rfl)) (bz ns),λg x E U H Hm F P R hx Rl p q=>?_⟩;refine jj hx S Rl p λE1 os vs H1 Hm1 F1 p1 R1 s1 G=>?_;replace p1:au (cy as E1 os) _:=p1;rw[<-aY,dR]at p1;obtain⟨ds,hf,p1⟩:=p1;rw[<-aY]at p1;obtain⟨xs,hg',p1⟩:=p1;have r:=uY R1 G hf;unfold jU at hg';split at hg';{rename_i j;obtain⟨v,rfl,r1⟩:=dG r;cases r1;split at hg';{rename_i c;cases hg';exact⟨j,rfl,c.1,c.2,q _ _ _ _ _ _ p1 R1 s1 yd⟩};cases hg'};cases hg'
def KA(hg:Gl X "range")(hm:X.mg "range"=none)(ns:noStar a=true)(ns2:noStar b=true)(S:aM X Ex Y [a,b] as):SI X Ex Y tg (.Call (.Name "range" p) [a,b] [] pos) (iB xy as):=by refine⟨_,Bs hg hm (dM (es:=[a,b]) (by rw[NW,NW,ns,ns2];rfl)) ((bz ns).trans (by rw[bz ns2];rfl)) (bz ns2),λg x E U H Hm F P R hx Rl p q=>?_⟩;refine jj hx S Rl p λE1 os vs H1 Hm1 F1 p1 R1 s1 G=>?_;replace p1:au (cy as E1 os) _:=p1;rw[<-aY,dR]at p1;obtain⟨ds,hf,p1⟩:=p1;rw[<-aY]at p1;obtain⟨xs,hg',p1⟩:=p1;have r:=uY R1 G hf;unfold xy at hg';split at hg';{rename_i i j;obtain⟨v,w,rfl,r1,r2⟩:=eV r;cases r1;cases r2;split at hg';{rename_i c;cases hg';exact⟨i,j,rfl,c,q _ _ _ _ _ _ p1 R1 s1 yd⟩};cases hg'};cases hg'
def Lc{x1:Nat}(hg:Gl X "enumerate")(hm:X.mg "enumerate"=none)(ns:noStar e=true)(h:SE X Ex Y e d):SI X Ex Y (.Tuple elts x1 tp) (.Call (.Name "enumerate" p) [e] [] pos) (yg d):=by rw[HA];refine⟨_,G0 hg hm (dM (es:=[e]) (by rw[NW,ns];rfl)) (bz ns),λg x E U H Hm F P R hx Rl p q=>?_⟩;refine h g x E U H Hm F _ _ hx Rl p λE' k v u H' Hm' F' fp p' R' s' T=>?_;obtain⟨hk,ds,rfl,p'⟩:=p';obtain⟨Hm2,s2,R2,r2⟩:=T.dZ R' hk;obtain⟨a,xs,rfl,ha,r⟩:=iK r2;exact⟨a,rfl,⟨xs,(cu.mono R2.sub ha).sq⟩,q _ _ _ _ _ _ p' R2 (s'.trans s2) (Dy ha r)⟩
def Dp{ds es:SA}{i:Nat}(h:((ds.zip es).map λp=>PyData.tuple [p.1,p.2])[i]?=some d):∃a b,ds[i]?=some a/\es[i]?=some b/\d=.tuple [a,b]:=by
 rw[O4]at h;cases e:(ds.zip es)[i]? with
 |none=>rw[e]at h;cases h
 |some p=>rw[e]at h;cases h;obtain⟨h1,h2⟩:=List.getElem?_zip_eq_some.mp e;exact⟨_,_,h1,h2,rfl⟩
end
noncomputable def WG (X:Cx)(tg:Expr):TG:=λv U H Q=>∀(pins:Rt)(s:Shared)(u:Value),Inv X pins U H s->RelV v u->wpAny (model X.prog X.w) X.A (assign tg X.env u) (λ_ s'=>∃σ' H',Inv X pins σ' H' s'/\Q σ' H') X.xe s
def WG.of(h:PG X tg t)(q:t v U H Q):WG X tg v U H Q:=λpins s u I r=>h pins s U H v u Q I r q
noncomputable def wA (X:Cx)(ifs:SK):TT:=λU H Q=>∀(pins:Rt)(s:Shared),Inv X pins U H s->wpAny (model X.prog X.w) X.A (forIn ifs true λc r=>if r=true then do let ok <-isTrue c X.env (eval c X.env);pure (ForInStep.yield ok)else pure (ForInStep.yield r)) (TP X pins U Q) X.xe s
def wA.of(h:tL X ifs t)(q:t U H Q):wA X ifs U H Q:=λpins s I=>h pins s U H Q I q
noncomputable def WL (X:Cx)(D:Addr)(elt:Expr)(gens:Rq)(scope:Scope)(pos:Pos) (k:Nat):TL:=λys U H Q=>
 X.s₀.heap.objs.size<=D->(∀y c,X.env.cells.lookup y=some c->c≠D)->(∀e s',X.xe e s'->False)->
 ∀(pins:Rt)(s:Shared)(its:SG) (nn:Nat)(fin:Sem Fin)(Qf:Fin->Shared->Prop)(E:Ro),
  (∀p∈X.pn++pins,p.1≠D)->Inv X ((D,ic its nn)::pins) U H s->Vals ys its->ys.length<=sizeLine->
  (∀s' ys' its' nn' σ' H',Inv X ((D,ic its' nn')::pins) σ' H' s'->Vals ys' its'->ys'.length<=sizeLine->Q ys' σ' H'->wpAny (model X.prog X.w) X.A fin Qf E s')->
  wpAny (model X.prog X.w) X.A (iL elt gens scope pos k (.ref D) X.env fin) Qf E s
def WL.of{D:Addr}{k:Nat}(h:PL X D elt gens scope pos k t)(q:t ys U H Q):WL X D elt gens scope pos k ys U H Q:=λh1 h2 h3 pins s its nn fin Qf E hp I rv hz hf=>h h1 h2 h3 pins s U H ys its nn Q fin Qf E hp I rv hz q hf
noncomputable def Agree (cs:SN)(U σ':St):Prop:=U.length=σ'.length/\∀j,j∉cs->σ'[j]?=U[j]?
def Agree.refl(cs:SN)(U:St):Agree cs U U:=⟨rfl,λ_ _=>rfl⟩
theorem Agree.trans(h:Agree cs a b)(k:Agree cs b c):Agree cs a c:=⟨h.1.trans k.1,λj hj=>(k.2 j hj).trans (h.2 j hj)⟩
theorem Agree.symm(h:Agree cs a b):Agree cs b a:=⟨h.1.symm,λj hj=>(h.2 j hj).symm⟩
section
variable{K:Frag}{g:Gh}{E E0:En}{U σ':St}{H Hm:Hp}{F:Nat->SH}
def Rl.KC(R:Rl K g E U H Hm F){i:Nat}(o:bg E i=true)(v:Option V):Rl K g (E.set i none) (U.set i v) H Hm (λj=>if j=i then []else F j) where
 len:=by rw[OR,OR];exact R.len
 sub:=R.sub
 slot:=λj k' d' e'=>by
  by_cases c:j=i
  .subst c;rw[aD (eX o)]at e';cases e'
  .rw[aj (Ne.symm c)]at e';obtain⟨u,g1,g2⟩:=R.slot j k' d' e';exact⟨u,by rw[aj (Ne.symm c)];exact g1,by rw[if_neg c];exact g2⟩
 off:=λj a ha=>by
  by_cases c:j=i
  .rw[if_pos c]at ha;cases ha
  .rw[if_neg c]at ha;exact R.off j a ha
 bB:=λj a ha=>by
  by_cases c:j=i
  .rw[if_pos c]at ha;cases ha
  .rw[if_neg c]at ha;exact R.bB j a ha
 aL:=λj l a g1 g2=>by
  by_cases c:j=i
  .rw[if_pos c]at g1;cases g1
  .rw[if_neg c]at g1
   by_cases c':l=i
   .rw[if_pos c']at g2;cases g2
   .rw[if_neg c']at g2;exact R.aL j l a g1 g2
 fr:=R.fr
 new:=λj a ha=>by
  by_cases c:j=i
  .rw[if_pos c]at ha;cases ha
  .rw[if_neg c]at ha;exact R.new j a ha
 pin:=λq hq=>by
  obtain⟨g1,ds',g2⟩:=R.pin q hq;have c:i≠q.1:=λz=>by
   unfold bg at o;rw[z,g2]at o;cases o
  exact⟨by rw[aj c];exact g1,ds',by rw[aj c];exact g2⟩
 old:=R.old
theorem Rl.bE:∀{cs:SN}{E E0:En}{U:St}{F:Nat->SH},Rl K g E U H Hm F->Dv.bE cs E=some E0->∃σ' F',Rl K g E0 σ' H Hm F'/\Agree cs U σ'/\(∀c∈cs,σ'[c]?=some none/\E0[c]?=some none)
 |[],E,E0,U,F,R,h=>by cases h;exact⟨U,F,R,Agree.refl _ _,λ_ z=>by cases z⟩
 |c::cs,E,E0,U,F,R,h=>by
  rw[Dv.bE]at h;by_cases o:bg E c=true
  .rw[if_pos o]at h;have R1:=R.KC o none;obtain⟨σ',F',R',a,n⟩:=Rl.bE (cs:=cs) R1 h;have lc:=eX o;have keep:∀{l:SN}{E E0:En},Dv.bE l E=some E0->∀j,j∉l->E0[j]?=E[j]?:=by
    intro l;induction l with
    |nil=>intro E E0 h j _;cases h;rfl
    |cons i l ih=>intro E E0 h j hj;rw[Dv.bE]at h;by_cases o:bg E i=true;{rw[if_pos o]at h;have ne:i≠j:=λz=>hj (z▸N6);exact(ih h j λz=>hj (NX _ z)).trans (aj ne)};rw[if_neg o]at h;cases h
   refine⟨σ',F',R',⟨by rw[<-a.1,OR],λj hj=>?_⟩,λd hd=>?_⟩;{have ne:c≠j:=λz=>hj (z▸N6);exact(a.2 j λz=>hj (NX _ z)).trans (aj ne)};by_cases m:d∈cs;{exact n d m};have e:d=c:=(NY.mp hd).resolve_right m;subst e;exact⟨(a.2 d m).trans (aD (R.len▸lc)),(keep h d m).trans (aD lc)⟩
  rw[if_neg o]at h;cases h
def Rl.agree(R:Rl K g E U H Hm F)(a:Agree cs U σ')(n:∀c∈cs,E[c]?=some none):Rl K g E σ' H Hm F where
 len:=R.len.trans a.1
 sub:=R.sub
 slot:=λj k d e=>by
  obtain⟨v,h1,h2⟩:=R.slot j k d e;refine⟨v,?_,h2⟩;rw[a.2 j λz=>by rw[n j z]at e;cases e]
  exact h1
 off:=R.off
 bB:=R.bB
 aL:=R.aL
 fr:=R.fr
 new:=R.new
 pin:=λq hq=>by
  obtain⟨g1,ds',g2⟩:=R.pin q hq;refine⟨?_,ds',g2⟩;rw[a.2 q.1 λz=>by rw[n q.1 z]at g2;cases g2]
  exact g1
 old:=R.old
end
inductive ko(X:Cx)(Ex:XK)(Y:SN):SK->DT->Prop
 |nil:ko X Ex Y [] lA
 |one {e:Expr}{t:DT}:ST X Ex Y e t->ko X Ex Y [e] t
def ko.ok(h:ko X Ex Y ifs t){F:Nat->SH}(hx:XL X Ex x g)(R:Rl X.K g E U H Hm F)(p:t x E P)(q:∀E' b H' Hm' F',P E' b->Rl X.K g E' U H' Hm' F'->ah Hm Hm'->Q b H'):wA X ifs (sel Y U) H Q:=by
 cases h with
 |nil=>exact wA.of GR (q _ _ _ _ _ p R (ah.refl _))
 |one h=>exact wA.of (GJ jb) (h g x E U H Hm F P Q hx R p q)
noncomputable def SL (X:Cx)(Y cs:SN)(D:Addr)(elt:Expr)(gens:Rq)(scope:Scope)(pos:Pos) (k:Nat)(dc:DC):Prop:=
 ∀(g:Gh)(E:En)(U:St)(H Hm:Hp)(F:Nat->SH)(ys:List V)(dys:SA)(P:SA->En->Prop)(Q:List V->St->Hp->Prop),Rl X.K g E U H Hm F->av X.K Hm ys dys->dc xF dys E P->
  (∀E' dys' ys' σ' H' Hm' F',P dys' E'->Rl X.K g E' σ' H' Hm' F'->ah Hm Hm'->av X.K Hm' ys' dys'->Agree cs U σ'->Q ys' (sel Y σ') H')->WL X D elt gens scope pos k ys (sel Y U) H Q
section
variable{X:Cx}{Ex:XK}{Y cs:SN}{D:Addr}{elt tg iter:Expr}{ifs:SK}{gens:Rq}{scope:Scope}{pos:Pos}{k:Nat}
def Hl(h:SE X Ex Y elt d)(hk:gens[k]?=none):SL X Y cs D elt gens scope pos k (c8 sizeLine d):=by intro g E U H Hm F ys dys P Q R r p q;refine WL.of (yr bC hk) (h g xF E U H Hm F _ _ XL.no R p λE1 k1 v u H1 Hm1 F1 fp p1 R1 s1 T=>?_);obtain⟨hk,hl,p1⟩:=p1;obtain⟨Hm2,s2,R2,r2⟩:=T.dZ R1 hk;exact⟨by rw[r.len];exact hl,q _ _ _ _ _ _ _ p1 R2 (s1.trans s2) ((r.mono (s1.trans s2)).snoc r2) (Agree.refl _ _)⟩
def DU{xs:SA}{t:Tg}{c:DT}{r:DC}{G:TG}{tt:TT}{tr:TL}{I:Nat->SA->En->Prop}{U:St}{F1:Nat->SH}{Q:List V->St->Hp->Prop}(hts:∀i∈t.slots,i∈cs)(it1:vU K J xs Hm1)(R1:Rl K g E1 U H1 Hm1 F1)(r0:av K Hm1 ys dys)(i0:I 0 dys E1)(hG:∀{d:PyData}{v:V}{E E2:En}{U:St}{H Hm:Hp}{F:Nat->SH}{Q:St->Hp->Prop},cI t d E=some E2->Rp K Hm v d->Rl K g E U H Hm F->(∀σ' F',Rl K g E2 σ' H Hm F'->(∀j,j∉t.slots->σ'[j]?=U[j]?)->Q (sel Y σ') H)->G v (sel Y U) H Q)(hT:∀{E:En}{U:St}{H Hm:Hp}{F:Nat->SH}{P:En->Bool->Prop}{Q:Bool->Hp->Prop},Rl K g E U H Hm F->c xF E P->(∀E' b H' Hm' F',P E' b->Rl K g E' U H' Hm' F'->ah Hm Hm'->Q b H')->tt (sel Y U) H Q)(hR:∀{E:En}{U:St}{H Hm:Hp}{F:Nat->SH}{ys:List V}{dys:SA}{P:SA->En->Prop}{Q:List V->St->Hp->Prop},Rl K g E U H Hm F->av K Hm ys dys->r xF dys E P->(∀E' dys' ys' σ' H' Hm' F',P dys' E'->Rl K g E' σ' H' Hm' F'->ah Hm Hm'->av K Hm' ys' dys'->Agree cs U σ'->Q ys' (sel Y σ') H')->tr ys (sel Y U) H Q)(step:∀i d ys E,xs[i]?=some d->I i ys E->∃E2,cI t d E=some E2/\c xF E2 λE3 b=>if b=true then r xF ys E3 (I (i+1))else I (i+1) ys E3)(fin:∀E' dys' ys' σ' H' Hm' F',I xs.length dys' E'->Rl K g E' σ' H' Hm' F'->ah Hm1 Hm'->av K Hm' ys' dys'->Agree cs U σ'->Q ys' (sel Y σ') H'):D6 J G tt tr ys (sel Y U) H1 Q:=by
 refine⟨λi m ys τ H'=>m=xs.length-i/\i<=xs.length/\∃E' dys' σ' Hm' F',I i dys' E'/\Rl K g E' σ' H' Hm' F'/\ah Hm1 Hm'/\av K Hm' ys dys'/\Agree cs U σ'/\τ=sel Y σ',⟨xs.length,by simp,ON _,E1,dys,U,Hm1,F1,i0,R1,ah.refl _,r0,Agree.refl _ _,rfl⟩,?_⟩;rintro i m ys τ H2⟨rfl,hi,E2,dys2,σ2,Hm2,F2,i2,R2,s2,r2,a2,rfl⟩;obtain⟨go,stop⟩:=it1 i H2 Hm2 s2 R2.sub;by_cases c':i<xs.length
 .obtain⟨go,pC⟩:=go xs[i] (O5 c');refine .inr ⟨go,λys τ H'=>i+1<=xs.length/\∃E' dys' σ' Hm' F',I (i+1) dys' E'/\Rl K g E' σ' H' Hm' F'/\ah Hm1 Hm'/\av K Hm' ys dys'/\Agree cs U σ'/\τ=sel Y σ',λys τ H' z=>⟨xs.length-(i+1),by lia,rfl,z⟩,λx H3 y=>?_⟩;obtain⟨Hm3,t1,t2,t3,old,rx⟩:=pC x H3 y;have R3:=R2.turn t1 t2 t3 old;obtain⟨E4,e4,p4⟩:=step i xs[i] dys2 E2 (O5 c') i2;refine hG e4 rx R3 λσ4 F4 R4 ag=>?_;have a4:Agree cs U σ4:=a2.trans ⟨by rw[<-R3.len,<-R4.len];exact(show E2.length=E4.length from R3.len.trans (by
   have h1:=R3.len;have h2:=R4.len;have:E4.length=E2.length:=by
    have go:∀{is:SN}{ds:SA}{E E':En},bu is ds E=some E'->E'.length=E.length:=by
     intro is
     induction is with
     |nil=>intro ds E E' h;cases ds with|nil=>cases h;rfl|cons _ _=>cases h
     |cons j is ih=>
      intro ds E E' h;cases ds with
      |nil=>cases h
      |cons d ds=>
       rw[bu]at h
       by_cases o:bg E j=true
       .rw[if_pos o]at h;rw[ih h,OR]
       .rw[if_neg o]at h;cases h
    cases t with
    |nm j=>exact go (is:=[j]) e4
    |tp js=>
     cases hd:xs[i]with
     |tuple ds=>rw[hd]at e4;exact go (is:=js) e4
     |_=>rw[hd]at e4;cases e4
    |nt j js=>
     obtain⟨a,ds,hd,e4⟩:=sE e4;exact go (is:=j::js) e4
   lia)),λj hj=>ag j λz=>hj (hts j z)⟩
  refine hT R4 p4 λE5 b H5 Hm5 F5 p5 R5 s5=>?_;cases b with
  |true=>refine nA (hR R5 (r2.mono (t1.trans s5)) (by simpa using p5) λE6 dys6 ys6 σ6 H6 Hm6 F6 p6 R6 s6 r6 a6=>?_);exact⟨c',E6,dys6,σ6,Hm6,F6,p6,R6,s2.trans (t1.trans (s5.trans s6)),r6,a4.trans a6,rfl⟩
  |false=>exact n6 ⟨c',E5,dys2,σ4,Hm5,F5,by simpa using p5,R5,s2.trans (t1.trans s5),r2.mono (t1.trans s5),a4,rfl⟩
 have e:i=xs.length:=by lia
 subst e;exact .inl ⟨stop (N5 _),fin _ _ _ _ _ _ _ i2 R2 s2 r2 a2⟩
def Dd:caps ix (sel Y U)=ix.map λi=>(((Y[i]?).map λm=>(U[m]?).join)).join:=by unfold caps sel;refine P5 λi _=>?_;rw[O4]
noncomputable def cg (Y cs ix:SN):SN:=cs++ix.map λi=>(Y[i]?).getD 0
def xT(hix:∀i∈ix,i<Y.length)(aL:∀c∈cs,c∉Y)(a:Agree cs U σ0)(n:∀c∈cs,σ0[c]?=some none):List.replicate cs.length none++caps ix (sel Y U)=sel (cg Y cs ix) σ0:=by unfold cg;rw[Dd];unfold sel;rw[OA,Oc];congr 1;{refine(List.eq_replicate_iff.mpr ⟨NS ..,λx hx=>?_⟩).symm;obtain⟨c,hc,rfl⟩:=NT.mp hx;rw[n c hc];rfl};refine P5 λi hi=>?_;have l:=hix i hi;show((Y[i]?).map λm=>(U[m]?).join).join=(σ0[(Y[i]?).getD 0]?).join;rw[O5 l];show(U[Y[i]]?).join=(σ0[Y[i]]?).join;rw[a.2 Y[i] λz=>aL _ z (Pz l)]
def xU{rest:Rq}{vs NB:SQ}{ix:SN}{di:DI}{t:Tg}{c:DT}{r:DC}(B:cE X scope vs NB ix)(hc:X.calm=true)(hcs:cs.length=vs.length)(hix:∀i∈ix,i<Y.length)(aL:∀c∈cs,c∉Y)(nd:(cg Y cs ix).Nodup)(hi:SI X Ex Y tg iter di)(ht:∀(C:Addr)(s:Shared)(H:Hp)(fp:SH),fB (X.block scope C NB s H fp) (cg Y cs ix) tg t)(hts:∀i∈t.slots,i∈cs)(hif:∀(C:Addr)(s:Shared)(H:Hp)(fp:SH),ko (X.block scope C NB s H fp) E0 (cg Y cs ix) ifs c)(hr:∀(C:Addr)(s:Shared)(H:Hp)(fp:SH)(D:Addr),SL (X.block scope C NB s H fp) (cg Y cs ix) cs D elt (⟨tg,iter,ifs,0⟩::rest) scope pos 1 r)(ha:∀g∈rest,g.is_async=0)(hs:∀v,foldedSetIterable iter X.env v=pure v){w:(V->Hp->Prop)->St->Hp->Prop}(hw:∀{wi:TI}{G:TG}{tt:TT}{tr:TL}{U:St}{H:Hp}{Q:VK},PI X tg iter wi->(∀(C:Addr)(s:Shared)(H:Hp)(fp:SH),PG (X.block scope C NB s H fp) tg G)->(∀(C:Addr)(s:Shared)(H:Hp)(fp:SH),tL (X.block scope C NB s H fp) ifs tt)-> (∀(C:Addr)(s:Shared)(H:Hp)(fp:SH)(D:Addr),PL (X.block scope C NB s H fp) D elt (⟨tg,iter,ifs,0⟩::rest) scope pos 1 tr)->qU wi vs.length ix G tt tr U H Q->w Q U H)(g:Gh)(x:XC)(E:En)(U:St)(H Hm:Hp)(F:Nat->SH)(P:En->Kd->PyData->Prop)(Q:VK)(hx:XL X Ex x g)(R:Rl X.K g E U H Hm F)(p:c9 cs di t c r x E P)(q:∀E' k v u H' Hm' F' fp,P E' k v->Rl X.K g E' U H' Hm' F'->ah Hm Hm'->Tm X.K g F' H' Hm' k u v fp->Q u H'):w Q (sel Y U) H:=by
 obtain⟨wi,hpi,hwi⟩:=hi;refine hw (wi:=wi) (G:=λv U H Q=>∀(C:Addr)(s:Shared)(H2:Hp)(fp:SH),WG (X.block scope C NB s H2 fp) tg v U H Q) (tt:=λU H Q=>∀(C:Addr)(s:Shared)(H2:Hp)(fp:SH),wA (X.block scope C NB s H2 fp) ifs U H Q)
  (tr:=λys U H Q=>∀(C:Addr)(s:Shared)(H2:Hp)(fp:SH)(D:Addr),WL (X.block scope C NB s H2 fp) D elt (⟨tg,iter,ifs,0⟩::rest) scope pos 1 ys U H Q) hpi (λC s H2 fp pins s' U H v u Q I r h=>h C s H2 fp pins s' u I r) (λC s H2 fp pins s' U H Q I h=>h C s H2 fp pins s' I)
  (λC s H2 fp D h1 h2 h3 pins s' U H ys its nn Q fin Qf E hp I rv hz h hf=>h C s H2 fp D h1 h2 h3 pins s' its nn fin Qf E hp I rv hz hf) ?_
 refine hwi g x E U H Hm F _ _ hx R p λE1 xs J H1 Hm1 F1 p1 R1 s1 it1=>?_;obtain⟨E0',I,hcl,i0,step,fin⟩:=p1;obtain⟨σ0,F0,R0,a0,n0⟩:=R1.bE hcl;rw[<-hcs,xT hix aL a0 λc hc=>(n0 c hc).1];refine DU (cs:=cs) (t:=t) (c:=c) (r:=r) hts it1 R0 .nil i0 (λh1 h2 h3 h4 C s H2 fp=>?_) (λh1 h2 h3 C s H2 fp=>(hif C s H2 fp).ok XL.no h1 h2 h3) (λh1 h2 h3 h4 C s H2 fp D=>hr C s H2 fp D g _ _ _ _ _ _ _ _ _ h1 h2 h3 h4) step λE' dys' ys' σ' H' Hm' F' i R' s' r' a' p hp=>?_;{obtain⟨G,g1,g2⟩:=uB (X:=X.block scope C NB s H2 fp) hc B.nd nd (ht C s H2 fp);exact WG.of g1 (g2 h1 h2 h3 h4)};obtain⟨E2,hcl2,p2⟩:=fin _ _ i;obtain⟨σ2,F2,R2,a2,n2⟩:=R'.bE hcl2;have R3:=R2.agree (cs:=cs) ((a0.trans a').trans a2).symm λc hc=>(n2 c hc).2;have s2:=dm (o:=.lst ys') hp;have R4:=R3.grow (H':=upd H' p (.lst ys')) s2 (ah.refl _) (R3.sub.trans s2) (λi a ha=>R3.off i a ha) λ_ _=>.inl rfl;refine q _ _ _ _ _ Hm' F2 [p] p2 R4 (s1.trans s') ⟨.ow aG r',λa ha=>?_,λa ha i=>?_,λa ha=>?_⟩;{rw[NV.mp ha];exact R3.Cz hp};{rw[NV.mp ha];exact R3.fresh hp};rw[NV.mp ha];exact R3.ir hp
end
section
variable{X:Cx}{Ex:XK}{Y cs:SN}{elt tg iter:Expr}{ifs:SK}{scope:Scope}{pos:Pos}
def Ji{rest:Rq}{vs NB:SQ}{ix:SN}{di:DI}{t:Tg}{c:DT}{r:DC}(B:cE X scope vs NB ix)(hc:X.calm=true)(hcs:cs.length=vs.length)(hix:∀i∈ix,i<Y.length)(aL:∀c∈cs,c∉Y)(nd:(cg Y cs ix).Nodup)(hi:SI X Ex Y tg iter di)(ht:∀(C:Addr)(s:Shared)(H:Hp)(fp:SH),fB (X.block scope C NB s H fp) (cg Y cs ix) tg t)(hts:∀i∈t.slots,i∈cs)(hif:∀(C:Addr)(s:Shared)(H:Hp)(fp:SH),ko (X.block scope C NB s H fp) E0 (cg Y cs ix) ifs c)(hr:∀(C:Addr)(s:Shared)(H:Hp)(fp:SH)(D:Addr),SL (X.block scope C NB s H fp) (cg Y cs ix) cs D elt (⟨tg,iter,ifs,0⟩::rest) scope pos 1 r)(ha:∀g∈rest,g.is_async=0)(hs:∀v,foldedSetIterable iter X.env v=pure v):SE X Ex Y (.ListComp elt (⟨tg,iter,ifs,0⟩::rest) scope pos) (c9 cs di t c r):=λg x E U H Hm F P Q hx R p q=>
 xU B hc hcs hix aL nd hi ht hts hif hr ha hs (w:=λQ U H=>WE X (.ListComp elt (⟨tg,iter,ifs,0⟩::rest) scope pos) U H Q) (λh1 h2 h3 h4 h5=>WE.of (Eb B hc h1 h2 h3 h4 ha hs) h5) g x E U H Hm F P Q hx R p q
def LG{j:Nat}{y:Str}{py spos:Pos}(hN:X.N.Nodup)(hj:X.N[j]?=some y)(hy:X.env.scope.names.lookup y=some .local){rest:Rq}{vs NB:SQ}{ix:SN}{di:DI}{t:Tg}{c:DT}{r:DC}(B:cE X scope vs NB ix)(hc:X.calm=true)(hcs:cs.length=vs.length)(hix:∀i∈ix,i<(aW X).length)(aL:∀c∈cs,c∉aW X)(nd:(cg (aW X) cs ix).Nodup)(hi:SI X Ex (aW X) tg iter di)(ht:∀(C:Addr)(s:Shared)(H:Hp)(fp:SH),fB (X.block scope C NB s H fp) (cg (aW X) cs ix) tg t)(hts:∀i∈t.slots,i∈cs)(hif:∀(C:Addr)(s:Shared)(H:Hp)(fp:SH),ko (X.block scope C NB s H fp) E0 (cg (aW X) cs ix) ifs c)(hr:∀(C:Addr)(s:Shared)(H:Hp)(fp:SH)(D:Addr),SL (X.block scope C NB s H fp) (cg (aW X) cs ix) cs D elt (⟨tg,iter,ifs,0⟩::rest) scope pos 1 r)(ha:∀g∈rest,g.is_async=0)(hs:∀v,foldedSetIterable iter X.env v=pure v)(hsw:swapsWith (.ListComp elt (⟨tg,iter,ifs,0⟩::rest) scope pos) (some (.Name y py)) spos.line X.env=pure true):S1 X Ex (.Assign [.Name y py] (.ListComp elt (⟨tg,iter,ifs,0⟩::rest) scope pos) spos) (aC j (c9 cs di t c r)):=by
 rw[sf];intro g D' E U H Hm F D hx R p nx rt;refine xU B hc hcs hix aL nd hi ht hts hif hr ha hs (w:=λQ τ H=>(Q=λu H1=>D.nx (τ.set j (some u)) H1)->WS X (.Assign [.Name y py] (.ListComp elt (⟨tg,iter,ifs,0⟩::rest) scope pos) spos) D τ H)
  (λh1 h2 h3 h4 h5 e=>by
   subst e;exact WS.of (vW hN hj hy B hc h1 h2 h3 h4 hsw ha hs) h5) g D'.xc E U H Hm F _ _ hx R p (λE' k v u H' Hm' F' fp p' R' s' T=>?_) rfl
 rw[gI PN (iG (bR hj)) (R'.len▸eX p'.1)];exact nx _ _ _ _ _ p'.2 (R'.put T p'.1) s'
end
end Dv
namespace L2
open PySem PySem.Spec PyProof.Rows
section
variable{X:Cx}
theorem tM:∀{xs:List V}{us:SG} (k:Nat),Vals xs us->Vals (xs.take k) (us.take k)
 |_,_,0,_=>.nil
 |_,_,_+1,.nil=>.nil
 |_,_,k+1,.cons h r=>.cons h (tM k r)
theorem tW:∀{xs:List V}{us:SG} (k:Nat),Vals xs us->Vals (xs.drop k) (us.drop k)
 |_,_,0,h=>h
 |_,_,_+1,.nil=>.nil
 |_,_,k+1,.cons _ r=>tW k r
theorem uJ:∀{xs ys:List V}{us ws:SG},Vals xs us->Vals ys ws->Vals (xs++ys) (us++ws)
 |_,_,_,_,.nil,h=>h
 |_,_,_,_,.cons h r,h2=>.cons h (uJ r h2)
inductive vf(x:V)(vs:List V)(H:Hp)(Q:VK):Prop
 |mk:∀(l:Addr)(xs:List V) (i:Nat) (y:V),(x=.ref l)->(vs=[.int (i:Int),y])->(H l=some (.lst xs))->(i<=xs.length)->(xs.length<sizeLine)->(Q .bq (upd H l (.lst (xs.take i++y::xs.drop i))))->vf x vs H Q
noncomputable def xJ:V->List V->Hp->VK->Prop:=λx vs H Q=>vf x vs H Q
def Be:qu X "list.insert" xJ:=by
 intro pins s U H x vs v us Q I rx rv h;obtain⟨l,xs,i,y,rfl,rfl,hH,hi,hs,q⟩:=h;cases rx;obtain⟨u1,u2,rfl,ru1,ru2⟩:=rv.two;obtain⟨t,rfl⟩:=ru1;obtain⟨z,its,n,r,hl,e⟩:=I.zz hH;have line:sizeLine<2^62:=by decide
 have fit:¬(!Builtin.List.listFitsIndex (i:Int))=true:=by rw[fitsIndex_both (k:=(i:Int)) (by lia) (by lia)];decide
 have sz:its.toArray.size<=sizeLine:=by rw[O0];lia
 have key:((λxs:Rz=>have k:=if(i:Int)<0 then((i:Int)+(xs.size:Int)).toNat else min (i:Int).toNat xs.size;(xs.extract 0 k).push u2++xs.extract k) its.toArray)=(its.take i++u2::its.drop i).toArray:=by
  have h1:¬((i:Int)<0):=by lia
  have h2:min i its.length=i:=by lia
  apply Array.toList_inj.mp;simp[h1,h2];exact Ph (by simp)
 have I2:∀tk,Inv X pins U (upd H l (.lst (xs.take i++y::xs.drop i))) { s with heap:=s.heap.update l (Obj.mapSeq (λxs:Rz=>have k:=if(i:Int)<0 then((i:Int)+(xs.size:Int)).toNat else min (i:Int).toNat xs.size;(xs.extract 0 k).push u2++xs.extract k)),toks:=tk }:=λtk=>I.yV (its':=its.take i++u2::its.drop i) hH e key (uJ (tM i r) (.cons ru2 (tW i r))) (by
  rw[NU,OF,OM,OO];lia)
 generalize (i:Int)=x at fit I2⊢;exact Pd F.slot_list_insert ⟨_,e,rfl⟩ F.entry_list_insert (F.args_list_insert_3 _ _ _) (AutoSeq1.list_insert_list_int_val_1 l its.toArray n x t u2 fit sz) ⟨e,.bq,_,I2 _,rfl,q⟩
end
end L2
namespace Dv
open PySem L2 PySem.W
noncomputable def tZ (K:Frag)(f:DM)(r:V->List V->Hp->VK->Prop):Prop:=∀(H Hm:Hp)(a:Addr)(xs:List V)(ds:SA)(vs:List V)(args:SA)(P:SA->PyData->Prop)(Q:VK),H a=some (.lst xs)->Hm a=none->ah Hm H->av K Hm xs ds->av K Hm vs args->f ds args P->
 (∀ys new u v,P new v->av K Hm ys new->Rp K Hm u v->Q u (upd H a (.lst ys)))->r (.ref a) vs H Q
theorem Cy:∀{es:List DE}{os:List (Option PyData)}{vs:List V}{ds:SA},Got K U Hm (es.map .ev) os vs->fill (es.map .ev) E os=some ds->av K Hm vs ds
 |[],_,_,_,.nil,h=>by cases h;exact .nil
 |e::es,_,_,_,.ev (os:=os) r G,h=>by
  have h:(fill (es.map .ev) E os).map (_::·)=some _:=h;cases hf:fill (es.map .ev) E os with
  |none=>rw[hf]at h;cases h
  |some ds=>rw[hf]at h;cases h;exact .cons r (Cy G hf)
inductive pJ(X:Cx)(Ex:XK)(Y:SN):SK->List DE->Prop
 |nil:pJ X Ex Y [] []
 |cons {e:Expr}{d:DE}{es:SK}{ds:List DE}:SE X Ex Y e d->pJ X Ex Y es ds->pJ X Ex Y (e::es) (d::ds)
def pJ.as(h:pJ X Ex Y es ds):aM X Ex Y es (ds.map .ev):=by
 induction h with
 |nil=>exact .nil
 |cons h _ ih=>exact .ev h ih
def AX(ns:es.all noStar=true)(l:es.length<30):((backTo cpos (starEach es env)).all (λx=>!x.1)&&(backToKw cpos (keywordEach [] env)).all (λx=>x.1.isSome)&&decide (es.length+([]:List Keyword).length+(if([]:List Keyword).isEmpty then 0 else 1)<30))=true:=by have h:=gk (pos:=cpos) (env:=env) ns;rw[List.any_eq_false]at h;rw[N9,N9,N7];refine⟨⟨λx hx=>by simpa using h x hx,rfl⟩,Pw ?_⟩;show es.length+0+0<30;lia
section
variable{X:Cx}{Ex:XK}{Y:SN}
def DH{i:Nat}(h:kX E i=true):∃p ds,E[i]?=some (some (.ow p,.list ds)):=by unfold kX at h;split at h;{rename_i p ds e;exact⟨p,ds,e⟩};cases h
def Lm{x name:Str}{id:String}{p apos cpos:Pos}{es:SK}{ds:List DE}{f:DM}{r:V->List V->Hp->VK->Prop}{i j:Nat}(hm:qu X id r)(D:tZ X.K f r)(slot:Slot "list" name id)(hty:typeOf (.builtin id)=pure (.type "method_descriptor"))(hv:PE X (.Name x p) (mJ j))(hj:Y[j]?=some i)(ns:es.all noStar=true)(l30:es.length<30)(hline:(apos.endLine==cpos.line)=true)(S:pJ X Ex Y es ds):SE X Ex Y (.Call (.Attribute (.Name x p) name apos) es [] cpos) (iA f i ds):=by
 intro g xc E U H Hm F P Q hx R h q;replace h:bK (kX E i) _:=h;rw[cZ]at h;obtain⟨ho,h⟩:=h;obtain⟨p0,ds0,e0⟩:=DH ho;obtain⟨v,h1,h2⟩:=R.slot i _ _ e0;have hs1:=fN hj h1;have fin:∀a xs0,v=.ref a->H a=some (.lst xs0)->nV X es (sel Y U) H λvs H2=>r (.ref a) vs H2 Q:=λa xs0 ev _=>by
  subst ev;refine jj hx S.as R h λE1 os vs H1 Hm1 F1 p1 R1 s1 G=>?_;replace p1:Bp f i (ds.map .ev) E1 os P:=p1;unfold Bp at p1;rw[<-aY,dR]at p1;obtain⟨args,hf,p1⟩:=p1;split at p1
  rotate_left
  .exact p1.elim
  rename_i p1' ds1 e1;have ra:=Cy G hf;obtain⟨v',g1,g2⟩:=R1.slot i _ _ e1;rw[h1]at g1;cases g1;generalize hfi:F1 i=fi at g2;cases g2 with
  |@ow _ _ xs1 _ ha1 hr1=>refine D H1 Hm1 a xs1 ds1 vs args _ Q ha1 (R1.off i a (by rw[hfi];exact N6)) R1.sub hr1 ra p1 λys new u v p2 ry ru=>?_;obtain⟨a',xs',k1,k2,k3,k4,R2⟩:=R1.chg e1 ry;rw[h1]at k1;cases k1;exact q _ _ _ _ _ _ _ [] p2 R2 s1 (Tm.sh ru)
 generalize hfi:F i=fi at h2;cases h2 with
 |@ow _ a xs _ ha hr=>
  cases es with
  |nil=>exact WE.of (HF Qn slot hty hm hv rfl hline) ⟨_,hs1,.inl ⟨rfl,_,bX.of ha⟩,fin a xs rfl ha⟩
  |cons e es=>have ns':=ns;rw[NW,N9]at ns';exact WE.of (zD Qn slot hty hm hv (dM ns) rfl (AX ns l30) hline (bz ns'.1) (gk ns'.2)) ⟨_,hs1,.inl ⟨rfl,_,bX.of ha⟩,fin a xs rfl ha⟩
noncomputable def cj:DM:=λds args P=>match args with
 |[d]=>ds.length<sizeLine/\P (ds++[d]) .none
 |_=>False
def b8:tZ K cj yG:=by intro H Hm a xs ds vs args P Q ha _ s r ra h q;unfold cj at h;split at h;{obtain⟨x,rfl,h1⟩:=dG ra;exact⟨a,xs,x,rfl,rfl,ha,by rw[r.len];exact h.1,q _ _ _ _ h.2 (r.snoc h1) .bq⟩};exact h.elim
inductive tS(K:Frag) (x:V)(vs:List V)(H:Hp)(Q:VK):Prop
 |mk:∀l b xs zs,(x=.ref l)->(vs=[.ref b])->(H l=some (.lst xs))->(cu K H b zs)->(xs.length+zs.length<=sizeLine)->(Q .bq (upd H l (.lst (xs++zs))))->tS K x vs H Q
noncomputable def uN (K:Frag):V->List V->Hp->VK->Prop:=λx vs H Q=>tS K x vs H Q
open PyProof.Rows in
def qJ:qu X "list.extend" (uN X.K):=by
 intro pins s U H x vs v us Q I rx rv h;obtain⟨l,b,xs,zs,rfl,rfl,hH,hB,hz,q⟩:=h;cases rx;obtain⟨u,rfl,ru⟩:=rv.one;cases ru;obtain⟨z,its,n,r,hl,e⟩:=I.zz hH;obtain⟨z2,its2,n2,r2,e2⟩:=hB.get I;have hl2:=r2.length;have hsz:its.toArray.size+its2.toArray.size<=sizeLine:=by rw[O0,O0];lia
 have hlong:¬(!its.toArray.isEmpty&&Builtin.List.listTooLong (its.toArray.size+its2.toArray.size))=true:=by rw[qt hsz,Bool.and_false];exact O9
 refine Pd F.slot_list_extend ⟨_,e,rfl⟩ F.entry_list_extend (F.args_list_extend_2 _ _)
  (AutoSeq1.list_extend_list_list_0 l its.toArray n b its2.toArray n2 hlong (by rw[O0];lia) (by lia)) ⟨e,e2,?_⟩
 refine⟨.bq,_,I.yV (its':=its++its2) hH e (by simp) (r.append r2) ?_,rfl,q⟩;rw[NU];lia
noncomputable def l0:DM:=λds args P=>match args with
 |[.list es]=>ds.length+es.length<=sizeLine/\P (ds++es) .none
 |_=>False
def rm:tZ K l0 (uN K):=by intro H Hm a xs ds vs args P Q ha _ s r ra h q;unfold l0 at h;split at h;{obtain⟨x,rfl,h1⟩:=dG ra;obtain⟨b,zs,rfl,hb,r2⟩:=iK h1;exact⟨a,b,xs,zs,rfl,rfl,ha,cu.mono s hb,by rw[r.len,r2.len];exact h.1,q _ _ _ _ h.2 (r.app r2) .bq⟩};exact h.elim
noncomputable def Kr:DM:=λds args P=>match args with
 |[]=>∃d,ds[ds.length-1]?=some d/\P ds.dropLast d
 |[.int i]=>(-(2^63)<=i/\i<2^63)/\∃n d,seqIndex? i ds.length=some n/\ds[n]?=some d/\P (ds.eraseIdx n) d
 |_=>False
noncomputable def sG:DM:=λds args P=>match args with
 |[.int i,d]=>∃n:Nat,i=n/\n<=ds.length/\ds.length<sizeLine/\P (ds.take n++d::ds.drop n) .none
 |_=>False
def yW:tZ K sG xJ:=by intro H Hm a xs ds vs args P Q ha _ s r ra h q;unfold sG at h;split at h;{obtain⟨x,y,rfl,h1,h2⟩:=eV ra;cases h1;obtain⟨n,rfl,l1,l2,h⟩:=h;exact⟨a,xs,n,y,rfl,rfl,ha,by rw[r.len];exact l1,by rw[r.len];exact l2,q _ _ _ _ h ((r.take n).app (.cons h2 (r.drop n))) .bq⟩};exact h.elim
end
def mL:bI a=bI b↔a=b:=by cases a<;>cases b<;>simp[bI]
theorem sP:∀{a b:List Key},a.map bI=b.map bI↔a=b
 |[],[]=>by simp
 |[],_::_=>by simp
 |_::_,[]=>by simp
 |a::as,b::bs=>by simp[mL,sP (a:=as) (b:=bs)]
def pU{a b:List Key}:PyData.tuple (a.map bI)=.tuple (b.map bI)↔a=b:=by rw[Qo];exact sP
def oF(h:lH w=true):∃k,w=bI k:=by
 cases w with
 |int i=>exact⟨.inl i,rfl⟩
 |str x=>exact⟨.inr x,rfl⟩
 |_=>cases h
theorem kH:∀{ks:SA},ks.all lH=true->∃k:List Key,ks=k.map bI
 |[],_=>⟨[],rfl⟩
 |w::ks,h=>by rw[NW,N9]at h;obtain⟨k,rfl⟩:=oF h.1;obtain⟨l,rfl⟩:=kH h.2;exact⟨k::l,rfl⟩
section
variable{K:Frag}{H:Hp}
def qZ(r:Rp K H u (bI k)):u=kV k:=by
 cases k with
 |inl i=>have r:Rp K H u (.int i):=r;cases r;rfl
 |inr x=>have r:Rp K H u (.str x):=r;cases r;rfl
theorem vo:∀{us:List V}{k:List Key},av K H us (k.map bI)->us=k.map kV
 |_,[],r=>by cases r;rfl
 |_,k::ks,r=>by
  cases r with
  |cons h t=>rw[qZ h,vo t];rfl
def rZ{k:List Key}(r:Rp K H u (.tuple (k.map bI))):∃b,u=.ref b/\H b=some (.tup (k.map kV)):=by
 cases r with
 |tup a r=>exact⟨_,rfl,by rw[<-vo r];exact a⟩
theorem eg.len:∀{kvs:List (Key×V)}{ds:Rm},eg K H kvs ds->kvs.length=ds.length
 |_,_,.nil=>rfl
 |_,_,.cons _ r=>congrArg (·+1) r.len
theorem eE.len:∀{kvs:List (List Key×V)}{ds:Rm},eE K H kvs ds->kvs.length=ds.length
 |_,_,.nil=>rfl
 |_,_,.cons _ r=>congrArg (·+1) r.len
theorem eg.val:∀{kvs:List (Key×V)}{ds:Rm},eg K H kvs ds->(dh ds (bI k)=none/\cP kvs k=none)\/∃v d,cP kvs k=some v/\dh ds (bI k)=some d/\Rp K H v d
 |_,_,.nil=>.inl ⟨rfl,rfl⟩
 |_,_,.cons (k:=k') (v:=v) (d:=d) (kvs:=kvs) (ds:=ds) h r=>by
  by_cases c:k'=k;{subst c;exact .inr ⟨v,d,by unfold cP;rw[Qp (by simp)];rfl,by unfold dh;rw[Qp (by simp)];rfl,h⟩};have c':¬bI k'=bI k:=λz=>c (mL.mp z);have e1:cP ((k',v)::kvs) k=cP kvs k:=by unfold cP;rw[Qq (by simpa using c)]
  have e2:dh ((bI k',d)::ds) (bI k)=dh ds (bI k):=by unfold dh;rw[Qq (by simpa using c')]
  rw[e1,e2];exact r.val
theorem eE.val:∀{kvs:List (List Key×V)}{ds:Rm},eE K H kvs ds->(dh ds (.tuple (k.map bI))=none/\cP kvs k=none)\/∃v d,cP kvs k=some v/\dh ds (.tuple (k.map bI))=some d/\Rp K H v d
 |_,_,.nil=>.inl ⟨rfl,rfl⟩
 |_,_,.cons (k:=k') (v:=v) (d:=d) (kvs:=kvs) (ds:=ds) h r=>by
  by_cases c:k'=k;{subst c;exact .inr ⟨v,d,by unfold cP;rw[Qp (by simp)];rfl,by unfold dh;rw[Qp (by simp)];rfl,h⟩};have c':¬PyData.tuple (k'.map bI)=.tuple (k.map bI):=λz=>c (pU.mp z);have e1:cP ((k',v)::kvs) k=cP kvs k:=by unfold cP;rw[Qq (by simpa using c)]
  have e2:dh ((.tuple (k'.map bI),d)::ds) (.tuple (k.map bI))=dh ds (.tuple (k.map bI)):=by unfold dh;rw[Qq (by simpa using c')]
  rw[e1,e2];exact r.val
theorem eg.any:∀{kvs:List (Key×V)}{ds:Rm},eg K H kvs ds->(kvs.any λkv=>decide (kv.1=k))=ds.any λkv=>decide (kv.1=bI k)
 |_,_,.nil=>rfl
 |_,_,.cons (k:=k') h r=>by rw[Pe,Pe,r.any,decide_eq_decide.mpr (mL (a:=k') (b:=k)).symm]
theorem eE.any{k:List Key}:∀{kvs:List (List Key×V)}{ds:Rm},eE K H kvs ds->(kvs.any λkv=>decide (kv.1=k))=ds.any λkv=>decide (kv.1=.tuple (k.map bI))
 |_,_,.nil=>rfl
 |_,_,.cons (k:=k') h r=>by rw[Pe,Pe,r.any,decide_eq_decide.mpr (pU (a:=k') (b:=k)).symm]
theorem eg.app(k:Key)(h:Rp K H v d):∀{kvs:List (Key×V)}{ds:Rm},eg K H kvs ds->eg K H (kvs++[(k,v)]) (ds++[(bI k,d)])
 |_,_,.nil=>.cons h .nil
 |_,_,.cons g r=>.cons g (r.app k h)
theorem eE.app(k:List Key)(h:Rp K H v d):∀{kvs:List (List Key×V)}{ds:Rm},eE K H kvs ds->eE K H (kvs++[(k,v)]) (ds++[(.tuple (k.map bI),d)])
 |_,_,.nil=>.cons h .nil
 |_,_,.cons g r=>.cons g (r.app k h)
def eg.put(k:Key)(h:Rp K H v d)(r:eg K H kvs ds):eg K H (putK kvs k v) (putD ds (bI k) d):=by
 unfold putK putD;rw[r.any (k:=k)];split
 .have go:∀{kvs:List (Key×V)}{ds:Rm},eg K H kvs ds->eg K H (kvs.map λkv=>if kv.1=k then(kv.1,v)else kv) (ds.map λkv=>if kv.1=bI k then(kv.1,d)else kv):=by
   intro kvs;induction kvs with
   |nil=>intro ds r;cases r;exact .nil
   |cons p kvs ih=>
    intro ds r;cases r with
    |@cons k' v' d' _ ds g r=>rw[OP,OP];by_cases c:k'=k;{rw[if_pos c,if_pos (congrArg bI c)];exact .cons h (ih r)};rw[if_neg c,if_neg λz=>c (mL.mp z)];exact .cons g (ih r)
  exact go r
 exact r.app k h
def eE.put(k:List Key)(h:Rp K H v d)(r:eE K H kvs ds):eE K H (putK kvs k v) (putD ds (.tuple (k.map bI)) d):=by
 unfold putK putD;rw[r.any (k:=k)];split
 .have go:∀{kvs:List (List Key×V)}{ds:Rm},eE K H kvs ds->eE K H (kvs.map λkv=>if kv.1=k then(kv.1,v)else kv) (ds.map λkv=>if kv.1=.tuple (k.map bI)then(kv.1,d)else kv):=by
   intro kvs;induction kvs with
   |nil=>intro ds r;cases r;exact .nil
   |cons p kvs ih=>
    intro ds r;cases r with
    |@cons k' v' d' _ ds g r=>rw[OP,OP];by_cases c:k'=k;{rw[if_pos c,if_pos (by rw[c])];exact .cons h (ih r)};rw[if_neg c,if_neg λz=>c (pU.mp z)];exact .cons g (ih r)
  exact go r
 exact r.app k h
end
section
variable{X:Cx}{Ex:XK}{Y:SN}
inductive FD(neg:Bool) (x:V) (y:V)(H:Hp)(Q:VK):Prop
 |mk:∀a o,(y=.ref a)->(gZ H a x o)->(Q (.bl (if neg then !o.isSome else o.isSome)) H)->FD neg x y H Q
noncomputable def D7 (neg:Bool):R2:=λx y H Q=>FD neg x y H Q
def Jt(hu:X.A.units+64<cLine):bA X (compareOp .In) (D7 false):=by intro pins s U H x y v u Q I rx ry h;obtain⟨a,o,rfl,g,q⟩:=h;cases ry;exact MC (by lia) I g rx λs3 I3=>⟨.bl o.isSome,H,I3,rfl,q⟩
def CK(hu:X.A.units+64<cLine):bA X (compareOp .NotIn) (D7 true):=by intro pins s U H x y v u Q I rx ry h;obtain⟨a,o,rfl,g,q⟩:=h;cases ry;exact G4 (by lia) I g rx λs3 I3=>⟨.bl (!o.isSome),H,I3,rfl,q⟩
noncomputable def dU (neg:Bool):DR:=λds P=>uX (λx y=>match y,x with
 |.dict ((.none,.none)::kvs),.tuple ks=>ks.all lH=true/\P .sh (.bool (if neg then !(dh kvs (.tuple ks)).isSome else(dh kvs (.tuple ks)).isSome))
 |.dict kvs,w=>(lH w=true/\lG kvs=true)/\P .sh (.bool (if neg then !(dh kvs w).isSome else(dh kvs w).isSome))
 |y,x=>FE neg [x,y] P) ds
noncomputable def wH (K:Frag)(neg:Bool):R2:=λx y H Q=>zU K neg x y H Q\/D7 neg x y H Q
def IX(hu:X.A.units+64<cLine):bA X (compareOp .In) (wH X.K false):=bA.or (J1 hu) (Jt hu)
def BO(hu:X.A.units+64<cLine):bA X (compareOp .NotIn) (wH X.K true):=bA.or (Cc hu) (CK hu)
def qh(r:Rp K H u (.dict kvs))(h:lG kvs=true):∃a es,u=.ref a/\H a=some (.dK es)/\eg K H es kvs:=by
 cases r with
 |dk a r=>exact⟨_,_,rfl,a,r⟩
 |dt a r=>cases h
 |exc _ _=>cases h
def Bd(r:Rp K H u (.dict ((.none,.none)::kvs))):∃a es,u=.ref a/\H a=some (.dT es)/\eE K H es kvs:=by
 generalize e:((PyData.none,PyData.none)::kvs)=ds at r;cases r with
 |dk a r=>
  cases r with
  |nil=>cases e
  |@cons k _ _ _ _ _ _=>cases k<;>cases e
 |dt a r=>cases e;exact⟨_,_,rfl,a,r⟩
 |exc _ _=>cases e
def yc(neg:Bool):cF K (dU neg) (r2 (wH K neg)):=by
 intro H Hm vs ds P Q s r h q;obtain⟨x,y,w,d,rfl,rfl,h1,h2,h⟩:=l5 r h;have dflt:FE neg [w,d] P->r2 (wH K neg) [x,y] H Q:=λh=>.inl (Hs neg H Hm _ _ P Q s r h q);have alt:∀kvs,d=.dict kvs->((lH w=true/\lG kvs=true)/\P .sh (.bool (if neg then !(dh kvs w).isSome else(dh kvs w).isSome)))->r2 (wH K neg) [x,y] H Q:=λkvs e hz=>by
  subst e;obtain⟨⟨hk,hp⟩,hz⟩:=hz;obtain⟨k,rfl⟩:=oF hk;cases qZ h1;obtain⟨a,es,rfl,ha,rt⟩:=qh h2 hp;refine .inr ⟨a,_,rfl,gZ.k (s _ _ ha),?_⟩;have e:(cP es k).isSome=(dh kvs (bI k)).isSome:=by rcases rt.val (k:=k)with⟨e1,e2⟩|⟨v,d,e1,e2,_⟩;{rw[e1,e2];rfl};rw[e1,e2];rfl
  rw[e];exact bN.sc q s hz (.bl _)
 have h2':=h2;cases h2' with
 |dk _ rk=>
  cases rk with
  |nil=>exact alt _ rfl h
  |@cons k _ _ _ _ _ _=>cases k<;>exact alt _ rfl h
 |exc _ _=>exact alt _ rfl h
 |@dt _ _ kvs _ _=>
  cases w with
  |tuple ks=>
   obtain⟨k,rfl⟩:=kH h.1;obtain⟨b,rfl,hb⟩:=rZ h1;obtain⟨a,es,e,ha,rt⟩:=Bd h2;cases e;refine .inr ⟨_,_,rfl,gZ.t (s _ _ ha) (s _ _ hb),?_⟩;have e:(cP es k).isSome=(dh kvs (.tuple (k.map bI))).isSome:=by rcases rt.val (k:=k)with⟨e1,e2⟩|⟨v,d,e1,e2,_⟩;{rw[e1,e2];rfl};rw[e1,e2];rfl
   rw[e];exact bN.sc q s h.2 (.bl _)
  |_=>exact alt _ rfl h
 |_=>exact dflt h
inductive Fp(x:V) (y:V)(H:Hp)(Q:VK):Prop
 |mk:∀a v,(x=.ref a)->(gZ H a y (some v))->(Q v H)->Fp x y H Q
noncomputable def JJ:R2:=λx y H Q=>Fp x y H Q
def GP(hu:X.A.units+64<cLine):mW X JJ:=by intro value slice pins s U H x y v u Q I rx ry h hs;obtain⟨a,w,rfl,g,q⟩:=h;cases rx;exact PyProof.Rows.tail_any (w9 I g) PySem.F.slot_dict_getitem.lookup (AZ (by lia) I g ry λw' s3 I3 rw'=>⟨w,H,I3,rw',q⟩) hs
noncomputable def atK (xs:SA) (i:Int):Option PyData:=match i with
 |.ofNat n=>xs[n]?
 |.negSucc n=>cR xs (.negSucc n)
def rG{xs:SA}{i:Int}:atK xs i=cR xs i:=by
 cases i with
 |ofNat n=>unfold atK cR mZ;show xs[n]?=_;rw[if_pos (show(0:Int)<=Int.ofNat n from Int.natCast_nonneg n)];by_cases h:n<xs.length;{rw[if_pos (show Int.ofNat n<(xs.length:Int)from QA.mpr h)];rfl};rw[if_neg (show ¬Int.ofNat n<(xs.length:Int)from λz=>h (QA.mp z))];exact OL (Nat.le_of_not_lt h)
 |negSucc n=>rfl
noncomputable def aK:DR:=λds P=>uX (λx y=>match x,y with
 |.list xs,.int i=>au (atK xs i) (P .sh)
 |.tuple xs,.int i=>au (atK xs i) (P .sh)
 |.dict ((.none,.none)::kvs),.tuple ks=>ks.all lH=true/\∃d,dh kvs (.tuple ks)=some d/\P .sh d
 |.dict kvs,w=>(lH w=true/\lG kvs=true)/\∃d,dh kvs w=some d/\P .sh d
 |x,y=>Em [x,y] P) ds
noncomputable def zy (K:Frag):R2:=λx y H Q=>Kn K x y H Q\/JJ x y H Q
def M4(hu:X.A.units+64<cLine):mW X (zy X.K):=BA.or (GP hu)
def G9:cF K aK (r2 (zy K)):=by
 intro H Hm vs ds P Q s r h q;obtain⟨x,y,d,w,rfl,rfl,h2,h1,h⟩:=l5 r h;have dflt:Em [d,w] P->r2 (zy K) [x,y] H Q:=λh=>.inl (Jz H Hm _ _ P Q s r h q);have alt:∀kvs,d=.dict kvs->((lH w=true/\lG kvs=true)/\∃d,dh kvs w=some d/\P .sh d)->r2 (zy K) [x,y] H Q:=λkvs e hz=>by subst e;obtain⟨⟨hk,hp⟩,d,hv,hz⟩:=hz;obtain⟨k,rfl⟩:=oF hk;cases qZ h1;obtain⟨a,es,rfl,ha,rt⟩:=qh h2 hp;rcases rt.val (k:=k)with⟨e1,e2⟩|⟨v,d',e1,e2,rv⟩;{rw[e1]at hv;cases hv};rw[e2]at hv;cases hv;exact .inr ⟨a,v,rfl,by rw[<-e1];exact gZ.k (s _ _ ha),bN.sc q s hz rv⟩
 have h2':=h2;cases h2' with
 |lst _ _=>
  cases w with
  |int i=>have h:au (atK _ i) (P .sh):=h;rw[rG,<-aY]at h;exact dflt h
  |_=>exact dflt h
 |tup _ _=>
  cases w with
  |int i=>have h:au (atK _ i) (P .sh):=h;rw[rG,<-aY]at h;exact dflt h
  |_=>exact dflt h
 |dk _ rk=>
  cases rk with
  |nil=>exact alt _ rfl h
  |@cons k _ _ _ _ _ _=>cases k<;>exact alt _ rfl h
 |exc _ _=>exact alt _ rfl h
 |dt _ _=>
  cases w with
  |tuple ks=>obtain⟨hk,d,hv,hz⟩:=h;obtain⟨k,rfl⟩:=kH hk;obtain⟨b,rfl,hb⟩:=rZ h1;obtain⟨a,es,e,ha,rt⟩:=Bd h2;cases e;rcases rt.val (k:=k)with⟨e1,e2⟩|⟨v,d',e1,e2,rv⟩;{rw[e1]at hv;cases hv};rw[e2]at hv;cases hv;exact .inr ⟨_,v,rfl,by rw[<-e1];exact gZ.t (s _ _ ha) (s _ _ hb),bN.sc q s hz rv⟩
  |_=>exact alt _ rfl h
 |_=>exact dflt h
noncomputable def bW:DR:=λds P=>match ds with
 |[.dict kvs]=>lG kvs=true/\P .sh (.int kvs.length)
 |ds=>DW ds P
def Dl:cF K bW λxs H Q=>(∃p ys,xs=[.ref p]/\(bX K H p ys\/aU K H p ys)/\Q (.int ys.length) H)\/∃a kvs,xs=[V.ref a]/\H a=some (.dK kvs)/\Q (.int kvs.length) H:=by intro H Hm vs ds P Q s r h q;unfold bW at h;split at h;{obtain⟨x,rfl,h1⟩:=dG r;obtain⟨a,es,rfl,ha,rt⟩:=qh h1 h.1;exact .inr ⟨a,es,rfl,s _ _ ha,by rw[rt.len];exact bN.sc q s h.2 (.int _)⟩};exact .inl (GG H Hm _ _ P Q s r h q)
def Rl.Dw{F:Nat->SH}(R:Rl K g E U H Hm F){i:Nat}{a:Addr}(e:E[i]?=some (some (k,d)))(hF:F i=[a])(hv:U[i]?=some (some (.ref a)))(new:Own K (upd H a o) Hm k (.ref a) d' [a])(nt:nQ o)(hp:k=.ow true->∃ds,d'=.list ds) : Rl K g (E.set i (some (k,d'))) U (upd H a o) Hm F:=by
 have ma:a∈F i:=by rw[hF];exact N6
 have na:=R.off i a ma;have up:∀b,b≠a->upd H a o b=H b:=λb hb=>ao hb;have li:=bR e;exact {
  len:=by rw[OR];exact R.len
  sub:=λb u hb=>by
   have:b≠a:=λz=>by rw[z,na]at hb;cases hb
   rw[up b this];exact R.sub b u hb
  slot:=λj k' d'' e'=>by
   by_cases c:j=i
   .subst c;rw[aD li]at e';cases e';exact⟨_,hv,by rw[hF];exact new⟩
   .rw[aj (Ne.symm c)]at e';obtain⟨u,g1,g2⟩:=R.slot j k' d'' e';refine⟨u,g1,g2.step (ah.refl _) λb hb=>up b λz=>c (R.aL j i a (z▸hb) ma)⟩
  off:=R.off
  bB:=λj b hb=>by
   by_cases c:b=a
   .rw[c];exact⟨_,aG,nt⟩
   .rw[up b c];exact R.bB j b hb
  aL:=R.aL
  fr:=λq u hq ho=>by
   have:q≠a:=λz=>by
    rcases R.new i a ma with y|y
    .exact hq (z▸y)
    .rw[z,y]at ho;cases ho
   rw[up q this];exact R.fr q u hq ho
  new:=R.new
  pin:=λq hq=>by
   obtain⟨g1,ds',g2⟩:=R.pin q hq
   by_cases c:i=q.1
   .rw[<-c]at g1 g2⊢;rw[e]at g2;cases g2;obtain⟨ds,rfl⟩:=hp rfl;exact⟨g1,ds,aD li⟩
   .exact⟨g1,ds',by rw[aj c];exact g2⟩
  old:=R.old }
noncomputable def Eh:yT:=λo i v H Q=>EI o i v H Q\/∃a H',o=.ref a/\nX H a i v H'/\Q H'
def Le(hu:X.A.units+64<cLine):DZ X Eh:=by intro pins s U H o i v ov iv u Q I ro ri rv h;rcases h with h|⟨a,H',rfl,g,q⟩;{exact set_list pins s U H o i v ov iv u Q I ro ri rv h};cases ro;exact BK (by lia) I g ri rv λs' I'=>⟨H',I',q⟩
def Hj{F:Nat->SH}{i:Nat}(R:Rl K g E U H Hm F)(ho:U[i]?=some (some o))(rw':Rp K Hm wv w)(rv:Rp K Hm vv v)(h:gz.setI E i w v Qe)(q:∀E' H',Qe E'->Rl K g E' U H' Hm F->Q H'):Eh o wv vv H Q:=by
 unfold gz.setI at h;split at h
 .rename_i p ds a e;rw[<-aY,uZ]at h;obtain⟨n,hn,h⟩:=h;cases rw';obtain⟨v',h1,h2⟩:=R.slot i _ _ e;rw[ho]at h1;cases h1;generalize hfi:F i=fi at h2;cases h2 with
  |@ow _ b xs _ ha hr=>refine .inl ⟨b,xs,a,n,rfl,rfl,ha,by rw[hr.len];exact hn,q _ _ h ?_⟩;exact R.Dw e hfi ho (.ow aG (hr.set rv n)) kJ λ_=>⟨_,rfl⟩
 .rename_i p kvs _ e;obtain⟨⟨hk,hl⟩,h⟩:=h;obtain⟨k,rfl⟩:=oF hk;cases qZ rw';obtain⟨v',h1,h2⟩:=R.slot i _ _ e;rw[ho]at h1;cases h1;generalize hfi:F i=fi at h2;cases h2 with
  |@dk _ b es _ ha hr=>refine .inr ⟨b,_,rfl,nX.k ha (by rw[hr.len];exact hl),q _ _ h ?_⟩;exact R.Dw e hfi ho (.dk aG (hr.put k rv)) tQ λz=>by cases z
 .rename_i p kv kvs ks e;obtain⟨⟨hk,hl⟩,h⟩:=h;obtain⟨k,rfl⟩:=kH hk;obtain⟨c,rfl,hc⟩:=rZ rw';obtain⟨v',h1,h2⟩:=R.slot i _ _ e;rw[ho]at h1;cases h1;generalize hfi:F i=fi at h2;cases h2 with
  |@dt _ b es _ ha hr=>refine .inr ⟨b,_,rfl,nX.t ha (R.sub _ _ hc) (by rw[hr.len];exact hl),q _ _ h ?_⟩;exact R.Dw e hfi ho (.dt aG (hr.put k rv)) tE λz=>by cases z
 exact h.elim
def Lp{i jx:Nat}(hu:X.A.units+64<cLine)(hv:PE X (.Name x p) (mJ jx))(hj:(aW X)[jx]?=some i)(hs:swapsWithSole [.Subscript (.Name x p) j pos'] e pos.line X.env=pure false)
  (ha:∀v,assign (.Subscript (.Name x p) j pos') X.env v=(do
   let ov <-holding [v] (eval (.Name x p) X.env)
   let iv <-holding [v,ov] (eval j X.env)
   standAt pos'
   holding [v,ov,iv] (setItem ov iv v)
   release [v,ov,iv] []))(hd:SE X Ex (aW X) e de)(hd2:SE X Ex (aW X) j dj):S1 X Ex (.Assign [.Subscript (.Name x p) j pos'] e pos) (gz i dj de):=by
 intro g D' E U H Hm F D hx R pp nx rt;refine WS.of (AN bC (Jr hv bC (Le hu) ha) hs) (hd g D'.xc E U H Hm F _ _ hx R pp λE1 k v u H1 Hm1 F1 fp p1 R1 s1 T=>?_)
 replace p1:bK k.fz _:=p1
 rw[cZ,cZ]at p1;obtain⟨hk,hh,p1⟩:=p1;obtain⟨Hm2,s2,R2,r2⟩:=T.dZ R1 hk;obtain⟨o,ho⟩:=nv R2 hh;refine⟨o,fN hj ho,hd2 g D'.xc E1 U H1 Hm2 F1 _ _ hx R2 p1 λE3 k3 v3 u3 H3 Hm3 F3 fp3 p3 R3 s3 T3=>?_⟩
 replace p3:bK k3.fz _:=p3
 rw[cZ]at p3;obtain⟨hk3,p3⟩:=p3;obtain⟨Hm4,s4,R4,r4⟩:=T3.dZ R3 hk3;exact Hj R4 ho r4 (r2.mono (s3.trans s4)) p3 λE' H' q R'=>nx _ _ _ _ _ q R' (s1.trans (s2.trans (s3.trans s4)))
end
noncomputable def ini:SJ->SA->En
 |true::ms,d::ds=>some (.ow true,d)::ini ms ds
 |false::ms,d::ds=>some (.sh,d)::ini ms ds
 |_,_=>[]
noncomputable def eS:SJ->En->Option (SA)
 |[],_=>some []
 |true::ms,some (.ow true,.list es)::E=>(eS ms E).map (.list es::·)
 |false::ms,_::E=>eS ms E
 |_,_=>none
noncomputable def eW:SJ->Nat->SH->List (Nat×Addr)
 |true::ms,n,a::as=>(n,a)::eW ms (n+1) as
 |false::ms,n,as=>eW ms (n+1) as
 |_,_,_=>[]
noncomputable def fG:SJ->SH->List (SH)
 |true::ms,a::as=>[a]::fG ms as
 |false::ms,as=>[]::fG ms as
 |_,_=>[]
section
variable{K:Frag}{H Hm:Hp}
def Ag.vJ(h:Ag K H Hm ms vs ds as):vs.length=ms.length:=by
 induction h with
 |nil=>rfl
 |sh _ _ ih=>rw[OF,OF,ih]
 |mu _ _ _ _ _ ih=>rw[OF,OF,ih]
def Ag.MN(h:Ag K H Hm ms vs ds as):(ini ms ds).length=vs.length:=by
 induction h with
 |nil=>rfl
 |sh _ _ ih=>rw[ini,OF,OF,ih]
 |mu _ _ _ _ _ ih=>rw[ini,OF,OF,ih]
def Ag.pins(h:Ag K H Hm ms vs ds as):∀n,(eW ms n as).map (·.2)=as:=by
 induction h with
 |nil=>exact λ_=>rfl
 |sh _ _ ih=>exact λn=>ih (n+1)
 |@mu _ _ _ _ a _ _ _ _ _ _ _ ih=>exact λn=>congrArg (a::·) (ih (n+1))
def Ag.slot(h:Ag K H Hm ms vs ds as):∀{i:Nat}{k:Kd}{d:PyData},(ini ms ds)[i]?=some (some (k,d))->∃v,vs[i]?=some v/\Own K H Hm k v d ((fG ms as)[i]?.getD []):=by
 induction h with
 |nil=>intro i k d e;simp[ini]at e
 |@sh ms vs ds as v d r _ ih=>
  intro i k d' e;rw[ini]at e;cases i with
  |zero=>cases e;exact⟨v,rfl,.sh r⟩
  |succ i=>exact ih e
 |@mu ms vs ds as a xs es h1 h2 h3 h4 _ ih=>
  intro i k d' e;rw[ini]at e;cases i with
  |zero=>cases e;exact⟨_,rfl,.ow h1 h2⟩
  |succ i=>exact ih e
def Ag.EV(h:Ag K H Hm ms vs ds as):(∀(i:Nat) a,a∈(fG ms as)[i]?.getD []->a∈as/\Hm a=none/\∃xs,H a=some (.lst xs))/\∀(i j:Nat) a,a∈(fG ms as)[i]?.getD []->a∈(fG ms as)[j]?.getD []->i=j:=by
 induction h with
 |nil=>exact⟨λi a h=>by simp[fG]at h,λi j a h=>by simp[fG]at h⟩
 |@sh ms vs ds as v d r _ ih=>
  refine⟨λi a h=>?_,λi j a h1 h2=>?_⟩
  .rw[fG]at h;cases i with
   |zero=>simp at h
   |succ i=>exact ih.1 i a h
  rw[fG]at h1 h2;cases i with
  |zero=>simp at h1
  |succ i=>
   cases j with
   |zero=>simp at h2
   |succ j=>exact congrArg (·+1) (ih.2 i j a h1 h2)
 |@mu ms vs ds as a xs es g1 g2 g3 g4 _ ih=>
  refine⟨λi b h=>?_,λi j b h1 h2=>?_⟩
  .rw[fG]at h;cases i with
   |zero=>have h:b∈[a]:=h;rw[NV]at h;subst h;exact⟨N6,g3,xs,g1⟩
   |succ i=>obtain⟨y1,y2⟩:=ih.1 i b h;exact⟨NX _ y1,y2⟩
  rw[fG]at h1 h2;cases i with
  |zero=>
   have h1:b∈[a]:=h1;rw[NV]at h1;subst h1;cases j with
   |zero=>rfl
   |succ j=>exact absurd (ih.1 j b h2).1 g4
  |succ i=>
   cases j with
   |zero=>have h2:b∈[a]:=h2;rw[NV]at h2;subst h2;exact absurd (ih.1 i b h1).1 g4
   |succ j=>exact congrArg (·+1) (ih.2 i j b h1 h2)
def Ag.pin(h:Ag K H Hm ms vs ds as):∀n,∀q∈eW ms n as,∃i,q.1=n+i/\vs[i]?=some (.ref q.2)/\∃es,(ini ms ds)[i]?=some (some (.ow true,.list es)):=by
 induction h with
 |nil=>exact λn q h=>by cases h
 |@sh ms vs ds as v d r _ ih=>intro n q h;obtain⟨i,e,h1,h2⟩:=ih (n+1) q h;exact⟨i+1,by lia,h1,h2⟩
 |@mu ms vs ds as a xs es g1 g2 g3 g4 _ ih=>intro n q h;have h:q∈(n,a)::eW ms (n+1) as:=h;rcases NY.mp h with rfl|h;{exact⟨0,rfl,rfl,es,rfl⟩};obtain⟨i,e,h1,h2⟩:=ih (n+1) q h;exact⟨i+1,by lia,h1,h2⟩
def Ag.back{H' Hm':Hp}{E:En}(h:Ag K H Hm ms vs ds as):∀{n:Nat}{us:SA},(∀q∈eW ms n as,∃es xs,E[q.1]?=some (some (.ow true,.list es))/\H' q.2=some (.lst xs)/\av K Hm' xs es/\Hm' q.2=none)->eS ms (E.drop n)=some us->Bk K H' Hm' as us:=by
 induction h with
 |nil=>intro n us _ e;cases e;exact .nil
 |@sh ms vs ds as v d r _ ih=>
  intro n us hq e;cases hE:E.drop n with
  |nil=>rw[hE]at e;cases e
  |cons o E'=>rw[hE]at e;refine ih (n:=n+1) hq ?_;rw[show E.drop (n+1)=E' from by rw[<-List.tail_drop,hE];rfl];exact e
 |@mu ms vs ds as a xs es g1 g2 g3 g4 _ ih=>
  intro n us hq e;obtain⟨es',xs',e1,e2,e3,e4⟩:=hq (n,a) N6;cases hE:E.drop n with
  |nil=>rw[hE]at e;cases e
  |cons o E'=>
   have ho:o=some (.ow true,.list es'):=by have:=List.getElem?_drop (xs:=E) (i:=n) (j:=0);rw[hE,Nat.add_zero]at this;have e1:E[n]?=_:=e1;rw[e1]at this;exact Option.some.inj this
   subst ho;rw[hE]at e;have e:(eS ms E').map (PyData.list es'::·)=some us:=e;cases hb:eS ms E' with
   |none=>rw[hb]at e;cases e
   |some us'=>rw[hb]at e;cases e;refine .cons e2 e3 e4 (ih (n:=n+1) (λq hq'=>hq q (NX _ hq')) ?_);rw[show E.drop (n+1)=E' from by rw[<-List.tail_drop,hE];rfl];exact hb
def AR{n:Nat}(h:n<=U.length):sel (List.range n) U=U.take n:=by
 refine PC λi=>?_;unfold sel;rw[O4,List.getElem?_take];by_cases c:i<n
 .rw[OB c,if_pos c];have l:i<U.length:=by lia
  rw[O5 l];show some ((U[i]?).join)=some U[i];rw[O5 l];rfl
 rw[if_neg c,OL (by rw[O3];lia)];rfl
def Ag.rl(h:Ag K H Hm ms vs ds as)(s:ah Hm H) (m:Nat):Rl K ⟨H,Hm,eW ms 0 as⟩ (ini ms ds++List.replicate m none) (vs.map some++List.replicate m none) H Hm (λi=>(fG ms as)[i]?.getD []):=by
 have hM:Gh.M ⟨H,Hm,eW ms 0 as⟩=as:=h.pins 0;have inE:∀{i:Nat}{k:Kd}{d:PyData},(ini ms ds++List.replicate m none)[i]?=some (some (k,d))->(ini ms ds)[i]?=some (some (k,d)):=λ{i k d} e=>by rcases OY i (ini ms ds).length with l|l;{rwa[QE l]at e};rw[QV l]at e;have:=OD e;have:=List.eq_of_mem_replicate this;cases this
 have inV:∀{i:Nat}{v:V},vs[i]?=some v->(vs.map some++List.replicate m none)[i]?=some (some v):=λ{i v} e=>by have l:=bR e;rw[QE (by rw[NS];exact l),O4,e];rfl
 exact {
  len:=by rw[NU,NU,h.MN,NS,PD,PD]
  sub:=s
  slot:=λi k d e=>by
   obtain⟨v,h1,h2⟩:=h.slot (inE e);exact⟨v,inV h1,h2⟩
  off:=λi a ha=>(h.EV.1 i a ha).2.1
  bB:=λi a ha=>by
   obtain⟨_,_,xs,e⟩:=h.EV.1 i a ha;exact⟨_,e,kJ⟩
  aL:=λi j a h1 h2=>h.EV.2 i j a h1 h2
  fr:=λp o _ e=>e
  new:=λi a ha=>.inl (by rw[hM];exact(h.EV.1 i a ha).1)
  pin:=λq hq=>by
   obtain⟨i,e,h1,es,h2⟩:=h.pin 0 q hq;rw[Nat.zero_add]at e;rw[e];refine⟨inV h1,es,?_⟩;rw[QE (bR h2)];exact h2
  old:=λ_ _=>.inl rfl }
end
section
variable{P:Program}{w:World}{K:Frag}{mg:Rr}{base:Heap}
noncomputable def bD (ms:SJ)(Q:SA->Kd->PyData->Prop)(x:XC):iz where
 nx:=λE=>au (eS ms E) λus=>Q us .sh .none
 rt:=λE k v=>au (eS ms E) λus=>Q us k v
 xc:=x
def bZ{f:Addr}{N ps:SQ}{k:Nat}{ms:SJ}{sp:bM}{d:DS}{m:Nat}(F:qv K x qual st f fd)(S:aT N ps (aq st))(hl:ms.length=ps.length)(hm:N.length<=ps.length+m)(hb:∀(cdv:Value)(A:Around)(outer:List Env)(s:Shared)(H:Hp)(Ex:XK),dD k (A.deeper (PyProof.Rows.envOfC qual (aq st) s.heap.objs.size f cdv))->SS (fS (eN P w) P w K mg base N qual (aq st) f cdv A outer s H Ex) Ex (fK st) d)(hd:∀(ds:SA)(Q:SA->Kd->PyData->Prop)(x:XC),sp ds Q x->d (bD ms Q x) (ini ms ds++List.replicate m none)):fW P w K mg base (eN P w) (k+1) f fd ps (b9 mg K ms sp):=by
 refine F.Nr S (λvs H Q E h=>?_) (λcdv A outer s H vs Q E hr h=>?_);{obtain⟨ds,as,Hm,P',x,_,ag,_⟩:=h;rw[ag.vJ,hl]};obtain⟨ds,as,Hm,P',xc,sm,ag,hsp,ret,exn⟩:=h;refine⟨_,iW,?_⟩;have R:=ag.rl sm m;have hpre:N.length >= vs.length:=by rw[ag.vJ,hl];have:=congrArg List.length S.pre;rw[OM]at this;lia
 have hsel:L2.start N vs=sel (List.range N.length) (vs.map some++List.replicate m none):=by
  have hv:vs.length=ps.length:=by rw[ag.vJ,hl]
  rw[AR (by rw[NU,NS,PD];lia)];unfold L2.start;rw[List.take_append,NS,Ph (by rw[NS];exact hpre),List.take_replicate];congr 2;lia
 rw[hsel];have hM:Gh.M ⟨H,Hm,eW ms 0 as⟩=as:=ag.pins 0;have fin:∀{E':En}{k:Kd}{v:PyData}{u:V}{σ':St}{H' Hm':Hp}{F':Nat->SH}{fp:SH},(au (eS ms E') λus=>P' us k v)->Rl K ⟨H,Hm,eW ms 0 as⟩ E' σ' H' Hm' F'->Tm K ⟨H,Hm,eW ms 0 as⟩ F' H' Hm' k u v fp->Q u H':=by
  intro E' k v u σ' H' Hm' F' fp p R' T;rw[<-aY]at p;obtain⟨us,hus,p⟩:=p;refine ret us k v u H' Hm' fp p (λa o e=>?_) R'.sub (λp o hp e=>R'.fr p o (by rw[hM];exact hp) e) (λa _ ha=>R'.old a ha) ?_ T.own λa ha=>⟨T.new a ha,T.off a ha⟩
  .have:H a≠none:=λz=>by rw[sm _ _ e]at z;cases z
   rcases R'.old a this with e'|⟨e',_⟩;{exact e'.trans e};have e':Hm a=none:=e';rw[e]at e';cases e'
  refine ag.back (E:=E') (n:=0) (λq hq=>?_) (by rw[Qc];exact hus);obtain⟨h1,es,h2⟩:=R'.pin q hq;obtain⟨v',h3,h4⟩:=R'.slot _ _ _ h2;have hF:=R'.vI hq;rw[h1]at h3;cases h3;rw[hF]at h4;cases h4 with
  |ow e1 e2=>exact⟨es,_,h2,e1,e2,R'.off q.1 q.2 (by rw[hF];exact N6)⟩
 refine hb cdv A outer s H E hr ⟨H,Hm,eW ms 0 as⟩ (bD ms P' xc) _ _ H Hm _ _ (λc d' C a H' hC hx fr ha hn=>exn c d' C a H' hC hx (λp o hp ho=>fr p o (by rw[hM];exact hp) ho) ha hn) R (hd ds P' xc hsp) (λE' σ' H' Hm' F' p R' _=>?_) (λE' k v u σ' H' Hm' F' fp p R' T=>fin p R' T);exact fin (k:=.sh) (v:=.none) (u:=.bq) p R' (Tm.sh .bq)
end
section
variable{X:Cx}{Ex:XK}{Y:SN}
def xI{i:Int} {j}:SE X Ex Y (.Constant (.int i) j pos) (dC (.int i)):=zo JP λ_=>.int i
def xS{j}:SE X Ex Y (.Constant (.str x) j pos) (dC (.str x)):=zo Bj λ_=>.str x
def xB{b:Bool} {j}:SE X Ex Y (.Constant (.bool b) j pos) (dC (.bool b)):=zo KQ λ_=>.bl b
def xN{j}:SE X Ex Y (.Constant .none j pos) (dC .none):=zo JZ λ_=>.bq
def xV(j:Nat){i:Nat}(hN:X.N[j]?=some x:=by rfl)(hv:mX X.env.scope x:=by first|exact Or.inl rfl|exact Or.inr (Or.inl rfl)|exact Or.inr (Or.inr rfl))(hj:Y[j]?=some i:=by rfl)(hd:(x==("__debug__":Str))=false:=by decide)(hcd:(x==("__classdict__":Str))=false:=by decide):SE X Ex Y (.Name x pos) (aV i):=IW (iu hN hv hd hcd) hj
def a0:aM X Ex Y [] []:=.nil
def aP(j:Nat){i:Nat}(S:aM X Ex Y es as)(hN:X.N[j]?=some x:=by rfl)(hv:mX X.env.scope x:=by first|exact Or.inl rfl|exact Or.inr (Or.inl rfl)|exact Or.inr (Or.inr rfl))(hj:Y[j]?=some i:=by rfl)(hd:(x==("__debug__":Str))=false:=by decide)(hcd:(x==("__classdict__":Str))=false:=by decide):aM X Ex Y (.Name x pos::es) (.pk i::as):=.pk (iu hN hv hd hcd) hj S
def aE(h:SE X Ex Y e d)(S:aM X Ex Y es as):aM X Ex Y (e::es) (.ev d::as):=.ev h S
noncomputable def n9:DR:=mj λi j=>.int (i-j)
noncomputable def mw:DR:=oq (λ_ j=>0<j) λi j=>.int (i%j)
noncomputable def De:DR:=oq zu λi j=>.int (i/j)
noncomputable def rV:DR:=oq vz λi j=>.int (i^j.toNat)
noncomputable def rH:DR:=mj λi j=>.bool (decide (i<j))
noncomputable def NL:DR:=mj λi j=>.bool (decide (i<=j))
noncomputable def EX:DR:=mj λi j=>.bool (decide (j<i))
noncomputable def xx:DR:=mj λi j=>.bool (decide (j<=i))
noncomputable def rQ:DR:=λds P=>match ds with
 |[.int a]=>P .sh (.int (-a))
 |_=>False
def FW:cF K rQ (r1 (rU λi=>.int (-i))):=by intro H Hm vs ds P Q s r h q;unfold rQ at h;split at h;{obtain⟨x,rfl,h1⟩:=dG r;cases h1;exact⟨_,rfl,bN.sc q s h (.int _)⟩};exact h.elim
variable{a b:Expr}{pos:Pos}{as:List Arg}
def cH(S:aM X Ex Y [a,b] as):SE X Ex Y (.BinOp a .Add b pos) (aa bS as):=g9 xH yu S
def zE(S:aM X Ex Y [a,b] as):SE X Ex Y (.BinOp a .Sub b pos) (aa n9 as):=g9 JD (kj λ_ _ _=>.int _) S
def pS(S:aM X Ex Y [a,b] as):SE X Ex Y (.BinOp a .Mult b pos) (aa jq as):=g9 GS GX S
def pX(S:aM X Ex Y [a,b] as):SE X Ex Y (.BinOp a .Mod b pos) (aa mw as):=g9 Jo (l6 λ_ _ _=>.int _) S
def MB(S:aM X Ex Y [a,b] as):SE X Ex Y (.BinOp a .FloorDiv b pos) (aa De as):=g9 Du (l6 λ_ _ _=>.int _) S
def zP(S:aM X Ex Y [a,b] as):SE X Ex Y (.BinOp a .Pow b pos) (aa rV as):=g9 IS (l6 λ_ _ _=>.int _) S
def Ia(S:aM X Ex Y [a] as):SE X Ex Y (.UnaryOp .USub a pos) (aa rQ as):=Ln HJ FW S
def Nl(S:aM X Ex Y [a,b] as):SE X Ex Y (.Compare a [.Lt] [b] pos) (aa rH as):=qK Af (ff _) (kj λ_ _ _=>.bl _) S
def Hu(hu:X.A.units+64<cLine)(S:aM X Ex Y [a,b] as):SE X Ex Y (.Compare a [.Eq] [b] pos) (aa cV as):=qK (CM hu) (ff _) Cf S
def L0(hu:X.A.units+64<cLine)(S:aM X Ex Y [a,b] as):SE X Ex Y (.Compare a [.NotEq] [b] pos) (aa iy as):=qK (CL hu) (ff _) CJ S
def Bf(S:aM X Ex Y [a,b] as):aS X Ex Y (.Compare a [.Lt] [b] pos) (aa rH as):=fO Af (ff _) (kj λ_ _ _=>.bl _) S
def Mt(S:aM X Ex Y [a,b] as):aS X Ex Y (.Compare a [.Gt] [b] pos) (aa EX as):=fO LH (ff _) (kj λ_ _ _=>.bl _) S
def EK(S:aM X Ex Y [a,b] as):aS X Ex Y (.Compare a [.GtE] [b] pos) (aa xx as):=fO KW (ff _) (kj λ_ _ _=>.bl _) S
def gD(hu:X.A.units+64<cLine)(S:aM X Ex Y [a,b] as):aS X Ex Y (.Compare a [.Eq] [b] pos) (aa cV as):=fO (CM hu) (ff _) Cf S
def qX(hu:X.A.units+64<cLine)(S:aM X Ex Y [a,b] as):aS X Ex Y (.Compare a [.NotEq] [b] pos) (aa iy as):=fO (CL hu) (ff _) CJ S
def Mq(S:aM X Ex Y [a,b] as):aS X Ex Y (.Compare a [.Is] [b] pos) (aa (eu false) as):=fO IY (ff _) GU S
def JH(hu:X.A.units+64<cLine)(S:aM X Ex Y [a,b] as)(hm:behindInMarks .In b=false:=by rfl):aS X Ex Y (.Compare a [.In] [b] pos) (aa (dU false) as):=fO (IX hu) hm (yc false) S
def jZ(hu:X.A.units+64<cLine)(S:aM X Ex Y [a,b] as)(hm:behindInMarks .NotIn b=false:=by rfl):aS X Ex Y (.Compare a [.NotIn] [b] pos) (aa (dU true) as):=fO (BO hu) hm (yc true) S
def yl(h:SE X Ex Y e d)(he:∀whole,isTrue e X.env whole=(do let v <-whole;standAt e.pos;holding [v] (truthy v)):=by intro _;rfl):aS X Ex Y e d:=h.lI he
def tV(j:Nat){i:Nat}(hN:X.N[j]?=some x:=by rfl)(hv:mX X.env.scope x:=by first|exact Or.inl rfl|exact Or.inr (Or.inl rfl)|exact Or.inr (Or.inr rfl))(hj:Y[j]?=some i:=by rfl)(hd:(x==("__debug__":Str))=false:=by decide)(hcd:(x==("__classdict__":Str))=false:=by decide):ST X Ex Y (.Name x pos) (Ew i):=M0 (iu hN hv hd hcd) hj λ_=>rfl
def bJ(hu:X.A.units+64<cLine)(S:aM X Ex Y [a,b] as)(hs:lN b:=by intro _ _;rfl):SE X Ex Y (.Subscript a b pos) (aa aK as):=LS (M4 hu) hs G9 S
variable{p:Pos}
def dH(hm:X.mg "len"=none)(S:aM X Ex Y [a] as)(hg:Gl X "len":=by rfl)(ns:noStar a=true:=by rfl):SE X Ex Y (.Call (.Name "len" p) [a] [] pos) (aa bW as):=gm (vY.or CD) Dl hg hm PySem.boot_len (by decide) (by decide) (by rw[NW,ns];rfl) S
def Ft(hm:X.mg "list"=none)(S:aM X Ex Y [a] as)(hg:Gl X "list":=by rfl)(ns:noStar a=true:=by rfl):SE X Ex Y (.Call (.Name "list" p) [a] [] pos) (aa mO as):=nu vS Dk hg hm PyProof.Rows.boot_list (by decide) (by decide) (by rw[NW,ns];rfl) S
def wJ(hm:X.mg "tuple"=none)(S:aM X Ex Y [a] as)(hg:Gl X "tuple":=by rfl)(ns:noStar a=true:=by rfl):SE X Ex Y (.Call (.Name "tuple" p) [a] [] pos) (aa jc as):=nu t7 Bv hg hm RZ (by decide) (by decide) (by rw[NW,ns];rfl) S
def II(hm:X.mg "min"=none)(S:aM X Ex Y [a,b] as)(hc:X.calm=true:=by rfl)(hg:Gl X "min":=by rfl)(ns:noStar a=true:=by rfl)(ns2:noStar b=true:=by rfl):SE X Ex Y (.Call (.Name "min" p) [a,b] [] pos) (aa uA as):=gm (Ck hc) Lr hg hm Ra (by decide) (by decide) (by rw[NW,NW,ns,ns2];rfl) S
def K7(hm:X.mg "min"=none)(S:aM X Ex Y [a] as)(hc:X.calm=true:=by rfl)(hg:Gl X "min":=by rfl)(ns:noStar a=true:=by rfl):SE X Ex Y (.Call (.Name "min" p) [a] [] pos) (aa uC as):=gm (BG hc) CW hg hm Ra (by decide) (by decide) (by rw[NW,ns];rfl) S
def wY(hm:X.mg "int"=none)(S:aM X Ex Y [a] as)(hg:Gl X "int":=by rfl)(ns:noStar a=true:=by rfl):SE X Ex Y (.Call (.Name "int" p) [a] [] pos) (aa fj as):=nu A8 AM hg hm Qs (by decide) (by decide) (by rw[NW,ns];rfl) S
def MR(hm:X.mg "all"=none)(S:aM X Ex Y [a] as)(hc:X.calm=true:=by rfl)(hg:Gl X "all":=by rfl)(ns:noStar a=true:=by rfl):SE X Ex Y (.Call (.Name "all" p) [a] [] pos) (aa zR as):=gm (BR hc) FI hg hm PyProof.Rows.boot_all (by decide) (by decide) (by rw[NW,ns];rfl) S
def BP(h1:X.mg "list"=none)(h2:X.mg "range"=none)(S:aM X Ex Y [a] as)(hc:X.calm=true:=by rfl)(g1:Gl X "list":=by rfl)(g2:Gl X "range":=by rfl)(ns:noStar a=true:=by rfl):SE X Ex Y (.Call (.Name "list" p) [.Call (.Name "range" p2) [a] [] pos2] [] pos) (aa jX as):=Dr hc g1 h1 g2 h2 ns S
def bH(S:aM X Ex Y es as)(ns:es.all noStar=true:=by rfl):SE X Ex Y (.List es pos) (aa aZ as):=Ku ns S
def b7{k:Nat}(S:aM X Ex Y es as)(ns:es.all noStar=true:=by rfl):SE X Ex Y (.Tuple es k pos) (aa bO as):=ID ns S
variable{tg:Expr}
def oi(hm:X.mg "range"=none)(S:aM X Ex Y [a] as)(hg:Gl X "range":=by rfl)(ns:noStar a=true:=by rfl):SI X Ex Y tg (.Call (.Name "range" p) [a] [] pos) (iB jU as):=Lh hg hm ns S
def L1(hm:X.mg "range"=none)(S:aM X Ex Y [a,b] as)(hg:Gl X "range":=by rfl)(ns:noStar a=true:=by rfl)(ns2:noStar b=true:=by rfl):SI X Ex Y tg (.Call (.Name "range" p) [a,b] [] pos) (iB xy as):=KA hg hm ns ns2 S
def Mw{x1:Nat}(hm:X.mg "enumerate"=none)(h:SE X Ex Y a d)(hg:Gl X "enumerate":=by rfl)(ns:noStar a=true:=by rfl):SI X Ex Y (.Tuple elts x1 tp) (.Call (.Name "enumerate" p) [a] [] pos) (yg d):=Lc hg hm ns h
def gN(j:Nat){i:Nat}(hN:X.N[j]?=some x:=by rfl)(hj:Y[j]?=some i:=by rfl)(hl:Loc X.env.scope x:=by first|exact Or.inl rfl|exact Or.inr rfl)(hf:X.fn x=true\/X.env.scope.names.lookup x=some .local:=by first|exact Or.inl rfl|exact Or.inr rfl):fB X Y (.Name x p) (.nm i):=.nm hN hj hl hf
def g0:iR X Y [] []:=.nil
def gC(j:Nat){i:Nat}(t:iR X Y ts is)(hN:X.N[j]?=some x:=by rfl)(hj:Y[j]?=some i:=by rfl)(hl:Loc X.env.scope x:=by first|exact Or.inl rfl|exact Or.inr rfl)(hf:X.fn x=true\/X.env.scope.names.lookup x=some .local:=by first|exact Or.inl rfl|exact Or.inr rfl):iR X Y (.Name x p::ts) (i::is):=.cons hN hj hl hf t
def gT{k:Nat}(t:iR X Y ts is):fB X Y (.Tuple ts k p) (.tp is):=.tp t
def Na(j:Nat){i k k2:Nat}(t:iR X Y ts is)(hN:X.N[j]?=some x:=by rfl)(hj:Y[j]?=some i:=by rfl)(hl:Loc X.env.scope x:=by first|exact Or.inl rfl|exact Or.inr rfl)(hf:X.fn x=true\/X.env.scope.names.lookup x=some .local:=by first|exact Or.inl rfl|exact Or.inr rfl):fB X Y (.Tuple [.Name x q,.Tuple ts k2 p2] k p) (.nt i is):=.nt hN hj hl hf t
def oN:Passes (eN X.prog X.w) X E0:=by rintro pins U H s e s' I⟨_,_,_,_,_,_,_,_,_,_,_,_,_,_,_,z⟩;exact z.elim
def aB{k k':Nat}(F:bU X.prog X.w X.K X.mg X.base k x ps (b9 X.mg X.K ms sp))(hp:Passes (eN X.prog X.w) X Ex)(hr:dD k' X.A)(S:aM X Ex Y (e::es) as)(hk:k<=k':=by decide)(hg:Gl X x:=by rfl)(hd:(x==("__debug__":Str))=false:=by decide)(ns:(e::es).all noStar=true:=by rfl):SE X Ex Y (.Call (.Name x p) (e::es) [] pos) (aA sp ms as):=GO F hp (hr.mono hk) hg hd ns S
def bF(h:SE X Ex (aW X) a d):S1 X Ex (.Return (some a) pos) (bw d):=LR h
def kP(i:Nat)(hN:X.N[i]?=some x:=by rfl)(hv:mX X.env.scope x:=by first|exact Or.inl rfl|exact Or.inr (Or.inl rfl)|exact Or.inr (Or.inr rfl))(hd:(x==("__debug__":Str))=false:=by decide)(hcd:(x==("__classdict__":Str))=false:=by decide):S1 X Ex (.Return (some (.Name x p)) pos) (gR i):=JF (iu hN hv hd hcd) (bR hN)
def dO(h:SE X Ex (aW X) a d)(hs:swapsWith a none pos.line X.env=pure false:=by rfl):S1 X Ex (.Expr a pos) (cN d):=IB h hs
def aN(i:Nat)(hN:X.N.Nodup)(h:SE X Ex (aW X) a d)(hi:X.N[i]?=some x:=by rfl)(hl:Loc X.env.scope x:=by first|exact Or.inl rfl|exact Or.inr rfl)(hs:swapsWith a (some (.Name x p)) pos.line X.env=pure false:=by rfl)(hf:X.fn x=true\/X.env.scope.names.lookup x=some .local:=by first|exact Or.inl rfl|exact Or.inr rfl) : S1 X Ex (.Assign [.Name x p] a pos) (aC i d):=Lw hN hi hl hs hf h
def nS{k:Nat}(hN:X.N.Nodup)(ht:iR X (aW X) ts is)(h:SE X Ex (aW X) a d)(hc:X.calm=true:=by rfl)(hs:swapsWithSole [.Tuple ts k p] a pos.line X.env=pure false:=by rfl)(hw:swappedStores [.Tuple ts k p] a X.env=pure none:=by rfl):S1 X Ex (.Assign [.Tuple ts k p] a pos) (g8 is d):=KP hc hN ht hs hw h
def qc(i:Nat)(hu:X.A.units+64<cLine)(hd:SE X Ex (aW X) a de)(hd2:SE X Ex (aW X) b dj)(hN:X.N[i]?=some x:=by rfl)(hv:mX X.env.scope x:=by first|exact Or.inl rfl|exact Or.inr (Or.inl rfl)|exact Or.inr (Or.inr rfl))(hs:swapsWithSole [.Subscript (.Name x p) b pos'] a pos.line X.env=pure false:=by rfl)
  (ha:∀v,assign (.Subscript (.Name x p) b pos') X.env v=(do
   let ov <-holding [v] (eval (.Name x p) X.env)
   let iv <-holding [v,ov] (eval b X.env)
   standAt pos'
   holding [v,ov,iv] (setItem ov iv v)
   release [v,ov,iv] []):=by intro _;rfl)(hb:(x==("__debug__":Str))=false:=by decide)(hcd:(x==("__classdict__":Str))=false:=by decide):S1 X Ex (.Assign [.Subscript (.Name x p) b pos'] a pos) (gz i dj de):=Lp hu (iu hN hv hb hcd) (iG (bR hN)) hs ha hd hd2
def cz(hc:ST X Ex (aW X) a t)(ha:SS X Ex u d)(hb:SS X Ex v e):S1 X Ex (.If a u v pos) (br t d e):=MG hc ha hb
def HS(hp:PassesOwn (model X.prog X.w) X.A X.env X.xe)(hc:ST X Ex (aW X) a t)(hb:SS X Ex u d):S1 X Ex (.While a u [] pos) (uK t d):=Gf hp hc hb
def fc(hp:PassesOwn (model X.prog X.w) X.A X.env X.xe)(hN:X.N.Nodup)(hi:SI X Ex (aW X) tg a di)(ht:fB X (aW X) tg t)(hb:SS X Ex u d)(hc:X.calm=true:=by rfl)(hs:∀x,foldedSetIterable a X.env x=pure x:=by intro _;rfl):S1 X Ex (.For tg a u [] pos) (dS di t d):=LK hp hc hN hi ht hb hs
end
section
variable{X:Cx}{Ex:XK}{Y:SN}
def e0:pJ X Ex Y [] []:=.nil
def eC(h:SE X Ex Y e d)(t:pJ X Ex Y es ds):pJ X Ex Y (e::es) (d::ds):=.cons h t
def xM(j:Nat){i:Nat}{x name:Str}{id:String}{p apos cpos:Pos}{es:SK}{ds:List DE}{f:DM}{r:V->List V->Hp->VK->Prop}(hm:qu X id r)(D:tZ X.K f r)(slot:Slot "list" name id)(hty:typeOf (.builtin id)=pure (.type "method_descriptor"))(S:pJ X Ex Y es ds)(hN:X.N[j]?=some x:=by rfl)(hv:mX X.env.scope x:=by first|exact Or.inl rfl|exact Or.inr (Or.inl rfl)|exact Or.inr (Or.inr rfl))(hj:Y[j]?=some i:=by rfl)(ns:es.all noStar=true:=by rfl)(l30:decide (es.length<30)=true:=by rfl)(hline:(apos.endLine==cpos.line)=true:=by rfl)(hd:(x==("__debug__":Str))=false:=by decide)(hcd:(x==("__classdict__":Str))=false:=by decide):SE X Ex Y (.Call (.Attribute (.Name x p) name apos) es [] cpos) (iA f i ds):=Lm hm D slot hty (iu hN hv hd hcd) hj ns (Oq l30) hline S
noncomputable def jS:SN->Bool
 |[]=>true
 |a::r=>!r.contains a&&jS r
theorem gH:∀{l:SN},jS l=true->l.Nodup
 |[],_=>Q2
 |a::r,h=>by rw[jS,N9,RW,Q9,decide_eq_false_iff_not]at h;exact OW.mpr ⟨h.1,gH h.2⟩
noncomputable def uD (Y cs ix:SN)(vs:SQ)(sl:SN):Bool:=(cs.length==vs.length)&&ix.all (λi=>Nat.blt i Y.length)&&cs.all (λc=>!Y.contains c)&&jS (cg Y cs ix)&&sl.all (λi=>cs.contains i)
def vZ(h:uD Y cs ix vs sl=true):cs.length=vs.length/\(∀i∈ix,i<Y.length)/\(∀c∈cs,c∉Y)/\(cg Y cs ix).Nodup/\∀i∈sl,i∈cs:=by unfold uD at h;rw[N9,N9,N9,N9,N7,N7,N7,beq_iff_eq]at h;obtain⟨⟨⟨⟨h1,h2⟩,h3⟩,h4⟩,h5⟩:=h;refine⟨h1,λi hi=>by simpa using h2 i hi,λc hc z=>?_,gH h4,λi hi=>?_⟩;{have:=h3 c hc;rw[RW,Q9,decide_eq_false_iff_not]at this;exact this z};have:=h5 i hi;rw[Q9,Oo]at this;exact this
noncomputable def Ic (r:Rq):Bool:=r.all λg=>g.is_async==0
def Bu(h:Ic r=true):∀g∈r,g.is_async=0:=λg hg=>by have:=N7.mp h g hg;simpa using this
variable{cs:SN}{elt tg iter:Expr}{ifs:SK}{scope:Scope}{pos:Pos}
def lg{rest:Rq}{vs NB:SQ}{ix:SN}{di:DI}{t:Tg}{c:DT}{r:DC}(B:lS X.N X.env.scope scope vs NB ix=true)(hi:SI X Ex Y tg iter di)(ht:∀(C:Addr)(s:Shared)(H:Hp)(fp:SH),fB (X.block scope C NB s H fp) (cg Y cs ix) tg t)(hif:∀(C:Addr)(s:Shared)(H:Hp)(fp:SH),ko (X.block scope C NB s H fp) E0 (cg Y cs ix) ifs c)(hr:∀(C:Addr)(s:Shared)(H:Hp)(fp:SH)(D:Addr),SL (X.block scope C NB s H fp) (cg Y cs ix) cs D elt (⟨tg,iter,ifs,0⟩::rest) scope pos 1 r)(hc:X.calm=true:=by rfl)(ck:uD Y cs ix vs t.slots=true:=by rfl)(ha:Ic rest=true:=by rfl)(hs:∀v,foldedSetIterable iter X.env v=pure v:=by intro _;rfl):SE X Ex Y (.ListComp elt (⟨tg,iter,ifs,0⟩::rest) scope pos) (c9 cs di t c r):=
 let⟨h1,h2,h3,h4,h5⟩:=vZ ck
 Ji (cE.of B) hc h1 h2 h3 h4 hi ht h5 hif hr (Bu ha) hs
def IC{j:Nat}{y:Str}{py spos:Pos}{rest:Rq}{vs NB:SQ}{ix:SN}{di:DI}{t:Tg}{c:DT}{r:DC}(hN:X.N.Nodup)(B:lS X.N X.env.scope scope vs NB ix=true)(hi:SI X Ex (aW X) tg iter di)(ht:∀(C:Addr)(s:Shared)(H:Hp)(fp:SH),fB (X.block scope C NB s H fp) (cg (aW X) cs ix) tg t)(hif:∀(C:Addr)(s:Shared)(H:Hp)(fp:SH),ko (X.block scope C NB s H fp) E0 (cg (aW X) cs ix) ifs c)(hr:∀(C:Addr)(s:Shared)(H:Hp)(fp:SH)(D:Addr),SL (X.block scope C NB s H fp) (cg (aW X) cs ix) cs D elt (⟨tg,iter,ifs,0⟩::rest) scope pos 1 r)(hj:X.N[j]?=some y:=by rfl)(hy:X.env.scope.names.lookup y=some .local:=by rfl)(hsw:swapsWith (.ListComp elt (⟨tg,iter,ifs,0⟩::rest) scope pos) (some (.Name y py)) spos.line X.env=pure true:=by rfl)(hc:X.calm=true:=by rfl)(ck:uD (aW X) cs ix vs t.slots=true:=by rfl)(ha:Ic rest=true:=by rfl)(hs:∀v,foldedSetIterable iter X.env v=pure v:=by intro _;rfl):S1 X Ex (.Assign [.Name y py] (.ListComp elt (⟨tg,iter,ifs,0⟩::rest) scope pos) spos) (aC j (c9 cs di t c r)):=
 let⟨h1,h2,h3,h4,h5⟩:=vZ ck
 LG hN hj hy (cE.of B) hc h1 h2 h3 h4 hi ht h5 hif hr (Bu ha) hs hsw
def gh{D:Addr}{k:Nat}(h:SE X E0 Y elt d)(hk:gens[k]?=none:=by rfl):SL X Y cs D elt gens scope pos k (c8 sizeLine d):=Hl h hk
noncomputable def tY:PyData->Option String
 |.none=>some "NoneType"
 |.bool _=>some "bool"
 |.int _=>some "int"
 |.str _=>some "str"
 |.list _=>some "list"
 |.tuple _=>some "tuple"
 |.dict _=>none
noncomputable def iX (c t:String):Bool:=t==c||(c == "int" && t == "bool")
noncomputable def pB (c:String):DR:=λds P=>match ds with
 |[d]=>au (tY d) λt=>P .sh (.bool (iX c t))
 |_=>False
noncomputable def tys:List String:=["NoneType","bool","int","str","list","tuple"]
noncomputable def u7 (K:Frag)(cs:List String):Bool:=cs.all λc=>tys.all λt=>kitOne K (.type t) (.type c)==some (iX c t)
def IG{K:Frag}{cs:List String}(h:u7 K cs=true){c t:String}(hc:c∈cs)(ht:t∈tys):kitOne K (.type t) (.type c)=some (iX c t):=by have:=N7.mp (N7.mp h c hc) t ht;simpa using this
def LN(s:ah Hm H)(r:Rp K Hm v d)(h:tY d=some t):f6 K H v (.type t)/\t∈tys:=by
 cases r with
 |bq=>cases h;exact⟨.bq,by decide⟩
 |bl b=>cases h;exact⟨.bl b,by decide⟩
 |int i=>cases h;exact⟨.int i,by decide⟩
 |str x=>cases h;exact⟨.str x,by decide⟩
 |lst a _=>cases h;refine⟨?_,by decide⟩;rcases a with (a|⟨o,a⟩)|⟨its,n,a,_⟩;{exact .lst (s _ _ a)};{exact .dZ (s _ _ a)};exact .kl a
 |tup a _=>cases h;exact⟨.tup (s _ _ a),by decide⟩
 |dk _ _=>cases h
 |dt _ _=>cases h
 |exc _ _=>cases h
def HY{css:List String}(kf:u7 X.K css=true)(hc:css.contains c=true)(hm:X.mg "isinstance"=none)(hm2:X.mg x=none)(hv:bootBuiltins x=some (.type c))(hg:Gl X "isinstance")(hg2:Gl X x)(hn:x≠"__name__")(hd:(x==("__debug__":Str))=false)(ns:noStar a=true)(S:aM X Ex Y [a] as) : SE X Ex Y (.Call (.Name "isinstance" p) [a,.Name x p2] [] pos) (aa (pB c) as):=by refine fP (r:=λvs H Q=>∃v t,vs=[v]/\f6 X.K H v (.type t)/\t∈tys/\Q (.bl (iX c t)) H) S (λU H Q h=>WE.of (vm D4 hg hm PyProof.Rows.boot_isinstance (jK bC (jK (FL (v:=.ty c) hg2 hm2 hv rfl hn hd) nW) (bz ns)) (by decide) (by decide) (bz ns) (by rfl)) ?_) ?_;{refine λpins s I=>aQ (h pins s I) λv s1 ⟨y,H1,I1,r1,w,t,e,ty,ht,q⟩=>⟨y,H1,I1,r1,?_⟩;cases e;refine⟨_,_,_,_,rfl,ty,λu hu=>?_,q⟩;cases hu;exact IG kf (by simpa using hc) ht};intro H Hm vs ds P Q s r h q;unfold pB at h;split at h;{obtain⟨v,rfl,h1⟩:=dG r;rw[<-aY]at h;obtain⟨t,e,h⟩:=h;obtain⟨ty,ht⟩:=LN s h1 e;exact⟨v,t,rfl,ty,ht,bN.sc q s h (.bl _)⟩};exact h.elim
def sD(kf:u7 X.K css=true)(hm:X.mg "isinstance"=none)(hm2:X.mg x=none)(hv:bootBuiltins x=some (.type c))(S:aM X Ex Y [a] as)(hc:css.contains c=true:=by decide)(hg:Gl X "isinstance":=by rfl)(hg2:Gl X x:=by rfl)(hn:x≠"__name__":=by decide)(hd:(x==("__debug__":Str))=false:=by decide)(ns:noStar a=true:=by rfl) : SE X Ex Y (.Call (.Name "isinstance" p) [a,.Name x p2] [] pos) (aa (pB c) as):=HY kf hc hm hm2 hv hg hg2 hn hd ns S
end
end Dv
namespace Dv
open PySem L2 PySem.W
open Classical in
noncomputable def Gh.gB (g:Gh)(H:Hp)(fp:SH):Gh:=⟨λa=>if a∈fp then H a else g.H0 a,λa=>if a∈fp then none else g.dF a,g.pins⟩
section
variable{K:Frag}{g:Gh}{E:En}{U:St}{H H' Hm Hm':Hp}{F:Nat->SH}{fp:SH}
def lP{a:Addr}(h:a∈fp):(g.gB H fp).H0 a=H a:=by unfold Gh.gB;exact if_pos h
def gq{a:Addr}(h:a∉fp):(g.gB H fp).H0 a=g.H0 a:=by unfold Gh.gB;exact if_neg h
def Cr{a:Addr}(h:a∈fp):(g.gB H fp).dF a=none:=by unfold Gh.gB;exact if_pos h
def yb{a:Addr}(h:a∉fp):(g.gB H fp).dF a=g.dF a:=by unfold Gh.gB;exact if_neg h
structure pL(g:Gh)(F:Nat->SH)(H Hm:Hp)(fp:SH):Prop where
 x8:∀a∈fp,∃u,H a=some u/\nQ u
 off:∀a∈fp,Hm a=none
 aL:∀a∈fp,∀i,a∉F i
 new:∀a∈fp,g.H0 a=none
def pL.bB(A:pL g F H Hm fp):∀a∈fp,H a≠none:=λa ha z=>by obtain⟨u,hu,_⟩:=A.x8 a ha;rw[z]at hu;cases hu
def pL.notM(A:pL g F H Hm fp)(R:Rl K g E U H Hm F):∀a∈fp,a∉g.M:=λa ha m=>by obtain⟨q,hq,rfl⟩:=NT.mp m;exact A.aL _ ha q.1 (by rw[R.vI hq];exact N6)
theorem Rl.gB(R:Rl K g E U H Hm F)(A:pL g F H Hm fp):Rl K (g.gB H fp) E U H Hm F where
 len:=R.len
 sub:=R.sub
 slot:=R.slot
 off:=R.off
 bB:=R.bB
 aL:=R.aL
 fr:=λp o hp ho=>by
  by_cases c:p∈fp
  .rw[lP c]at ho;exact ho
  .rw[gq c]at ho;exact R.fr p o hp ho
 new:=λi a ha=>by
  have c:a∉fp:=λz=>A.aL a z i ha
  rw[gq c];exact R.new i a ha
 pin:=R.pin
 old:=λa ha=>by
  by_cases c:a∈fp
  .rw[Cr c];exact .inl (A.off a c)
  .rw[gq c]at ha;rw[yb c];exact R.old a ha
def Rl.uV{F':Nat->SH}(A:pL g F H Hm fp)(nM:∀a∈fp,a∉g.M)(R:Rl K (g.gB H fp) E' σ' H' Hm' F'):Rl K g E' σ' H' Hm' F'/\pL g F' H' Hm' fp/\∀a∈fp,H' a=H a:=by
 have keep:∀a∈fp,H' a=H a:=λa ha=>by
  cases e:H a with
  |none=>exact absurd e (A.bB a ha)
  |some o=>exact R.fr a o (nM a ha) (by rw[lP ha];exact e)
 refine⟨?_,⟨λa ha=>by rw[keep a ha];exact A.x8 a ha,λa ha=>?_,λa ha i z=>?_,A.new⟩,keep⟩
 .exact {
   len:=R.len
   sub:=R.sub
   slot:=R.slot
   off:=R.off
   bB:=R.bB
   aL:=R.aL
   fr:=λp o hp ho=>by
    have c:p∉fp:=λz=>by rw[A.new p z]at ho;cases ho
    exact R.fr p o hp (by rw[gq c];exact ho)
   new:=λi a ha=>by
    rcases R.new i a ha with m|m
    .exact .inl m
    .by_cases c:a∈fp
     .exact .inr (A.new a c)
     .rw[gq c]at m;exact .inr m
   pin:=R.pin
   old:=λa ha=>by
    have c:a∉fp:=λz=>ha (A.new a z)
    have h':=R.old a (by rw[gq c];exact ha)
    rw[yb c]at h';exact h' }
 .have h':=R.old a (by rw[lP ha];exact A.bB a ha);obtain⟨u,hu,nt⟩:=A.x8 a ha;exact h'.off (Cr ha) R.sub (by rw[keep a ha];exact hu) nt
 rcases R.new i a z with m|m;{exact nM a ha m};rw[lP ha]at m;exact A.bB a ha m
def d7.snoc{b:Addr}(e:H b=some (.lst ys))(r:av K Hm ys es)(i:d7 K H Hm xs ds fp):b∉fp->d7 K H Hm (xs++[.ref b]) (ds++[.list es]) (fp++[b]):=by
 induction i with
 |nil=>exact λn=>.own e r n .nil
 |j7 h1 h2 t ih=>exact λn=>.j7 h1 h2 (ih n)
 |own h1 h2 h3 t ih=>intro n;refine .own h1 h2 (λz=>?_) (ih λz=>n (NX _ z));rcases O7.mp z with z|z;{exact h3 z};exact n (NV.mp z▸N6)
theorem d7.get:∀{xs:List V}{ds:SA}{fp:SH}{m:Nat},d7 K H Hm xs ds fp->ds[m]?=some (.list es)->∃b ys,xs[m]?=some (.ref b)/\H b=some (.lst ys)/\av K Hm ys es/\b∈fp
 |_,_,_,_,.nil,h=>by simp at h
 |_,_,_,0,.j7 e _ _,h=>by simp at h;rw[h]at e;cases e
 |_,_,_,m+1,.j7 _ _ t,h=>t.get (m:=m) (by simpa using h)
 |_,_,_,0,.own e r _ _,h=>by simp at h;subst h;exact⟨_,_,rfl,e,r,N6⟩
 |_,_,_,m+1,.own _ _ _ t,h=>by obtain⟨b,ys,h1,h2,h3,h4⟩:=t.get (m:=m) (by simpa using h);exact⟨b,ys,h1,h2,h3,NX _ h4⟩
theorem d7.put{b:Addr}(r:av K Hm ys new):∀{xs:List V}{ds:SA}{fp:SH}{m:Nat},d7 K H Hm xs ds fp->xs[m]?=some (.ref b)->(∃es,ds[m]?=some (.list es))->d7 K (upd H b (.lst ys)) Hm xs (ds.set m (.list new)) fp
 |_,_,_,_,.nil,h,_=>by simp at h
 |_,_,_,0,.j7 e _ _,_,⟨es,h⟩=>by simp at h;rw[h]at e;cases e
 |_,_,_,m+1,.j7 e h2 t,h,⟨es,h'⟩=>.j7 e h2 (t.put (m:=m) r (by simpa using h) ⟨es,by simpa using h'⟩)
 |_,_,_,0,.own (b:=b') e r' n t,h,_=>by simp at h;subst h;exact .own aG r n (t.step (ah.refl _) λa ha=>ao λz=>n (z▸ha))
 |_,_,_,m+1,.own (b:=b') (fp:=fp) e r' n t,h,⟨es,h'⟩=>by have h:_:=h;obtain⟨b2,ys2,g1,g2,g3,g4⟩:=t.get (m:=m) (es:=es) (by simpa using h');simp at h;rw[h]at g1;cases g1;refine .own (by rw[ao (show b'≠b from λz=>n (by rw[z];exact g4))];exact e) r' n (t.put (m:=m) r h ⟨es,by simpa using h'⟩)
def Rl.ME(R:Rl K g E U H Hm F){i:Nat}{b:Addr}(e:E[i]?=some (some (k,d)))(hv:U[i]?=some (some v))(hb:b∈F i)(new:Own K (upd H b o) Hm k v d' (F i))(nt:nQ o)(hp:k=.ow true->∃ds,d'=.list ds) : Rl K g (E.set i (some (k,d'))) U (upd H b o) Hm F:=by
 have na:=R.off i b hb;have up:∀c,c≠b->upd H b o c=H c:=λc hc=>ao hc;have li:=bR e;exact {
  len:=by rw[OR];exact R.len
  sub:=λc u hc=>by
   have:c≠b:=λz=>by rw[z,na]at hc;cases hc
   rw[up c this];exact R.sub c u hc
  slot:=λj k' d'' e'=>by
   by_cases c:j=i
   .subst c;rw[aD li]at e';cases e';exact⟨_,hv,new⟩
   .rw[aj (Ne.symm c)]at e';obtain⟨u,g1,g2⟩:=R.slot j k' d'' e';refine⟨u,g1,g2.step (ah.refl _) λa ha=>up a λz=>c (R.aL j i b (z▸ha) hb)⟩
  off:=R.off
  bB:=λj a ha=>by
   by_cases c:a=b
   .rw[c];exact⟨_,aG,nt⟩
   .rw[up a c];exact R.bB j a ha
  aL:=R.aL
  fr:=λq u hq ho=>by
   have:q≠b:=λz=>by
    rcases R.new i b hb with y|y
    .exact hq (z▸y)
    .rw[z,y]at ho;cases ho
   rw[up q this];exact R.fr q u hq ho
  new:=R.new
  pin:=λq hq=>by
   obtain⟨g1,ds',g2⟩:=R.pin q hq
   by_cases c:i=q.1
   .rw[<-c]at g1 g2⊢;rw[e]at g2;cases g2;obtain⟨ds,rfl⟩:=hp rfl;exact⟨g1,ds,aD li⟩
   .exact⟨g1,ds',by rw[aj c];exact g2⟩
  old:=R.old }
def Hg(h:cI t d E=some E'):E'.length=E.length:=by
 have go:∀{is:SN}{ds:SA}{E E':En},bu is ds E=some E'->E'.length=E.length:=by
  intro is;induction is with
  |nil=>intro ds E E' h;cases ds with|nil=>cases h;rfl|cons _ _=>cases h
  |cons j is ih=>
   intro ds E E' h;cases ds with
   |nil=>cases h
   |cons d ds=>rw[bu]at h;by_cases o:bg E j=true;{rw[if_pos o]at h;rw[ih h,OR]};rw[if_neg o]at h;cases h
 cases t with
 |nm j=>exact go (is:=[j]) h
 |tp js=>
  cases d with
  |tuple ds=>exact go (is:=js) h
  |_=>cases h
 |nt j js=>obtain⟨a,ds,rfl,h⟩:=sE h;exact go (is:=j::js) h
end
section
variable{X:Cx}{Ex:XK}{Y cs:SN}{elt tg iter:Expr}{ifs:SK}{scope:Scope}{pos:Pos}
def DJ{vs:SQ}{t:Tg}(B:cE X scope vs NB ix)(hc:X.calm=true)(hcs:cs.length=vs.length)(hix:∀i∈ix,i<Y.length)(aL:∀c∈cs,c∉Y)(nd:(cg Y cs ix).Nodup)(hi:SI X Ex Y tg iter di)(ht:∀(C:Addr)(s:Shared)(H:Hp)(fp:SH),fB (X.block scope C NB s H fp) (cg Y cs ix) tg t)(hts:∀i∈t.slots,i∈cs)(hif:∀(C:Addr)(s:Shared)(H:Hp)(fp:SH),ko (X.block scope C NB s H fp) E0 (cg Y cs ix) ifs c)(hr:∀(C:Addr)(s:Shared)(H:Hp)(fp:SH),SE (X.block scope C NB s H fp) E0 (cg Y cs ix) elt e)(hs:∀v,foldedSetIterable iter X.env v=pure v){w:(V->Hp->Prop)->St->Hp->Prop}(hw:∀{wi:TI}{G:TG}{tt:TT}{tr:TL}{U:St}{H:Hp}{Q:VK},PI X tg iter wi->(∀(C:Addr)(s:Shared)(H:Hp)(fp:SH),PG (X.block scope C NB s H fp) tg G)->(∀(C:Addr)(s:Shared)(H:Hp)(fp:SH),tL (X.block scope C NB s H fp) ifs tt)-> (∀(C:Addr)(s:Shared)(H:Hp)(fp:SH)(D:Addr),PL (X.block scope C NB s H fp) D elt (⟨tg,iter,ifs,0⟩::[]) scope pos 1 tr)->qU wi vs.length ix G tt tr U H Q->w Q U H)(g:Gh)(x:XC)(E:En)(U:St)(H Hm:Hp)(F:Nat->SH)(P:En->Kd->PyData->Prop)(Q:VK)(hx:XL X Ex x g)(R:Rl X.K g E U H Hm F)(p:nj sizeLine cs di t c e x E P)(q:∀E' k v u H' Hm' F' fp,P E' k v->Rl X.K g E' U H' Hm' F'->ah Hm Hm'->Tm X.K g F' H' Hm' k u v fp->Q u H'):w Q (sel Y U) H:=by
 obtain⟨wi,hpi,hwi⟩:=hi;refine hw (wi:=wi) (G:=λv U H Q=>∀(C:Addr)(s:Shared)(H2:Hp)(fp:SH),WG (X.block scope C NB s H2 fp) tg v U H Q) (tt:=λU H Q=>∀(C:Addr)(s:Shared)(H2:Hp)(fp:SH),wA (X.block scope C NB s H2 fp) ifs U H Q)
  (tr:=Ff λU H Q=>∀(C:Addr)(s:Shared)(H2:Hp)(fp:SH),WE (X.block scope C NB s H2 fp) elt U H Q) hpi (λC s H2 fp pins s' U H v u Q I r h=>h C s H2 fp pins s' u I r) (λC s H2 fp pins s' U H Q I h=>h C s H2 fp pins s' I)
  (λC s H2 fp D=>yr (λpins s' U H Q I h=>h C s H2 fp pins s' I)) ?_
 refine hwi g x E U H Hm F _ _ hx R p λE1 xs J H1 Hm1 F1 p1 R1 s1 it1=>?_;obtain⟨E0',I,hcl,i0,step,fin⟩:=p1;obtain⟨σ0,F0,R0,a0,n0⟩:=R1.bE hcl;rw[<-hcs,xT hix aL a0 λc hc=>(n0 c hc).1];refine⟨λi m ys τ H'=>m=xs.length-i/\i<=xs.length/\∃E' dys' σ' Hm' F' fp,I i dys' E'/\Rl X.K g E' σ' H' Hm' F'/\ah Hm1 Hm'/\d7 X.K H' Hm' ys dys' fp/\pL g F' H' Hm' fp/\Agree cs σ0 σ'/\τ=sel (cg Y cs ix) σ',
  ⟨xs.length,by simp,ON _,E0',[],σ0,Hm1,F0,[],i0,R0,ah.refl _,.nil,⟨(λ_ z=>by cases z),(λ_ z=>by cases z),(λ_ z=>by cases z),λ_ z=>by cases z⟩,Agree.refl _ _,rfl⟩,?_⟩
 rintro i m ys τ H2⟨rfl,hi,E2,dys2,σ2,Hm2,F2,fp,i2,R2,s2,r2,A2,a2,rfl⟩;obtain⟨go,stop⟩:=it1 i H2 Hm2 s2 R2.sub;by_cases c':i<xs.length
 .obtain⟨go,pC⟩:=go xs[i] (O5 c');refine .inr ⟨go,λys τ H'=>i+1<=xs.length/\∃E' dys' σ' Hm' F' fp,I (i+1) dys' E'/\Rl X.K g E' σ' H' Hm' F'/\ah Hm1 Hm'/\d7 X.K H' Hm' ys dys' fp/\pL g F' H' Hm' fp/\Agree cs σ0 σ'/\τ=sel (cg Y cs ix) σ',λys τ H' z=>⟨xs.length-(i+1),by lia,rfl,z⟩,λx H3 y C s H9 fp9=>?_⟩;obtain⟨Hm3,t1,t2,t3,old,rx⟩:=pC x H3 y;have R3:=R2.turn t1 t2 t3 old;have k3:∀a∈fp,H3 a=H2 a:=λa ha=>by
   cases e:H2 a with
   |none=>exact absurd e (A2.bB a ha)
   |some o=>exact t3 _ _ e
  have A3:pL g F2 H3 Hm3 fp:=⟨λa ha=>by rw[k3 a ha];exact A2.x8 a ha,λa ha=>by
   obtain⟨u,hu,nt⟩:=A2.x8 a ha;exact(old a (A2.bB a ha)).off (A2.off a ha) t2 (t3 _ _ hu) nt,A2.aL,A2.new⟩
  have r3:=r2.step (H':=H3) t1 k3;have nM:=A3.notM R3;obtain⟨E4,e4,p4⟩:=step i xs[i] dys2 E2 (O5 c') i2;obtain⟨G,g1,g2⟩:=uB (X:=X.block scope C NB s H9 fp9) hc B.nd nd (ht C s H9 fp9);refine WG.of g1 (g2 (g:=g.gB H3 fp) e4 rx (R3.gB A3) λσ4 F4 R4 ag=>?_);have a4:Agree cs σ0 σ4:=a2.trans ⟨by rw[<-R3.len,<-R4.len,Hg e4],λj hj=>ag j λz=>hj (hts j z)⟩;intro C2 s2' H92 fp92;refine(hif C2 s2' H92 fp92).ok XL.no R4 p4 λE5 b H5 Hm5 F5 p5 R5 s5=>?_;cases b with
  |true=>
   refine nA λC3 s3' H93 fp93=>?_;refine hr C3 s3' H93 fp93 (g.gB H3 fp) xF E5 σ4 H5 Hm5 F5 _ _ XL.no R5 (by rw[if_pos rfl]at p5;exact p5) λE6 k6 v6 u6 H6 Hm6 F6 fp6 p6 R6 s6 T6=>?_;obtain⟨⟨pb,rfl⟩,hl,p6⟩:=p6;obtain⟨R6',A6,k6⟩:=Rl.uV A3 nM R6;have T1:=T6.own;have hlen:ys.length=dys2.length:=by
    have:∀{xs:List V}{ds:SA}{fp:SH}{H Hm:Hp},d7 X.K H Hm xs ds fp->xs.length=ds.length:=by
     intro xs ds fp H Hm h;induction h with
     |nil=>rfl
     |j7 _ _ _ ih=>rw[OF,OF,ih]
     |own _ _ _ _ ih=>rw[OF,OF,ih]
    exact this r2
   cases T1 with
   |@ow _ b zs es hb rz=>
    have nb:b∉fp:=λz=>by have:=T6.new b N6;rw[lP z]at this;exact A3.bB b z this
    have r6:=(r3.step (H':=H6) (s5.trans s6) k6).snoc hb rz nb;refine⟨by rw[hlen];exact hl,c',E6,_,σ4,Hm6,F6,fp++[b],p6,R6',s2.trans (t1.trans (s5.trans s6)),r6,⟨λa ha=>?_,λa ha=>?_,λa ha=>?_,λa ha=>?_⟩,a4,rfl⟩;{rcases O7.mp ha with ha|ha;{exact A6.x8 a ha};rw[NV.mp ha];exact⟨_,hb,kJ⟩};{rcases O7.mp ha with ha|ha;{exact A6.off a ha};rw[NV.mp ha];exact T6.off b N6};{rcases O7.mp ha with ha|ha;{exact A6.aL a ha};rw[NV.mp ha];exact T6.aL b N6};rcases O7.mp ha with ha|ha;{exact A6.new a ha};rw[NV.mp ha];have:=T6.new b N6;rw[gq nb]at this;exact this
  |false=>obtain⟨R5',A5,k5⟩:=Rl.uV A3 nM R5;exact n6 ⟨c',E5,dys2,σ4,Hm5,F5,fp,by simpa using p5,R5',s2.trans (t1.trans s5),r3.step (H':=H5) s5 k5,A5,a4,rfl⟩
 have e:i=xs.length:=by lia
 subst e;refine .inl ⟨stop (N5 _),λp hp=>?_⟩;obtain⟨E3,hcl2,p2⟩:=fin _ _ i2;obtain⟨σ3,F3,R3p,a3,n3⟩:=(R2.gB A2).bE hcl2;obtain⟨R3,A3,_⟩:=Rl.uV A2 (A2.notM R2) R3p;have R3':=R3.agree (cs:=cs) ((a0.trans a2).trans a3).symm λc hc=>(n3 c hc).2;have s3:=dm (o:=.lst ys) hp;have R4:=R3'.grow (H':=upd H2 p (.lst ys)) s3 (ah.refl _) (R3'.sub.trans s3) (λi a ha=>R3'.off i a ha) λ_ _=>.inl rfl;have np:p∉fp:=λz=>A2.bB p z hp;refine q _ _ _ _ _ Hm2 F3 (p::fp) p2 R4 (s1.trans s2) ⟨.dp aG np (r2.step (H':=upd H2 p (.lst ys)) (ah.refl _) λa ha=>ao λz=>np (z▸ha)),λa ha=>?_,λa ha i=>?_,λa ha=>?_⟩;{rcases NY.mp ha with rfl|ha;{exact R3'.Cz hp};exact A2.off a ha};{rcases NY.mp ha with rfl|ha;{exact R3'.fresh hp};exact A3.aL a ha i};rcases NY.mp ha with rfl|ha;{exact R3'.ir hp};exact A2.new a ha
end
section
variable{X:Cx}{Ex:XK}{Y cs:SN}{elt tg iter:Expr}{ifs:SK}{scope:Scope}{pos:Pos}
def MJ{j:Nat}(hN:X.N.Nodup)(B:lS X.N X.env.scope scope vs NB ix=true)(hi:SI X Ex (aW X) tg iter di)(ht:∀(C:Addr)(s:Shared)(H:Hp)(fp:SH),fB (X.block scope C NB s H fp) (cg (aW X) cs ix) tg t)(hif:∀(C:Addr)(s:Shared)(H:Hp)(fp:SH),ko (X.block scope C NB s H fp) E0 (cg (aW X) cs ix) ifs c)(hr:∀(C:Addr)(s:Shared)(H:Hp)(fp:SH),SE (X.block scope C NB s H fp) E0 (cg (aW X) cs ix) elt e)(hj:X.N[j]?=some y:=by rfl)(hy:X.env.scope.names.lookup y=some .local:=by rfl)(hsw:swapsWith (.ListComp elt [⟨tg,iter,ifs,0⟩] scope pos) (some (.Name y py)) spos.line X.env=pure true:=by rfl)(hc:X.calm=true:=by rfl)(ck:uD (aW X) cs ix vs t.slots=true:=by rfl)(hs:∀v,foldedSetIterable iter X.env v=pure v:=by intro _;rfl):S1 X Ex (.Assign [.Name y py] (.ListComp elt [⟨tg,iter,ifs,0⟩] scope pos) spos) (aC j (nj sizeLine cs di t c e)):=by
 obtain⟨h1,h2,h3,h4,h5⟩:=vZ ck;have B':cE X scope vs NB ix:=cE.of B;have ha:∀g∈([]:Rq),g.is_async=0:=λ_ z=>by cases z
 rw[sf];intro g D' E U H Hm F D hx R p nx rt;refine DJ B' hc h1 h2 h3 h4 hi ht h5 hif hr hs (w:=λQ τ H=>(Q=λu H1=>D.nx (τ.set j (some u)) H1)->WS X (.Assign [.Name y py] (.ListComp elt [⟨tg,iter,ifs,0⟩] scope pos) spos) D τ H)
  (λg1 g2 g3 g4 g5 e=>by
   subst e;exact WS.of (vW hN hj hy B' hc g1 g2 g3 g4 hsw ha hs) g5) g D'.xc E U H Hm F _ _ hx R p (λE' k v u H' Hm' F' fp p' R' s' T=>?_) rfl
 rw[gI PN (iG (bR hj)) (R'.len▸eX p'.1)];exact nx _ _ _ _ _ p'.2 (R'.put T p'.1) s'
def Dq{i n:Nat}(h:cY E n=some E')(ne:i≠n):E'[i]?=E[i]?:=by unfold cY at h;split at h;{split at h;{cases h;exact aj (Ne.symm ne)};cases h};cases h
def JQ{x y name:Str}{id:String}{p yp sp apos cpos:Pos}{jx:Expr}{f:DM}{r:V->List V->Hp->VK->Prop}{dj:DE}{i j n jn:Nat}(hm:qu X id r)(D:tZ X.K f r)(slot:Slot "list" name id)(hty:typeOf (.builtin id)=pure (.type "method_descriptor"))(hv:PE X (.Name x p) (mJ j))(hj:Y[j]?=some i)(hy:PE X (.Name y yp) (mJ jn))(hjn:Y[jn]?=some n)(hs:lN jx)(hd:SE X Ex Y jx dj)(hline:(apos.endLine==cpos.line)=true) : SE X Ex Y (.Call (.Attribute (.Subscript (.Name x p) jx sp) name apos) [.Name y yp] [] cpos) (wK f i dj n):=by
 intro g xc E U H Hm F P Q hx R h q;obtain⟨hh,h⟩:=h;obtain⟨o,ho⟩:=nv R hh;refine WE.of (zD Qn slot hty hm (bC (e:=.Subscript (.Name x p) jx sp)) (dM (es:=[.Name y yp]) rfl) rfl (AX rfl (show 1<30 by decide)) hline rfl rfl) ?_;refine WE.of (ES BA hv bC hs) ⟨o,fN hj ho,?_⟩;refine hd g xc E U H Hm F _ _ hx R h λE1 k1 w u1 H1 Hm1 F1 fp1 p1 R1 s1 T1=>?_;obtain⟨a,pp,ds,m,es,k,d,E2,rfl,e1,hix,hes,en,ne,hf,p1⟩:=p1;cases T1.own.int;obtain⟨v',h1,h2⟩:=R1.slot i _ _ e1;rw[ho]at h1;cases h1;obtain⟨vn,Hm2,F2,hvn,s2,R2,rn⟩:=R1.cY en hf;have e2:E2[i]?=some (some (.dp pp,.list ds)):=(Dq hf ne).trans e1;obtain⟨v2,h3,h4⟩:=R2.slot i _ _ e2;rw[ho]at h3;cases h3;generalize hfi:F2 i=fi at h4;cases h4 with
 |@dp _ a0 xs _ fq ha0 n0 it0=>
  obtain⟨b,ys,hxm,hb,ry,mb⟩:=it0.get hes;have hlen:xs.length=ds.length:=by
   have:∀{xs:List V}{ds:SA}{fp:SH}{H Hm:Hp},d7 X.K H Hm xs ds fp->xs.length=ds.length:=by
    intro xs ds fp H Hm h;induction h with
    |nil=>rfl
    |j7 _ _ _ ih=>rw[OF,OF,ih]
    |own _ _ _ _ ih=>rw[OF,OF,ih]
   exact this it0
  refine .inl ⟨_,xs,a,.ref b,rfl,rfl,bX.of ha0,?_,.inl ⟨rfl,_,bX.of hb⟩,?_⟩;{show(mZ xs.length a).bind (λj=>xs[j]?)=some (.ref b);rw[hlen,show mZ ds.length a=some m from hix];exact hxm};refine WE.of hy ⟨vn,fN hjn hvn,?_⟩;show r (.ref b) [vn] H1 Q;have mbF:b∈F2 i:=by rw[hfi];exact NX _ mb
  refine D H1 Hm2 b ys es [vn] [d] _ Q hb (R2.off i b mbF) R2.sub ry (.cons rn .nil) p1 λys' new u v p2 ry' ru=>?_;have nab:a0≠b:=λz=>n0 (z▸mb);have R3:=R2.ME (o:=.lst ys') (d':=.list (ds.set m (.list new))) e2 ho mbF (by
   rw[hfi];exact .dp (by rw[ao nab];exact ha0) n0 (it0.put ry' hxm ⟨es,hes⟩)) kJ λz=>by cases z
  exact q _ _ _ _ _ _ _ [] p2 R3 (s1.trans s2) (Tm.sh ru)
def Ms(j jn:Nat){i n:Nat}{x y name:Str}{id:String}{p yp sp apos cpos:Pos}{jx:Expr}{f:DM}{r:V->List V->Hp->VK->Prop}{dj:DE}(hm:qu X id r)(D:tZ X.K f r)(slot:Slot "list" name id)(hty:typeOf (.builtin id)=pure (.type "method_descriptor"))(hd:SE X Ex Y jx dj)(hN:X.N[j]?=some x:=by rfl)(hv:mX X.env.scope x:=by first|exact Or.inl rfl|exact Or.inr (Or.inl rfl)|exact Or.inr (Or.inr rfl))(hj:Y[j]?=some i:=by rfl)(hNn:X.N[jn]?=some y:=by rfl)(hvn:mX X.env.scope y:=by first|exact Or.inl rfl|exact Or.inr (Or.inl rfl)|exact Or.inr (Or.inr rfl))(hjn:Y[jn]?=some n:=by rfl)(hs:lN jx:=by intro _ _;rfl)(hline:(apos.endLine==cpos.line)=true:=by rfl)(hb:(x==("__debug__":Str))=false:=by decide)(hcd:(x==("__classdict__":Str))=false:=by decide)(hbn:(y==("__debug__":Str))=false:=by decide)(hcn:(y==("__classdict__":Str))=false:=by decide) : SE X Ex Y (.Call (.Attribute (.Subscript (.Name x p) jx sp) name apos) [.Name y yp] [] cpos) (wK f i dj n):=JQ hm D slot hty (iu hN hv hb hcd) hj (iu hNn hvn hbn hcn) hjn hs hd hline
end
section
variable{P:Program}{w:World}{K:Frag}{mg:Rr}{base:Heap}{N:SQ}{qual:Str}{scope:Scope}{f:Addr}{cd:Value}{A:Around}{outer:List Env}{s0:Shared}{H0:Hp}{Ex:XK}
def GH{j}(h:∃C,mg x=some (.ref C)/\jN K C AA "ValueError.__new__" none=true)(hg:Gl (fS (eN P w) P w K mg base N qual scope f cd A outer s0 H0 Ex) x:=by rfl)(hdb:(x==("__debug__":Str))=false:=by decide) : S1 (fS (eN P w) P w K mg base N qual scope f cd A outer s0 H0 Ex) Ex (.Raise (some (.Call (.Name x np) [.Constant (.str y) j p] [] cpos)) none pos) (wX x):=by obtain⟨C,h⟩:=h;intro g D' E U H Hm F D hx R hp nx rt;refine WS.of (Dc h.2 hg h.1 (jK Bj nW) hdb) ⟨by show 1<=sizeLine;decide,λa ha=>?_⟩;exact hx x .none C a _ h.1 hp (λp o hp ho=>dm ha _ _ (R.fr p o hp ho)) aG (R.ir ha)
end
end Dv
namespace Dv
open PySem L2
universe u
noncomputable def aI {a b:Prop}(x:a)(y:b):a/\b:=⟨x,y⟩
theorem rr0:dC v x E Q=Q E .sh v:=rfl
theorem rr1:aV i x (o::E) Q=CI (o::E) i Q:=rfl
theorem rr2:aa r as x (o::E) Q=gE as x (o::E) λE1 os=>uQ r as E1 os Q:=rfl
theorem rr3:aA sp ms as x (o::E) Q=gE as x (o::E) λE1 os=>CG sp ms as x E1 os Q:=rfl
theorem rr4:aR d x (o::E) Q=d x (o::E) λE' _ v=>qT v (Q E'):=rfl
theorem rr5:Ew i x (o::E) Q=By (o::E) i Q:=rfl
theorem rr6:Ec t x (o::E) Q=t x (o::E) λE' b=>Q E' (!b):=rfl
theorem rr7:iJ a b x (o::E) Q=a x (o::E) λE1 _ v=>xX v λc=>cW c (b x E1 Q) (Q E1 .sh (.bool false)):=rfl
theorem rr8:m8 a b x (o::E) Q=a x (o::E) λE1 _ v=>xX v λc=>cW c (Q E1 .sh (.bool true)) (b x E1 Q):=rfl
theorem rr9:pO a x (o::E) Q=a x (o::E) λE1 _ v=>qT v λc=>Q E1 .sh (.bool !c):=rfl
theorem rr10:nR f f' a b c x (o::E) Q=a x (o::E) λE1 _ u=>pA u λi=>b x E1 λE2 _ v=>pA v λj=>cW (f i j) (c x E2 λE3 _ w=>pA w λk=>Q E3 .sh (.bool (f' j k))) (Q E2 .sh (.bool false)):=rfl
theorem rr11:yf c a b x (o::E) Q=c x (o::E) λE1 t=>cW t (a x E1 Q) (b x E1 Q):=rfl
theorem rr12:bx D E=D.nx E:=rfl
theorem rr13:ak a b D (o::E)=a { D with nx:=b D } (o::E):=rfl
theorem rr14:br c a b D (o::E)=c D.xc (o::E) λE1 t=>cW t (a D E1) (b D E1):=rfl
theorem rr15:aC i e D (o::E)=e D.xc (o::E) λE' k v=>bK (pV E' i) (D.nx (E'.set i (some (k,v)))):=rfl
theorem rr16:g8 is e D (o::E)=e D.xc (o::E) λE' k v=>bK k.fz (Bx is v E' D.nx):=rfl
theorem rr17:bw e D (o::E)=e D.xc (o::E) D.rt:=rfl
theorem rr18:gR i D (o::E)=A9 (o::E) i D.rt:=rfl
theorem rr19:iA f i es x (o::E) Q=bK (kX (o::E) i) (gE (es.map .ev) x (o::E) λE1 os=>Bp f i (es.map .ev) E1 os Q):=rfl
theorem rr20:gz i j e D (o::E)=e D.xc (o::E) λE1 k v=>bK k.fz (bK (here E1 i) (j D.xc E1 λE2 k2 w=>bK k2.fz (gz.setI E2 i w v D.nx))):=rfl
theorem rr21:MM f i e D (o::E)=bK (here (o::E) i) (e D.xc (o::E) λE1 _ v=>JC f E1 i v D.nx):=rfl
theorem rr22:wX c D E=D.xc c .none:=rfl
theorem rr23:cN e D (o::E)=e D.xc (o::E) λE' _ _=>D.nx E':=rfl
theorem rr24:lA x E Q=Q E true:=rfl
theorem rr25:iE e x (o::E) Q=e x (o::E) λE' k v=>bK k.fz (EB v λxs=>Q E' xs):=rfl
theorem rr26:iB g as x (o::E) Q=gE as x (o::E) λE1 os=>au (cy as E1 os) λds=>au (g ds) λxs=>Q E1 xs:=rfl
theorem rr27:yg e x (o::E) Q=e x (o::E) λE' k v=>bK k.fz (m6 v λds=>Q E' (d8 ds)):=rfl
theorem rr28:Nh a b x (o::E) Q=a x (o::E) λE1 k v=>bK k.fz (b x E1 λE2 k2 v2=>bK k2.fz (m6 v λds=>m6 v2 λes=>Q E2 ((ds.zip es).map λp=>.tuple [p.1,p.2]))):=rfl
theorem rr29:c8 most e x ys (o::E) Q=e x (o::E) λE1 k v=>k.fz=true/\ys.length<most/\Q (ys++[v]) E1:=rfl
theorem rr30:gE [] x E Q=Q E []:=rfl
theorem rr31:gE (.pk i::r) x (o::E) Q=bK (here (o::E) i) (gE r x (o::E) λE' os=>Q E' (none::os)):=rfl
theorem rr32:gE (.ev d::r) x (o::E) Q=d x (o::E) λE1 k v=>bK k.fz (gE r x E1 λE' os=>Q E' (some v::os)):=rfl
theorem rr33:cy [] E []=some []:=rfl
theorem rr34:∀{i:Nat}{r:List Arg}{o:Option (Kd×PyData)}{E:En}{os:List (Option PyData)},cy (.pk i::r) (o::E) (none::os)=match(o::E)[i]? with
  |some (some (k,d))=>cW k.rd ((cy r (o::E) os).map (d::·)) none
  |_=>none:=rfl
theorem rr35:∀{d:DE}{v:PyData}{r:List Arg}{E:En}{os:List (Option PyData)},cy (.ev d::r) E (some v::os)=(cy r E os).map (v::·):=rfl
theorem rr36:au (some a) Q=Q a:=rfl
theorem rr37:au none Q=False:=rfl
theorem rr38:here (o::E) i=match(o::E)[i]? with
  |some (some _)=>true
  |_=>false:=rfl
theorem rr39:bG (some (k,d))=!k.pin:=rfl
theorem rr40:bG none=true:=rfl
theorem rr41:kX (o::E) i=match(o::E)[i]? with
  |some (some (.ow _,.list _))=>true
  |_=>false:=rfl
theorem rr42:gQ (o::E) i=match(o::E)[i]? with
  |some (some (.sh,_))=>true
  |_=>false:=rfl
theorem rr43:qo (o::E) i=match(o::E)[i]? with
  |some (some (k,d))=>cW k.fz (some ((o::E).set i (some (.sh,d)))) none
  |_=>none:=rfl
theorem rr44:gj [] E=some E:=rfl
theorem rr45:gj (i::r) E=(qo E i).bind (gj r):=rfl
theorem rr46:CI (o::E) i Q=match(o::E)[i]? with
  |some (some (_,d))=>au (qo (o::E) i) λE'=>Q E' .sh d
  |_=>False:=rfl
theorem rr47:A9 (o::E) i Q=match(o::E)[i]? with
  |some (some (k,d))=>bK (!k.pin) (Q ((o::E).set i none) k d)
  |_=>False:=rfl
theorem rr48:By (o::E) i Q=match(o::E)[i]? with
  |some (some (k,d))=>bK k.rd (qT d (Q (o::E)))
  |_=>False:=rfl
theorem rr49:∀{r:DR}{as:List Arg}{o:Option (Kd×PyData)}{E:En}{os:List (Option PyData)}{Q:En->Kd->PyData->Prop},uQ r as (o::E) os Q=au (cy as (o::E) os) λds=>r ds λk v=>au (qq as (o::E) k v) λE2=>Q E2 k v:=rfl
theorem rr50:∀{sp:bM}{ms:SJ}{as:List Arg}{x:XC}{o:Option (Kd×PyData)}{E:En}{os:List (Option PyData)}{Q:En->Kd->PyData->Prop},CG sp ms as x (o::E) os Q=au (cy as (o::E) os) λds=>bK (qW ms as (o::E)) (sp ds (λus k v=>Bt ms as (o::E) us k v Q) x):=rfl
theorem rr51:∀{f:DM}{i:Nat}{as:List Arg}{o:Option (Kd×PyData)}{E:En}{os:List (Option PyData)}{Q:En->Kd->PyData->Prop},Bp f i as (o::E) os Q=au (cy as (o::E) os) λargs=>match(o::E)[i]? with
  |some (some (.ow p,.list ds))=>f ds args λnew v=>Q ((o::E).set i (some (.ow p,.list new))) .sh v
  |_=>False:=rfl
theorem rr52:JC f (o::E) i v Q=match(o::E)[i]? with
  |some (some (_,.int a))=>pA v λb=>Q ((o::E).set i (some (.sh,.int (f a b))))
  |_=>False:=rfl
theorem rr53:qT (.bool b) Q=Q b:=rfl
theorem rr54:xX (.bool b) Q=Q b:=rfl
theorem rr55:pA (.int i) Q=Q i:=rfl
theorem rr56:qT (.list ds) Q=Q (!ds.isEmpty):=rfl
theorem rr57:EB (.list ds) Q=Q ds:=rfl
theorem rr58:EB (.tuple ds) Q=Q ds:=rfl
theorem rr59:m6 (.list ds) Q=Q ds:=rfl
theorem rr60:qq as (o::E) k v=cW ((cK as).all (gQ (o::E))||flat k v) (some (o::E)) (gj (cK as) (o::E)):=rfl
theorem rr61:cK []=[]:=rfl
theorem rr62:cK (.pk i::r)=i::cK r:=rfl
theorem rr63:cK (.ev d::r)=cK r:=rfl
theorem rr64:Kd.fz .sh=true:=rfl
theorem rr65:Kd.fz (.ow false)=true:=rfl
theorem rr66:Kd.fz (.dp false)=true:=rfl
theorem rr67:Kd.fz (.dk false)=true:=rfl
theorem rr68:Kd.fz (.dt false)=true:=rfl
theorem rr69:Kd.rd .sh=true:=rfl
theorem rr70:Kd.rd (.ow p)=true:=rfl
theorem rr71:Kd.rd (.dp p)=true:=rfl
theorem rr72:Kd.rd (.dk p)=true:=rfl
theorem rr73:Kd.rd (.dt p)=true:=rfl
theorem rr74:Kd.pin .sh=false:=rfl
theorem rr75:Kd.pin (.ow p)=p:=rfl
theorem rr76:Kd.pin (.dp p)=p:=rfl
theorem rr77:Kd.pin (.dk p)=p:=rfl
theorem rr78:Kd.pin (.dt p)=p:=rfl
theorem rr79:flat .sh v=lf v:=rfl
theorem rr80:lf (.int i)=true:=rfl
theorem rr81:lf (.bool b)=true:=rfl
theorem rr82:lf (.str s)=true:=rfl
theorem rr83:lf .none=true:=rfl
theorem rr84:(bD ms Q x).xc=x:=rfl
theorem rr85:(bD ms Q x).nx (o::E)=au (eS ms (o::E)) λus=>Q us .sh .none:=rfl
theorem rr86:(bD ms Q x).rt (o::E) k v=au (eS ms (o::E)) λus=>Q us k v:=rfl
theorem rr87:eS [] E=some []:=rfl
theorem rr88:eS (true::ms) (some (.ow true,.list es)::E)=(eS ms E).map (.list es::·):=rfl
theorem rr89:eS (false::ms) (o::E)=eS ms E:=rfl
theorem rr90:ini (true::ms) (d::ds)=some (.ow true,d)::ini ms ds:=rfl
theorem rr91:ini (false::ms) (d::ds)=some (.sh,d)::ini ms ds:=rfl
theorem rr92:ini [] []=[]:=rfl
theorem rr93:List.replicate (n+1) (none:Option (Kd×PyData))=none::List.replicate n none:=rfl
theorem rr94:List.replicate 0 (none:Option (Kd×PyData))=[]:=rfl
theorem rr95:∀{α β:Type}{f:α->β}{a:α},(some a).map f=some (f a):=rfl
theorem rr96:∀{α β:Type}{f:α->Option β}{a:α},(some a).bind f=f a:=rfl
theorem rr97:∀{α:Type}{p:α->Bool},[].all p=true:=rfl
theorem rr98:∀{α:Type}{p:α->Bool}{a:α}{l:List α},(a::l).all p=(p a&&l.all p):=rfl
theorem rr99:(true&&b)=b:=rfl
theorem rr100:(false&&b)=false:=rfl
theorem rr101:(true||b)=true:=rfl
theorem rr102:(false||b)=b:=rfl
theorem rr103:((!true)=false):=rfl
theorem rr104:((!false)=true):=rfl
theorem rr105:∀{α:Type}{l:List α},([]:List α)++l=l:=rfl
theorem rr106:∀{α:Type}{a:α}{l m:List α},(a::l)++m=a::(l++m):=rfl
theorem rr107:pV (o::E) i=match(o::E)[i]? with
  |some o=>bG o
  |none=>false:=rfl
theorem rr108:bK true P=P:=rfl
theorem rr109:bK false P=False:=rfl
theorem rr110:∀{α:Sort u}{a b:α},cW true a b=a:=rfl
theorem rr111:∀{α:Sort u}{a b:α},cW false a b=b:=rfl
theorem rr112:Bx is (.tuple ds) E Q=au (stK is ds E) Q:=rfl
theorem rr113:stK [] [] E=some E:=rfl
theorem rr114:stK (i::is) (d::ds) (o::E)=cW (pV (o::E) i) (stK is ds ((o::E).set i (some (.sh,d)))) none:=rfl
theorem rr115:k8 i []=false:=rfl
theorem rr116:k8 i (j::l)=(i==j||k8 i l):=rfl
theorem rr117:nY [] ks E=true:=rfl
theorem rr118:nY (i::r) ks E=((!k8 i ks&&!k8 i r&&kX E i)&&nY r ks E):=rfl
theorem rr119:∀{α:Type}{o:α}{E:List α},(o::E)[0]?=some o:=rfl
theorem rr120:∀{α:Type}{o:α}{E:List α}{n:Nat},(o::E)[n+1]?=E[n]?:=rfl
theorem rr121:∀{α:Type}{o a:α}{E:List α},(o::E).set 0 a=a::E:=rfl
theorem rr122:∀{α:Type}{o a:α}{E:List α}{n:Nat},(o::E).set (n+1) a=o::E.set n a:=rfl
def dv:=aI @rr0<|aI @rr1<|aI @rr2<|aI @rr3<|aI @rr4<|aI @rr5<|aI @rr6<|aI @rr7<|aI @rr8<|aI @rr9<|aI @rr10<|aI @rr11<|aI @rr12<|aI @rr13<|aI @rr14<|aI @rr15<|aI @rr16<|aI @rr17<|aI @rr18<|aI @rr19<|aI @rr20<|aI @rr21<|aI @rr22<|aI @rr23<|aI @rr24<|aI @rr25<|aI @rr26<|aI @rr27<|aI @rr28<|aI @rr29<|aI @rr30<|aI @rr31<|aI @rr32<|aI @rr33<|aI @rr34<|aI @rr35<|aI @rr36<|aI @rr37<|aI @rr38<|aI @rr39<|aI @rr40<|aI @rr41<|aI @rr42<|aI @rr43<|aI @rr44<|aI @rr45<|aI @rr46<|aI @rr47<|aI @rr48<|aI @rr49<|aI @rr50<|aI @rr51<|aI @rr52<|aI @rr53<|aI @rr54<|aI @rr55<|aI @rr56<|aI @rr57<|aI @rr58<|aI @rr59<|aI @rr60<|aI @rr61<|aI @rr62<|aI @rr63<|aI @rr64<|aI @rr65<|aI @rr66<|aI @rr67<|aI @rr68<|aI @rr69<|aI @rr70<|aI @rr71<|aI @rr72<|aI @rr73<|aI @rr74<|aI @rr75<|aI @rr76<|aI @rr77<|aI @rr78<|aI @rr79<|aI @rr80<|aI @rr81<|aI @rr82<|aI @rr83<|aI @rr84<|aI @rr85<|aI @rr86<|aI @rr87<|aI @rr88<|aI @rr89<|aI @rr90<|aI @rr91<|aI @rr92<|aI @rr93<|aI @rr94<|aI @rr95<|aI @rr96<|aI @rr97<|aI @rr98<|aI @rr99<|aI @rr100<|aI @rr101<|aI @rr102<|aI @rr103<|aI @rr104<|aI @rr105<|aI @rr106<|aI @rr107<|aI @rr108<|aI @rr109<|aI @rr112<|aI @rr113<|aI @rr114<|aI @rr115<|aI @rr116<|aI @rr117<|aI @rr118<|aI @rr119<|aI @rr120<|aI @rr121<|@rr122
def dw:
 (∀{o:Option (Kd×PyData)}{E:En}{i:Nat},bg (o::E) i=match(o::E)[i]? with
  |some o=>bG o
  |none=>false) /\
 (∀{P:Prop},(True/\P)=P) /\
 (∀{P:Prop},(P/\True)=P) /\
 (∀{α:Type}{a:α},(a=a)=True) /\
 (∀{b:Bool},(b||true)=true) /\
 (∀{α:Type}{a b:α},(if True then a else b)=a) /\
 (∀{α:Type}{a b:α},(if False then a else b)=b) /\
 (∀{p:Prop} [Decidable p],(decide p=true)=p) /\
 ((true=false)=False) /\
 ((false=true)=False) /\
 (∀{b:Bool},((!b)=true)=(b=false)) /\
 (∀{p:Prop} [Decidable p],(decide p=false)=¬p) /\
 (type_of%@cZ) /\
 (∀{α:Type}{p:Prop} [Decidable p]{a b:α},cW (decide p) a b=if p then a else b) /\
 (∀{p:Prop} [Decidable p]{a b:Prop},cW (decide p) a b=if p then a else b) /\
 (∀{b:Bool}{p q:Prop},cW b p q=if b=true then p else q) /\
 (∀{α:Type}{b:Bool}{p q:α},cW b p q=if b=true then p else q):=
 ⟨(by intro o E i;unfold bg bG;generalize (o::E)[i]?=z;rcases z with _|_|⟨k,d⟩<;>rfl),(by intros;simp),(by intros;simp),(by intros;simp),(by intros;simp),(by intros;simp),(by intros;simp),(by intros;simp),(by intros;simp),(by intros;simp),(by intros;simp),(by intros;simp),@cZ,(by intros;rw[bT];simp only[Oo]),(by intros;rw[bT];simp only[Oo]),(by intros;exact bT),(by intros;exact bT)⟩
def Nc{x:PyData}{l:SA}:cR (x::l) 0=some x:=by unfold cR mZ;simp
def Nn{x y:PyData}{l:SA}:cR (x::y::l) 1=some y:=by unfold cR mZ;simp;rw[if_pos (by lia)];rfl
def ND{n:Nat}:j8 (n+1) 0=some 0:=by unfold j8;simp
def Mj{n:Nat}:j8 (n+2) 1=some 1:=by unfold j8;simp;lia
theorem rr123:bS [.int a,.int b] P=P .sh (.int (a+b)):=rfl
theorem rr124:bS [.list a,.list b] P=(a.length+b.length<=sizeLine/\P (.ow false) (.list (a++b))):=rfl
theorem rr125:bS [.tuple a,.tuple b] P=((a≠[]/\a.length+b.length<=sizeLine)/\P .sh (.tuple (a++b))):=rfl
theorem rr126:n9 [.int a,.int b] P=P .sh (.int (a-b)):=rfl
theorem rr127:jq [.int a,.int b] P=(sC a b/\P .sh (.int (a*b))):=rfl
theorem rr128:jq [.list a,.int k] P=((-(2^63)<=k/\k<2^63/\a.length*k.toNat<=sizeLine)/\P (.ow false) (.list (List.replicate k.toNat a).flatten)):=rfl
theorem rr129:mw [.int a,.int b] P=(0<b/\P .sh (.int (a%b))):=rfl
theorem rr130:De [.int a,.int b] P=(zu a b/\P .sh (.int (a/b))):=rfl
theorem rr131:rV [.int a,.int b] P=(vz a b/\P .sh (.int (a^b.toNat))):=rfl
theorem rr132:rH [.int a,.int b] P=P .sh (.bool (decide (a<b))):=rfl
theorem rr133:NL [.int a,.int b] P=P .sh (.bool (decide (a<=b))):=rfl
theorem rr134:EX [.int a,.int b] P=P .sh (.bool (decide (b<a))):=rfl
theorem rr135:xx [.int a,.int b] P=P .sh (.bool (decide (b<=a))):=rfl
theorem rr136:rQ [.int a] P=P .sh (.int (-a)):=rfl
theorem rr137:cV [.int a,.int b] P=P .sh (.bool (decide (a=b))):=rfl
theorem rr138:cV [.str a,.str b] P=P .sh (.bool (decide (a=b))):=rfl
theorem rr139:iy [.int a,.int b] P=P .sh (.bool !(decide (a=b))):=rfl
theorem rr140:iy [.str a,.str b] P=P .sh (.bool !(decide (a=b))):=rfl
theorem rr141:cV [.list a,.list b] P=((dl 8 (.list a)=true/\dl 8 (.list b)=true)/\P .sh (.bool (decide (PyData.list a=.list b)))):=rfl
theorem rr142:iy [.list a,.list b] P=((dl 8 (.list a)=true/\dl 8 (.list b)=true)/\P .sh (.bool !(decide (PyData.list a=.list b)))):=rfl
theorem rr143:aK [.list xs,.int i] P=au (atK xs i) (P .sh):=rfl
theorem rr144:aK [.tuple xs,.int i] P=au (atK xs i) (P .sh):=rfl
theorem rr145:bW [.list xs] P=P .sh (.int xs.length):=rfl
theorem rr146:bW [.tuple xs] P=P .sh (.int xs.length):=rfl
theorem rr147:mO [.list xs] P=P (.ow false) (.list xs):=rfl
theorem rr148:mO [.tuple xs] P=P (.ow false) (.list xs):=rfl
theorem rr149:jc [.list xs] P=P .sh (.tuple xs):=rfl
theorem rr150:jc [.tuple xs] P=P .sh (.tuple xs):=rfl
theorem rr151:uA [.int a,.int b] P=P .sh (.int (if b<a then b else a)):=rfl
theorem rr152:LC [.int a,.int b] P=P .sh (.int (if b>a then b else a)):=rfl
theorem rr153:MK [.int a] P=P .sh (.int (if a<0 then-a else a)):=rfl
theorem rr154:fj [.int a] P=P .sh (.int a):=rfl
theorem rr155:fj [.bool b] P=P .sh (.int (if b=true then 1 else 0)):=rfl
theorem rr156:jX [.int j] P=((0<=j/\j<=1000)/\P (.ow false) (.list (jh 0 j.toNat))):=rfl
theorem rr157:aZ ds P=(ds.length<=sizeLine/\P (.ow false) (.list ds)):=rfl
theorem rr158:bO ds P=(ds.length<=sizeLine/\P .sh (.tuple ds)):=rfl
theorem rr159:fD false false [.list xs] P=P (.ow false) (.list (cutD xs none none)):=rfl
theorem rr160:fD true false [.list xs,.int a] P=P (.ow false) (.list (cutD xs (some a) none)):=rfl
theorem rr161:fD false true [.list xs,.int b] P=P (.ow false) (.list (cutD xs none (some b))):=rfl
theorem rr162:fD true true [.list xs,.int a,.int b] P=P (.ow false) (.list (cutD xs (some a) (some b))):=rfl
theorem rr163:fD false true [.tuple xs,.int b] P=P .sh (.tuple (cutD xs none (some b))):=rfl
theorem rr164:jU [.int j]=@ite _ (-(2^62)<=j/\j<2^62) (Classical.propDecidable _) (some (jh 0 j.toNat)) none:=rfl
theorem rr165:xy [.int i,.int j]=@ite _ (-(2^62)<=i/\i<2^62/\-(2^62)<=j/\j<2^62) (Classical.propDecidable _) (some (jh i (j-i).toNat)) none:=rfl
theorem rr166:pB c [d] P=au (tY d) λt=>P .sh (.bool (iX c t)):=rfl
theorem rr167:tY (.int i)=some "int":=rfl
theorem rr168:tY (.tuple i)=some "tuple":=rfl
theorem rr169:tY (.list i)=some "list":=rfl
theorem rr170:tY (.bool b)=some "bool":=rfl
theorem rr171:tY .none=some "NoneType":=rfl
theorem rr172:iX "int" "int"=true:=rfl
theorem rr173:iX "int" "tuple"=false:=rfl
theorem rr174:iX "tuple" "int"=false:=rfl
theorem rr175:iX "tuple" "tuple"=true:=rfl
theorem rr176:iX "bool" "int"=false:=rfl
theorem rr177:iX "list" "list"=true:=rfl
theorem rr178:iX "int" "NoneType"=false:=rfl
theorem rr179:iX "tuple" "NoneType"=false:=rfl
theorem rr180:cj ds [d] P=(ds.length<sizeLine/\P (ds++[d]) .none):=rfl
theorem rr181:l0 ds [.list es] P=(ds.length+es.length<=sizeLine/\P (ds++es) .none):=rfl
theorem rr182:Kr ds [] P=∃d,ds[ds.length-1]?=some d/\P ds.dropLast d:=rfl
theorem rr183:Kr ds [.int i] P=((-(2^63)<=i/\i<2^63)/\∃n d,seqIndex? i ds.length=some n/\ds[n]?=some d/\P (ds.eraseIdx n) d):=rfl
theorem rr184:cI (.nm i) d E=bu [i] [d] E:=rfl
theorem rr185:cI (.tp is) (.tuple ds) E=bu is ds E:=rfl
theorem rr186:bu [] [] E=some E:=rfl
theorem rr187:bE [] E=some E:=rfl
theorem rr188:gz.setI (o::E) i w v Q=match(o::E)[i]?,w with
  |some (some (.ow p,.list ds)),.int a=>au (wI ds.length a) λn=>Q ((o::E).set i (some (.ow p,.list (ds.set n v))))
  |some (some (.dk p,.dict kvs)),w=>(lH w=true/\kvs.length<16777216)/\Q ((o::E).set i (some (.dk p,.dict (putD kvs w v))))
  |some (some (.dt p,.dict (_::kvs))),.tuple ks=>(ks.all lH=true/\kvs.length<16777216)/\Q ((o::E).set i (some (.dt p,.dict ((.none,.none)::putD kvs (.tuple ks) v))))
  |_,_=>False:=rfl
theorem rr189:Bt ms as (o::E) us k v Q=au (iY ms as us (o::E)) λE2=>au (oB ms as us E2 k v) λE3=>Q E3 k v:=rfl
theorem rr190:iY [] [] [] E=some E:=rfl
theorem rr191:iY (false::ms) (a::r) us E=iY ms r us E:=rfl
theorem rr192:iY (true::ms) (.pk i::r) (u::us) (o::E)=match(o::E)[i]? with
  |some (some (.ow p,.list _))=>cW (yD u) (iY ms r us ((o::E).set i (some (.ow p,u)))) none
  |_=>none:=rfl
theorem rr193:yD (.list l)=true:=rfl
theorem rr194:oB ms as us (o::E) k v=cW ((kept ms as).all (gQ (o::E))||(flat k v&&us.all (flat (.ow false)))) (some (o::E)) (gj (kept ms as) (o::E)):=rfl
theorem rr195:kept [] []=[]:=rfl
theorem rr196:kept (false::ms) (.pk i::r)=i::kept ms r:=rfl
theorem rr197:kept (false::ms) (.ev d::r)=kept ms r:=rfl
theorem rr198:kept (true::ms) (a::r)=kept ms r:=rfl
theorem rr199:qW ms as (o::E)=(shape ms as&&nY (lent ms as) (kept ms as) (o::E)):=rfl
theorem rr200:lent [] []=[]:=rfl
theorem rr201:lent (true::ms) (.pk i::r)=i::lent ms r:=rfl
theorem rr202:lent (false::ms) (a::r)=lent ms r:=rfl
theorem rr203:shape [] []=true:=rfl
theorem rr204:shape (true::ms) (.pk i::r)=shape ms r:=rfl
theorem rr205:shape (false::ms) (a::r)=shape ms r:=rfl
theorem rr206:∀{α:Type},([]:List α).length=0:=rfl
theorem rr207:∀{α:Type}{a:α}{l:List α},(a::l).length=l.length+1:=rfl
theorem rr208:sizeLine=16777216:=rfl
theorem rr209:∀{f:DE->Arg},List.map f []=[]:=rfl
theorem rr210:∀{f:DE->Arg}{a:DE}{l:List DE},List.map f (a::l)=f a::List.map f l:=rfl
theorem rr211:atK (x::l) 0=some x:=rfl
theorem rr212:atK (x::y::l) 1=some y:=rfl
theorem rr213:wI (n+1) 0=some 0:=rfl
theorem rr214:wI (n+2) 1=some 1:=rfl
theorem rr215:wI (n+1+1) 1=some 1:=rfl
def HD:(∀{x:PyData}{l:SA},cR (x::l) 0=some x)/\(∀{x y:PyData}{l:SA},cR (x::y::l) 1=some y)/\(∀{n:Nat},j8 (n+1) 0=some 0)/\(∀{n:Nat},j8 (n+2) 1=some 1)/\(∀{n:Nat},j8 (n+1+1) 1=some 1)/\(∀{P:Kd->PyData->Prop},eu false [.none,.none] P=P .sh (.bool true))/\(∀{P:Kd->PyData->Prop},eu true [.none,.none] P=P .sh (.bool false))/\(∀{i:Int}{P:Kd->PyData->Prop},eu false [.int i,.none] P=P .sh (.bool false))/\(∀{i:Int}{P:Kd->PyData->Prop},eu true [.int i,.none] P=P .sh (.bool true))/\(∀{i:SA}{P:Kd->PyData->Prop},eu false [.tuple i,.none] P=P .sh (.bool false))/\(∀{i:SA}{P:Kd->PyData->Prop},eu true [.tuple i,.none] P=P .sh (.bool true))/\(∀{d:PyData}{xs:SA}{P:Kd->PyData->Prop},dU false [d,.list xs] P=((xs.all (dl 8)=true/\dl 8 d=true)/\P .sh (.bool (decide (d∈xs)))))/\(∀{d:PyData}{xs:SA}{P:Kd->PyData->Prop},dU true [d,.list xs] P=((xs.all (dl 8)=true/\dl 8 d=true)/\P .sh (.bool !(decide (d∈xs)))))/\(∀{d:PyData}{xs:SA}{P:Kd->PyData->Prop},dU false [d,.tuple xs] P=((xs.all (dl 8)=true/\dl 8 d=true)/\P .sh (.bool (decide (d∈xs)))))/\(∀{d:PyData}{xs:SA}{P:Kd->PyData->Prop},dU true [d,.tuple xs] P=((xs.all (dl 8)=true/\dl 8 d=true)/\P .sh (.bool !(decide (d∈xs)))))/\(∀{i:Nat}{is:SN}{d:PyData}{ds:SA}{o:Option (Kd×PyData)}{E:En},bu (i::is) (d::ds) (o::E)=if bg (o::E) i then bu is ds ((o::E).set i (some (.sh,d)))else none)/\(∀{i:Nat}{r:SN}{o:Option (Kd×PyData)}{E:En},bE (i::r) (o::E)=if bg (o::E) i then bE r ((o::E).set i none)else none)/\(∀{i:Nat},List.contains [] i=false)/\(∀{i j:Nat}{l:SN},List.contains (j::l) i=(i==j||List.contains l i))/\(∀{α:Type},(([]:List α).Nodup)=True)/\(∀{i:Nat},([i]:SN).Nodup=True)/\type_of%@rG/\type_of%@uZ:=
 ⟨Nc,Nn,ND,Mj,Mj,(by simp[eu]),(by simp[eu]),(by simp[eu]),(by simp[eu]),(by simp[eu]),(by simp[eu]),(by intro d xs P;cases d<;>rfl),(by intro d xs P;cases d<;>rfl),(by intro d xs P;cases d<;>rfl),(by intro d xs P;cases d<;>rfl),rfl,rfl,(by intros;simp),(by intros;rw[List.contains_cons]),(by intros;simp),(by intros;simp),@rG,@uZ⟩
def dx:=aI @rr123<|aI @rr124<|aI @rr125<|aI @rr126<|aI @rr127<|aI @rr128<|aI @rr129<|aI @rr130<|aI @rr131<|aI @rr132<|aI @rr133<|aI @rr134<|aI @rr135<|aI @rr136<|aI @rr137<|aI @rr138<|aI @rr139<|aI @rr140<|aI @rr141<|aI @rr142<|aI @rr143<|aI @rr144<|aI @rr145<|aI @rr146<|aI @rr147<|aI @rr148<|aI @rr149<|aI @rr150<|aI @rr151<|aI @rr152<|aI @rr153<|aI @rr154<|aI @rr155<|aI @rr156<|aI @rr157<|aI @rr158<|aI @rr159<|aI @rr160<|aI @rr161<|aI @rr162<|aI @rr163<|aI @rr164<|aI @rr165<|aI @rr166<|aI @rr167<|aI @rr168<|aI @rr169<|aI @rr170<|aI @rr171<|aI @rr172<|aI @rr173<|aI @rr174<|aI @rr175<|aI @rr176<|aI @rr177<|aI @rr178<|aI @rr179<|aI @rr180<|aI @rr181<|aI @rr182<|aI @rr183<|aI @rr184<|aI @rr185<|aI @rr186<|aI @rr187<|aI @rr188<|aI @rr189<|aI @rr190<|aI @rr191<|aI @rr192<|aI @rr193<|aI @rr194<|aI @rr195<|aI @rr196<|aI @rr197<|aI @rr198<|aI @rr199<|aI @rr200<|aI @rr201<|aI @rr202<|aI @rr203<|aI @rr204<|aI @rr205<|aI @rr206<|aI @rr207<|aI @rr208<|aI @rr209<|aI @rr210<|aI @rr211<|aI @rr212<|aI @rr213<|aI @rr214<|aI @rr215<|@HD
end Dv
namespace L2
open PySem PySem.Spec PyProof.Rows
def Bh{K:Rx}{mb:Rr}{CX:kR}{k:Nat}{fa a:Addr}{sp:Sp}{s₁:Shared}{vs:SG}{ns:SO}(KX:K.In s₁.heap)(hns:s₁.heap.Ns mainGlobals mg)(hb:s₁.heap.Ns builtinsNs mb)(hbb:∀x:Str,x≠"__name__"->mb x=bootBuiltins x)(hlim:s₁.heap.NoLimit)(hg:s₁.gens=#[])(ha:s₁.heap.get? a=some { cls:=.type "list",data:=.seq vs.toArray })(hi:IntsAre vs ns)(hl:ns.length<=sizeLine)(hr:dD k callerA)(F:∀base:Heap,K.In base->base.Ns mainGlobals mg->fW P w K mg base CX k fa fd [x] sp)(hbind:∀(s:Shared)(u:Value),BindsTo s fd ⟨[u],[]⟩ [(x,u)])(hsp:∀H:Hp,D9 H->Dv.cu K H a (ns.map V.int)->sp [.ref a] H (λv _=>v=.bl true) λ_ _ _=>False)(hCX:∀H e s',CX [] H s₁ (λ_ _ _=>False) e s'->False) : codeAny (model P w) callerA (.call (.ref fa) ⟨[.ref a],[]⟩) (λr s'=>r=.ok (.ret (.bool true))/\OldK s₁.heap s'.heap/\s'.os=s₁.os/\AllBare s'.gens) s₁:=by
 have rv:=tO hi;have vJ:=hi.length
 -- from an abstract heap in which nothing but the script may be tracked
 have core:∀H:Hp,D9 H->Dv.cu K H a (ns.map V.int)->cX P w H s₁.heap->(∀b,H b≠none->b=a)->(H a≠none->K.lookup a=none)->
   codeAny (model P w) callerA (.call (.ref fa) ⟨[.ref a],[]⟩) (λr s'=>r=.ok (.ret (.bool true))/\OldK s₁.heap s'.heap/\s'.os=s₁.os/\AllBare s'.gens) s₁:=by
  intro H hO hS hok hA hK;have base_of:∀{b:Addr}{o:Obj},s₁.heap.get? b=some o->H b=none->(l8 s₁.heap H).get? b=some o:=λe n=>DA e n
  have noA:∀{b:Addr}{o:Obj}{es:Array DictEntry}{ep:Nat},s₁.heap.get? b=some o->o.data=.dict es ep->H b=none:=λ{b o es ep} e d=>by
   cases q:H b with
   |none=>rfl
   |some u=>
    have e':b=a:=hA b (by rw[q];simp)
    subst e';rw[ha]at e;cases e;have d':Data.seq vs.toArray _=Data.dict es ep:=d;cases d'
  have nsK:∀{b:Addr}{m:Rr},s₁.heap.Ns b m->(l8 s₁.heap H).Ns b m:=λ{b m} ⟨o,es,ep,e,d,r⟩=>⟨o,es,ep,base_of e (noA e d),d,r⟩
  have hKb:K.In (l8 s₁.heap H):=λb o e=>base_of (KX b o e) (by
   cases q:H b with
   |none=>rfl
   |some u=>
    have e':b=a:=hA b (by rw[q];simp)
    subst e';rw[hK (by rw[q];simp)]at e;cases e)
  have hM:Mod K mg (l8 s₁.heap H):=⟨hKb,nsK hns,⟨mb,nsK hb,hbb⟩,let⟨mc,h1,h2⟩:=hlim;⟨mc,nsK h1,h2⟩⟩
  have e0:zm P w K mg (l8 s₁.heap H) callerA [] s₁ H:=⟨rfl,hM,λb o e=>GZ e,QI (AE _ _),trivial,λb hb=>absurd (show b∈([]:SH)from hb) (by simp),hok,.of_eq hg⟩
  refine codeAny_mono ((F _ hKb (nsK hns)).run callerA [] s₁ H ⟨[.ref a],[]⟩ [.ref a] [.ref a] _ _ hr e0 (hbind s₁ (.ref a)) (.cons rfl .nil) (hsp H hO hS)) λr s' h=>?_
  cases r with
  |error e=>exact(hCX H e s' h).elim
  |ok fl=>
   cases fl with
   |next=>exact False.elim h
   |brk=>exact False.elim h
   |cont=>exact False.elim h
   |ret u=>
    obtain⟨v,H',os,bare,un,hok',r',q⟩:=h;have q':v=.bl true:=q;subst q';obtain rfl:u=Value.bool true:=r';refine⟨rfl,OldK.of_keep λb o e=>?_,os,bare⟩
    cases q:H b with
    |none=>exact un.keep b o e q (by intro z;exact absurd (show b∈([]:SH)from z) (by simp)) (by simp)
    |some u=>
     rcases hO b with z|⟨ob,xs,z⟩
     .rw[q]at z;cases z
     .have z2:=un.ki b ob _ z;obtain⟨e1,_⟩:=hok b _ z;obtain⟨e2,_⟩:=hok' b _ z2;rw[e]at e1;cases e1;exact e2
 cases hk:K.lookup a with
 |some o=>
  -- the script is one of the module's own objects
  have e:=KX a o hk;rw[ha]at e;cases e;refine core (λ_=>none) (λ_=>.inl rfl) (.inr ⟨vs,_,hk,by rw[vJ];exact hl,rv⟩) (λb u z=>by have z':(none:Option HO)=some u:=z;cases z') (λb z=>absurd rfl z) λz=>absurd rfl z
 |none=>
  refine core (λb=>if b=a then some (.dZ { cls:=.type "list",data:=.seq vs.toArray } (.lst (ns.map V.int)))else none) (λb=>?_) (.inl (.inr ⟨{ cls:=.type "list",data:=.seq vs.toArray },if_pos rfl⟩)) (λb u z=>?_) (λb z=>?_) λ_=>hk
  .by_cases hb:b=a
   .exact .inr ⟨_,_,if_pos hb⟩
   .exact .inl (if_neg hb)
  .by_cases hb:b=a
   .have z':=(if_pos hb).symm.trans z;cases z';subst hb;exact⟨ha,by rw[NS];exact hl,vs,_,rv,ha⟩
   .have z':=(if_neg hb).symm.trans z;cases z'
  .by_cases hb:b=a
   .exact hb
   .exact absurd (if_neg hb) z
def JO{l:PySem.W.OpenLaw}{n k:Nat}{YP:World->Heap->Prop}{d:DefRec}{K:Params->Rx}{CX:World->kR}{sp:World->Sp}(hn:l.most=some n)(hn2:n<=sizeLine)(hdf:d.params.defaults=[])(hr:dD k callerA)(hY:∀(w:World)(h:Heap),YP w h->(K w.params).In h)(F:∀(w:World)(mg:Rr)(fa:Addr)(h:Heap),(K w.params).In h->h.Ns mainGlobals mg->mg d.name=some (.ref fa)-> ∃fd:FuncData,(∀(s:Shared)(u:Value),BindsTo s fd ⟨[u],[]⟩ [(x,u)]) /\ ∀base:Heap,(K w.params).In base->base.Ns mainGlobals mg->fW l.prog w (K w.params) mg base (CX w) k fa fd [x] (sp w))(hsp:∀(w:World)(H:Hp)(a:Addr)(ns:SO),ns.length<=n->D9 H->Dv.cu (K w.params) H a (ns.map V.int)->sp w [.ref a] H (λv _=>v=.bl true) λ_ _ _=>False)(hCX:∀(w:World)(H:Hp)(s:Shared)(e:Value)(s':Shared),CX w [] H s (λ_ _ _=>False) e s'->False) : PySem.W.WalkO q loose XP YP l.row.toRowW d [] (λf vs=>PySem.call f vs):=by refine LW.xq hn hdf λw s₀ s₁ mg mb fa o pm cd doc a vs ns G SV ho hd hcd hmg hobj hints hlen hg=>?_;have KX:=hY w _ SV;obtain⟨fd,hb,hF⟩:=F w mg fa _ KX G.T.g hmg;exact Bh KX G.T.g G.T.b G.T.builtins G.T.nolimit hg hobj hints (NZ hlen hn2) hr hF hb (λH hO hS=>hsp w H a ns hlen hO hS) λH e s'=>hCX w H s₁ e s'
end L2
namespace Dv
open PySem L2 PySem.W
inductive xE(K:Frag)(vs:List V)(H:Hp)(Q:VK):Prop
 |mk:∀(a:Addr)(ns:SO),(vs=[.ref a])->(cu K H a (ns.map V.int))->(ns.length<=63)->(∀H',Q (.bl true) H')->xE K vs H Q
noncomputable def Cb (K:Frag):Sp:=λvs H Q _E3=>xE K vs H Q
noncomputable def sJ:bM:=λds Q x=>∃ns:SO,ds=[.list (ns.map .int)]/\ns.length<=63/\Q [] .sh (.bool true)
def FY(h:Cb K vs H Q E):b9 mg K [false] sJ vs H Q E:=by
 obtain⟨a,ns,rfl,r,hl,q⟩:=h;refine⟨[.list (ns.map .int)],[],H,λ_ _ r=>r=.bool true,xF,ah.refl _,.sh (.lst r (pR ns)) .nil,⟨ns,rfl,hl,rfl⟩,λus k r u H' Hm' fp e _ _ _ _ _ o _=>?_,λ_ _ _ _ _ _ z=>z.elim⟩;cases e;cases o with
 |sh h=>cases h;exact q H'
def AG{l:OpenLaw}{YP:World->Heap->Prop}{d:DefRec}{K:Params->Frag}{k:Nat}(hn:l.most=some 63)(hdf:d.params.defaults=[])(hr:dD k callerA)(hY:∀(w:World)(h:Heap),YP w h->(K w.params).In h)(F:∀(w:World)(mg:Rr)(fa:Addr)(h:Heap),(K w.params).In h->h.Ns mainGlobals mg->mg d.name=some (.ref fa)-> ∃fd:FuncData,(∀(s:Shared)(u:Value),BindsTo s fd ⟨[u],[]⟩ [(pn,u)])/\∀base:Heap,(K w.params).In base->base.Ns mainGlobals mg->fW l.prog w (K w.params) mg base (eN l.prog w) k fa fd [pn] (b9 mg (K w.params) [false] sJ)) : WalkO q loose XP YP l.row.toRowW d [] (λf vs=>PySem.call f vs):=
 L2.JO (n:=63) (k:=k) (x:=pn) (CX:=λw=>eN l.prog w) (sp:=λw=>Cb (K w.params)) hn (by decide) hdf hr hY (λw mg fa h h1 h2 h3=>by
  obtain⟨fd,hb,hF⟩:=F w mg fa h h1 h2 h3;exact⟨fd,hb,λbase g1 g2=>(hF base g1 g2).imp λvs H Q E z=>FY z⟩) (λ_ _ a ns hl _ hS=>⟨a,ns,rfl,hS,hl,λ_=>rfl⟩) λw H s e s' z=>by
  obtain⟨_,_,_,_,_,_,_,_,_,_,_,_,_,_,_,z⟩:=z;exact z.elim
noncomputable def qR:DR:=λds P=>∃ps:Rw,ds=[.list (ps.map pD)]/\ps.length<=1000/\∀qs:Rw,qs.Perm ps->P (.ow false) (.list (qs.map pD))
def Ds:∀{zs ys:List V},zs.Perm ys->∀{ps:Rw},av K H ys (ps.map pD)->∃qs:Rw,qs.Perm ps/\av K H zs (qs.map pD):=by
 intro zs ys h;induction h with
 |nil=>intro ps r;exact⟨ps,.refl _,r⟩
 |cons x _ ih=>
  intro ps r;cases ps with
  |nil=>cases r
  |cons p ps=>
   cases r with
   |cons h t=>obtain⟨qs,pq,r'⟩:=ih t;exact⟨p::qs,pq.cons _,.cons h r'⟩
 |swap x y l=>
  intro ps r
  match ps,r with
  |p::p2::ps,.cons h (.cons h2 t)=>exact⟨p2::p::ps,List.Perm.swap _ _ _,.cons h2 (.cons h t)⟩
 |trans _ _ ih1 ih2=>intro ps r;obtain⟨q1,p1,r1⟩:=ih2 r;obtain⟨q2,p2,r2⟩:=ih1 r1;exact⟨q2,p2.trans p1,r2⟩
def CT:cF K qR (BY K):=by
 rintro H Hm vs ds P Q s r⟨ps,rfl,hn,h⟩q;obtain⟨x,rfl,h1⟩:=dG r;obtain⟨a,xs,rfl,ha,r1⟩:=iK h1;have l1:xs.length=ps.length:=by rw[r1.len,NS]
 refine⟨a,xs,rfl,(cu.mono s ha).sq,λy hy=>?_,by rw[l1];exact hn,λzs p pm hp=>?_⟩
 .obtain⟨i,hi⟩:=Py hy;obtain⟨d,e,r'⟩:=r1.Mz hi;rw[O4]at e;obtain⟨p,_,rfl⟩:=Px.mp e;cases r' with
  |tup b r2=>obtain⟨x,y,rfl,h2,h3⟩:=eV r2;cases h2;cases h3;exact⟨_,_,_,rfl,aU.of (s _ _ b)⟩
 obtain⟨qs,pq,r'⟩:=Ds pm r1;exact bN.nl q s (h qs pq) hp r'
section
variable{X:Cx}{Ex:XK}{Y:SN}{a:Expr}{p pos:Pos}{as:List Arg}
def JI(hm:X.mg "sorted"=none)(S:aM X Ex Y [a] as)(hg:Gl X "sorted":=by rfl)(ns:noStar a=true:=by rfl):SE X Ex Y (.Call (.Name "sorted" p) [a] [] pos) (aa qR as):=gm wg CT hg hm PyProof.Rows.boot_sorted (by decide) (by decide) (by rw[NW,ns];rfl) S
end
noncomputable def Rec (K:Frag) (x:Str)(st:Stmt):Prop:=∃(f:Addr)(fd:FuncData),nsIn K mainGlobals x=some (some (.ref f))/\qv K x x st f fd
def Jg{K:Frag}{x:Str}{st:Stmt}{f:Addr}{oc:Value}{od an:SD}{osl:Rn}{kV doc pm cdv ct:Value}(n:nsIn K mainGlobals x=some (some (.ref f)))(l:K.lookup f=some ⟨oc,od,.func (fnOf x x (iN st) (fK st) (aq st) .none kV doc pm an cdv ct),osl⟩)(c:codeIn K cdv x=true)(k:keepIn K (.ref f)=true):Rec K x st:=⟨f,_,n,JL l c k⟩
noncomputable def Jf (K:Frag) (x:Str):Prop:=∃C,nsIn K mainGlobals x=some (some (.ref C))/\jN K C AA "ValueError.__new__" none=true
def FQ{K:Frag}{x:Str}{C:Addr}(h1:nsIn K mainGlobals x=some (some (.ref C)))(h2:jN K C AA "ValueError.__new__" none=true):Jf K x:=⟨C,h1,h2⟩
def bL{P:Program}{w:World}{K:Frag}{base:Heap}{mg:Rr}{k:Nat}{x:Str}{ps:SQ}{sp:Sp}{st:Stmt}(N:∃h:Heap,K.In h/\h.Ns mainGlobals mg)(r:Rec K x st)(b:∀(kV doc pm:Value)(an:SD)(cdv ct:Value)(us:SG),us.length=ps.length->bindArgs (fnOf x x (iN st) (fK st) (aq st) .none kV doc pm an cdv ct) ⟨us,[]⟩=pure (ps.zip us))(ok:∀{f:Addr}{fd:FuncData},qv K x x st f fd->fW P w K mg base (eN P w) k f fd ps sp):bU P w K mg base k x ps sp:=by obtain⟨f,fd,n,F⟩:=r;obtain⟨h,X,G⟩:=N;exact⟨f,fd,mg_of X G n,F.kp,F.binds b,ok F⟩
end Dv
namespace L2
open PySem PySem.Spec PyProof.Rows PySem.W
section
variable{X:Cx}
theorem vh:∀{vs:SG}{ds:SA}{as:SH},ReadsAll h vs ds as->∀{i:Nat}{v:Value},vs[i]?=some v->∃d bs,ds[i]?=some d/\Reads h v d bs
 |_,_,_,.nil,_,_,e=>nomatch e
 |_,_,_,.cons r _,0,_,e=>by cases e;exact⟨_,_,rfl,r⟩
 |_,_,_,.cons _ t,i+1,_,e=>vh t (i:=i) e
end
end L2
namespace Dv
open PySem L2 PySem.Spec PyProof.Rows PySem.W
inductive uS(K:Frag) (x:V)(vs:List V)(H:Hp)(Q:VK):Prop
 |mk:∀(p:Addr) (y:V)(xs:List V)(ds:SA)(d:PyData) (j:Nat),(x=.ref p)->(vs=[y])->(cu K H p xs)->(jC K H y d)->(lB K H xs ds)->(ds.all (dl 8)=true)->(dl 8 d=true)->(ds[j]?=some d)->((∀(m:Nat) e,m<j->ds[m]?=some e->e≠d))->(Q (.int j) H)->uS K x vs H Q
noncomputable def FO (K:Frag):V->List V->Hp->VK->Prop:=λx vs H Q=>uS K x vs H Q
section
variable{X:Cx}{Ex:XK}{Y:SN}
theorem wm{K:Frag}{H:Hp}:∀{xs:List V}{ds:SA},lB K H xs ds->xs.length=ds.length
 |_,_,.nil=>rfl
 |_,_,.cons _ r=>congrArg (·+1) (wm r)
def B0(hu:X.A.units+64<cLine):qu X "list.index" (FO X.K):=by
 intro pins s U H x vs v us Q I rx rv h;obtain⟨p,y,xs,ds,d,j,rfl,rfl,hH,hy,hx,la,ld,hj,hno,q⟩:=h;cases rx;obtain⟨u,rfl,ru⟩:=rv.one;obtain⟨hz,its,n,r,e⟩:=hH.get I;obtain⟨as,ra⟩:=I.readsAll hx r;obtain⟨bs,rb⟩:=I.reads hy ru;have l1:=wm hx;have l2:=r.length;have hlt:j<its.length:=by have:=(Ox.mp hj).1;lia
 have line:sizeLine<2^62:=by decide
 have val:∀(m:Nat)(w:Value) e,its[m]?=some w->ds[m]?=some e->PyData.eqv (SeqAt.readOf s.heap w) d=decide (e=d):=λm w e' h1 h2=>by obtain⟨d',cs,h3,h4⟩:=vh ra h1;rw[h2]at h3;cases h3;have l3:=N7.mp la e' (OD h2);rw[SeqAt.readOf_eq (eU l3).1 h4,vH l3 ld]
 refine Pd F.slot_list_index ⟨_,e,rfl⟩ F.entry_list_index (F.args_list_index_2 _ _) (SeqAt.list_indexAt p its.toArray n none #[] u (λy=>PyData.eqv (SeqAt.readOf s.heap y) d) j (by simpa using hlt) (by lia) ?_ ?_) ⟨e,?_,⟨.int j,H,I.tok _,⟨_,rfl⟩,q⟩⟩;{show PyData.eqv (SeqAt.readOf s.heap its.toArray[j]) d=true;rw[val j _ d (by simp[hlt]) hj];exact Pw rfl}
 .intro m hm hmj;have hm':m<its.length:=by simpa using hm
  have hn:m<ds.length:=by lia
  show PyData.eqv (SeqAt.readOf s.heap its.toArray[m]) d=false;rw[val m _ ds[m] (by simp[hm']) (O5 hn)];exact Ol (hno m _ hmj (O5 hn))
 refine SeqAt.items_eqAt (xs:=ds) (by simpa using ra) rb (jM λe he=>(eU (N7.mp la e he)).1) (eU ld).1 ?_;have:=(eU ld).2;lia
end
end Dv
namespace L2
open PySem PySem.Spec PyProof.Rows
section
variable{prog:Program}{w:World}{A:Around}{E:Ro}{s:Shared}
def tuple_addW0(l b:Addr)(items items2:Rz) (n n2:Nat)(dd dd2:SD)(sl sl2:Rn)(hc0:items.isEmpty=true) : Meets (Builtin.«tuple.__add__» ⟨[.ref l,.ref b],[]⟩) (λ_ R s=>s.heap.get? l=some { cls:=.type "tuple",dict:=dd,data:=.seq items n,slots:=sl }/\s.heap.get? b=some { cls:=.type "tuple",dict:=dd2,data:=.seq items2 n2,slots:=sl2 }/\R (.ok (.ret (Value.ref b))) s):=
 .of_wp λprog w A R s h=>by obtain⟨hp,g,d,tk,os⟩:=s;obtain⟨hl,hb,h⟩:=h;have f1:=AutoSeq1.idx_int;have f2:=AutoSeq1.sub_tuple_tuple;have f3:=AutoSeq1.sub_list_list;have f4:=AutoSeq1.sub_tuple_list;have f5:=AutoSeq1.sub_list_tuple;wp_walk using Qu hl,Qu hb;exact⟨_,rfl,h⟩
def Dt{t b:Addr}{ws:SG}{Q:Ro}(ht:IsTup s.heap t ([]:SG).toArray)(hb:IsTup s.heap b ws.toArray)(h1:Q (.ref b) s):wpAny (model prog w) A (binaryOp .Add (.ref t) (.ref b)) Q E s:=by
 obtain⟨⟨cls,dd,data,sl⟩,ho,hc,n,hd⟩:=id ht;obtain⟨⟨cls2,dd2,data2,sl2⟩,ho2,hc2,n2,hd2⟩:=id hb;simp only at hc hd hc2 hd2;subst hc hd hc2 hd2;exact concat_meets ⟨_,ho,rfl⟩ ⟨_,ho2,rfl⟩ RG seq_tuple_add RH RI (RJ _ _)
   (tuple_addW0 t b _ ws.toArray n n2 dd dd2 sl sl2 rfl) ⟨ho,ho2,h1⟩
end
section
variable{X:Cx}
inductive CB(K:Rx) (x:V) (y:V)(H:Hp)(Q:VK):Prop
 |mk:∀a b ys,(x=.ref a)->(y=.ref b)->(aU K H a [])->(aU K H b ys)->(Q (.ref b) H)->CB K x y H Q
noncomputable def Ef (K:Rx):R2:=λx y H Q=>CB K x y H Q
def F9:bA X (binaryOp .Add) (Ef X.K):=by intro pins s U H x y v u Q I rx ry h;obtain⟨a,b,ys,rfl,rfl,ha,hb,q⟩:=h;cases rx;cases ry;obtain⟨its,r1,p1,_⟩:=I.tuple ha;obtain⟨its2,r2,p2,_⟩:=I.tuple hb;cases r1;exact Dt p1 p2 ⟨.ref b,H,I,rfl,q⟩
end
end L2
namespace Dv
open PySem L2 PySem.W
noncomputable def kI:DR:=λds P=>uX (λx y=>match x,y with
 |.tuple a,.tuple b=>a.length+b.length<=sizeLine/\P .sh (.tuple (a++b))
 |_,_=>False) ds
def sI:kI [.tuple a,.tuple b] P=(a.length+b.length<=sizeLine/\P .sh (.tuple (a++b))):=rfl
def Ea:cF K kI (r2 λx y H Q=>zx K x y H Q\/Ef K x y H Q):=by
 intro H Hm vs ds P Q s r h q;obtain⟨x,y,d,e,rfl,rfl,h1,h2,h⟩:=l5 r h;cases h1 with
 |@tup a xs ds1 a1 r1=>
  cases h2 with
  |@tup b ys ds2 a2 r2=>
   cases ds1 with
   |nil=>cases r1;exact .inr ⟨_,_,_,rfl,rfl,aU.of (s _ _ a1),aU.of (s _ _ a2),bN.sc q s h.2 (.tup a2 r2)⟩
   |cons d0 ds1=>exact .inl (yu H Hm _ _ P Q s (.cons (.tup a1 r1) (.cons (.tup a2 r2) .nil)) (show bS [.tuple (d0::ds1),.tuple ds2] P from⟨⟨Q3 _ _,h.1⟩,h.2⟩) q)
  |_=>exact h.elim
 |_=>exact h.elim
section
variable{X:Cx}{Ex:XK}{Y:SN}{a b:Expr}{as:List Arg}{pos:Pos}
def qY(S:aM X Ex Y [a,b] as):SE X Ex Y (.BinOp a .Add b pos) (aa kI as):=g9 (xH.or F9) Ea S
end
end Dv
namespace L2
open PySem PySem.Spec PyProof.Rows
section
variable{prog:Program}{w:World}{A:Around}{E:Ro}{s:Shared}{l:Addr}{xs:Array (Int×Tok)}
def pH(hl:s.heap.IsTuple l (intItems xs))(h:∀s₂:Shared,s₂={ s with heap:=s.heap.push { cls:=.type "tuple_iterator",data:=.fields #[.ref l,.int 0 0] } }-> (s₂.heap.IsTupleIter s.heap.objs.size l 0/\s₂.heap.IsTuple l (intItems xs))->(∀b∈[s.heap.objs.size,l],b<s₂.heap.objs.size)->l≠s.heap.objs.size->Q (.ref s.heap.objs.size) s₂) : wpAny (model prog w) A (pyIter (.ref l)) Q E s:=by
 have hlt:l<s.heap.objs.size:=by obtain⟨_,e,_⟩:=hl;exact N8 e
 refine RY hl (h _ rfl ⟨⟨_,OC _ rfl,rfl,rfl⟩,hl.push _⟩ (λb hb=>?_) (O6 hlt));show b<(s.heap.push _).objs.size;rw[Ot];rcases NY.mp hb with rfl|hb;{exact Nat.lt_succ_self _};rcases NY.mp hb with rfl|hb;{exact Q0 hlt};cases hb
def sO{h':Heap}(hk:∀b o,b∉[s.heap.objs.size]->(s.heap.push o1).get? b=some o->h'.get? b=some o) : ∀b o,s.heap.get? b=some o->h'.get? b=some o:=λb o e=>by refine hk b o (λhm=>?_) (O1 _ e);rcases NY.mp hm with e1|hm;{exact absurd (e1▸N8 e) (Ow _)};cases hm
def Aq(hh:A.handled=none)(hl:s.heap.IsTuple l (intItems xs))(hne:0<xs.size)(h:∀v h' tk,(intItems xs)[argBest (λi j=>decide (numAt xs i>numAt xs j)) (xs.size-1)]?=some v->(∀b o,s.heap.get? b=some o->h'.get? b=some o)->Q v { s with heap:=h',toks:=tk }) : wpAny (model prog w) A (call (.builtin "max") [.ref l]) Q E s:=by refine call_max_walk (pH hl λs₂ e st hfp hlI=>?_);subst e;refine⟨_,_,_,_,_,_,_,rfl,Walks.tuple (A:=A.in1) hh _ l hlI (intItems xs),st,hfp,by simpa[intItems]using hne,CmpOf.ints_gt (numAt xs) (λ_ _=>QL),λv h' tk hP hk=>?_⟩;exact h v h' tk (by simpa[intItems]using hP) (sO hk)
def Ao(hh:A.handled=none)(hl:s.heap.IsTuple l (intItems xs))(hne:0<xs.size)(h:∀v h' tk,(intItems xs)[argBest (λi j=>decide (numAt xs i<numAt xs j)) (xs.size-1)]?=some v->(∀b o,s.heap.get? b=some o->h'.get? b=some o)->Q v { s with heap:=h',toks:=tk }) : wpAny (model prog w) A (call (.builtin "min") [.ref l]) Q E s:=by refine call_min_walk (pH hl λs₂ e st hfp hlI=>?_);subst e;refine⟨_,_,_,_,_,_,_,rfl,Walks.tuple (A:=A.in1) hh _ l hlI (intItems xs),st,hfp,by simpa[intItems]using hne,CmpOf.ints_lt (numAt xs) (λ_ _=>QL),λv h' tk hP hk=>?_⟩;exact h v h' tk (by simpa[intItems]using hP) (sO hk)
end
section
variable{X:Cx}
inductive AF(K:Rx)(xs:List V)(H:Hp)(Q:VK):Prop
 |mk:∀(a:Addr)(ns:SO),(xs=[.ref a])->(aU K H a (ns.map V.int))->(ns≠[])->(∀M,M∈ns->(∀n∈ns,M<=n)->Q (.int M) H)->AF K xs H Q
noncomputable def Fx (K:Rx):List V->Hp->VK->Prop:=λxs H Q=>AF K xs H Q
inductive Bb(K:Rx)(xs:List V)(H:Hp)(Q:VK):Prop
 |mk:∀(a:Addr)(ns:SO),(xs=[.ref a])->(aU K H a (ns.map V.int))->(ns≠[])->(∀M,M∈ns->(∀n∈ns,n<=M)->Q (.int M) H)->Bb K xs H Q
noncomputable def Fc (K:Rx):List V->Hp->VK->Prop:=λxs H Q=>Bb K xs H Q
def AS(hc:X.calm=true):cJ X (.builtin "min") (Fx X.K):=by
 intro pins s U H xs us Q I r h;obtain⟨a,ns,rfl,hq,ne,q⟩:=h;obtain⟨u,rfl,ru⟩:=vals1 r;cases ru;obtain⟨its,rv,p,_⟩:=I.tuple hq;obtain⟨ps,rfl,rfl⟩:=oH rv;have hl:s.heap.IsTuple a (intItems ps.toArray):=by have:s.heap.IsTuple a (ps.map (λp=>Value.int p.1 p.2)).toArray:=p;simpa[intItems]using this
 refine Ao (I.ok.hd hc) hl (by simpa using PM.mpr (λe=>ne (by rw[e];rfl))) λv h' tk hv hk=>?_;obtain⟨t,rfl⟩:=QL hv;obtain⟨g1,g2⟩:=argBest_lt (numAt ps.toArray) (ps.toArray.size-1);have pos:0<ps.length:=PM.mpr λe=>ne (by rw[e];rfl);refine⟨.int _,H,I.kept (t':=tk) hk,⟨_,rfl⟩,q _ ?_ λn hn=>?_⟩;{rw[numAt_eq];exact getD_mem (by simp at g1⊢;lia)};obtain⟨j,hj,rfl⟩:=mem_getD hn;rw[NS]at hj;have e:(ps.map (·.1)).getD j 0=numAt ps.toArray j:=by rw[numAt_eq]
 rw[e];exact g2 j (by simp;lia)
def Cp(hc:X.calm=true):cJ X (.builtin "max") (Fc X.K):=by
 intro pins s U H xs us Q I r h;obtain⟨a,ns,rfl,hq,ne,q⟩:=h;obtain⟨u,rfl,ru⟩:=vals1 r;cases ru;obtain⟨its,rv,p,_⟩:=I.tuple hq;obtain⟨ps,rfl,rfl⟩:=oH rv;have hl:s.heap.IsTuple a (intItems ps.toArray):=by have:s.heap.IsTuple a (ps.map (λp=>Value.int p.1 p.2)).toArray:=p;simpa[intItems]using this
 refine Aq (I.ok.hd hc) hl (by simpa using PM.mpr (λe=>ne (by rw[e];rfl))) λv h' tk hv hk=>?_;obtain⟨t,rfl⟩:=QL hv;obtain⟨g1,g2⟩:=argBest_gt (numAt ps.toArray) (ps.toArray.size-1);have pos:0<ps.length:=PM.mpr λe=>ne (by rw[e];rfl);refine⟨.int _,H,I.kept (t':=tk) hk,⟨_,rfl⟩,q _ ?_ λn hn=>?_⟩;{rw[numAt_eq];exact getD_mem (by simp at g1⊢;lia)};obtain⟨j,hj,rfl⟩:=mem_getD hn;rw[NS]at hj;have e:(ps.map (·.1)).getD j 0=numAt ps.toArray j:=by rw[numAt_eq]
 rw[e];exact g2 j (by simp;lia)
end
section
variable{X:Cx}
noncomputable def qz (i j:Int):Prop:=i.natAbs<2^128/\j.natAbs<2^128
noncomputable def Am (i j:Int):Prop:=0<=j/\j<=1000/\i.natAbs<2^128
def qz.ok{i j:Int}(h:qz i j):IntMulOk i j:=
 .of_bits (NZ (intBits_le h.1) (by decide)) (NZ (intBits_le h.2) (by decide))
def G5:bA X (binaryOp .Mult) (rI qz λi j=>.int (i*j)):=x6 λ_ _ _ _ _ _ _ hc q=>mul_int q hc.ok
def GA:bA X (binaryOp .Pow) (rI Am λi j=>.int (i^j.toNat)):=x6 λi j _ _ _ _ _ hc q=>by have h1:=hc.1;have h2:=hc.2.1;have h3:=intBits_le hc.2.2;refine pow_int h1 ?_ q;have:(Builtin.Int.intBits i:Int)*j<=128*1000:=Int.mul_le_mul (by lia) h2 h1 (by lia);exact Int.le_trans this (by decide)
end
end L2
namespace Dv
open PySem L2 PySem.W
noncomputable def zO:DR:=oq qz λi j=>.int (i*j)
noncomputable def Aa:DR:=oq Am λi j=>.int (i^j.toNat)
def gM{a b:Int}:zO [.int a,.int b] P=(qz a b/\P .sh (.int (a*b))):=rfl
def gG{a b:Int}:Aa [.int a,.int b] P=(Am a b/\P .sh (.int (a^b.toNat))):=rfl
section
variable{X:Cx}{Ex:XK}{Y:SN}{a b:Expr}{as:List Arg}{pos:Pos}
def Lq(S:aM X Ex Y [a,b] as):SE X Ex Y (.BinOp a .Mult b pos) (aa zO as):=g9 G5 (l6 λ_ _ _=>.int _) S
def LI(S:aM X Ex Y [a,b] as):SE X Ex Y (.BinOp a .Pow b pos) (aa Aa as):=g9 GA (l6 λ_ _ _=>.int _) S
end
noncomputable def oA:DR:=λds P=>match ds with
 |[.tuple [.int a,.int b]]=>P .sh (.int (if b<a then b else a))
 |_=>False
noncomputable def ou:DR:=λds P=>match ds with
 |[.tuple [.int a,.int b]]=>P .sh (.int (if b>a then b else a))
 |_=>False
def iQ{a b:Int}:oA [.tuple [.int a,.int b]] P=P .sh (.int (if b<a then b else a)):=rfl
def i6{a b:Int}:ou [.tuple [.int a,.int b]] P=P .sh (.int (if b>a then b else a)):=rfl
def DN:cF K oA (Fx K):=by
 intro H Hm vs ds P Q s r h q;unfold oA at h;split at h
 .obtain⟨x,rfl,h1⟩:=dG r;cases h1 with
  |@tup a xs _ a1 r1=>
   obtain⟨y,z,rfl,h2,h3⟩:=eV r1;cases h2;cases h3;rename_i i j;refine⟨a,[i,j],rfl,aU.of (s _ _ a1),Q3 _ _,λM m1 m2=>?_⟩;have e:M=if j<i then j else i:=by have e1:=m2 i (by simp);have e2:=m2 j (by simp);simp only[NY,Oa,PR]at m1;split<;>lia
   rw[e];exact bN.sc q s h (.int _)
 exact h.elim
def DY:cF K ou (Fc K):=by
 intro H Hm vs ds P Q s r h q;unfold ou at h;split at h
 .obtain⟨x,rfl,h1⟩:=dG r;cases h1 with
  |@tup a xs _ a1 r1=>
   obtain⟨y,z,rfl,h2,h3⟩:=eV r1;cases h2;cases h3;rename_i i j;refine⟨a,[i,j],rfl,aU.of (s _ _ a1),Q3 _ _,λM m1 m2=>?_⟩;have e:M=if j>i then j else i:=by have e1:=m2 i (by simp);have e2:=m2 j (by simp);simp only[NY,Oa,PR]at m1;split<;>lia
   rw[e];exact bN.sc q s h (.int _)
 exact h.elim
section
variable{X:Cx}{Ex:XK}{Y:SN}{a b:Expr}{as:List Arg}{pos p:Pos}
def Ll(hm:X.mg "min"=none)(S:aM X Ex Y [a] as)(hc:X.calm=true:=by rfl)(hg:Gl X "min":=by rfl)(ns:noStar a=true:=by rfl):SE X Ex Y (.Call (.Name "min" p) [a] [] pos) (aa oA as):=gm (AS hc) DN hg hm Ra (by decide) (by decide) (by rw[NW,ns];rfl) S
def Lj(hm:X.mg "max"=none)(S:aM X Ex Y [a] as)(hc:X.calm=true:=by rfl)(hg:Gl X "max":=by rfl)(ns:noStar a=true:=by rfl):SE X Ex Y (.Call (.Name "max" p) [a] [] pos) (aa ou as):=gm (Cp hc) DY hg hm PyProof.Rows.boot_max (by decide) (by decide) (by rw[NW,ns];rfl) S
end
end Dv
namespace L2
open PySem PySem.Spec PyProof.Rows
def wz(l:Addr)(items:Rz) (n:Nat)(b:Addr)(items2:Rz) (n2:Nat)(dd2:SD)(sl2:Rn)(hs0:¬(!items.isEmpty&&Builtin.List.listTooLong (items.size+items2.size))=true)(hs1:items.size<=sizeLine)(hs2:items.size+items2.size<=sizeLine+1) : Meets (Builtin.«list.extend» ⟨[.ref l,.ref b],[]⟩) (λ_ R s=>s.heap.get? l=some { cls:=.type "list",dict:=none,data:=.seq items n,slots:=#[] }/\s.heap.get? b=some { cls:=.type "tuple",dict:=dd2,data:=.seq items2 n2,slots:=sl2 }/\R (.ok (.ret Value.none)) { s with heap:=s.heap.update l (Obj.mapSeq λx=>x++items2),toks:=s.toks }):=
 .of_wp λprog w A R s h=>by
  obtain⟨hp,g,d,tk,os⟩:=s;obtain⟨hl,hb,h⟩:=h;have f1:=AutoSeq1.idx_int;have f2:=AutoSeq1.sub_tuple_tuple;have f3:=AutoSeq1.sub_list_list;have f4:=AutoSeq1.sub_tuple_list;have f5:=AutoSeq1.sub_list_tuple;have hz':(items++items2).size<=sizeLine+1:=by rw[Array.size_append];exact hs2
  wp_walk using(wpAny_updateSeq hl rfl (hz:=hs1) (_hz':=hz')),Qu hl,Qu hb;exact⟨_,rfl,h⟩
section
variable{X:Cx}
inductive sN(K:Rx) (x:V)(vs:List V)(H:Hp)(Q:VK):Prop
 |mk:∀l b xs zs,(x=.ref l)->(vs=[.ref b])->(H l=some (.lst xs))->(aU K H b zs)->(xs.length+zs.length<=sizeLine)->(Q .bq (upd H l (.lst (xs++zs))))->sN K x vs H Q
noncomputable def uG (K:Rx):V->List V->Hp->VK->Prop:=λx vs H Q=>sN K x vs H Q
def zZ:qu X "list.extend" (uG X.K):=by
 intro pins s U H x vs v us Q I rx rv h;obtain⟨l,b,xs,zs,rfl,rfl,hH,hB,hz,q⟩:=h;cases rx;obtain⟨u,rfl,ru⟩:=rv.one;cases ru;obtain⟨z,its,n,r,hl,e⟩:=I.zz hH;obtain⟨its2,r2,p2,_⟩:=I.tuple hB;obtain⟨⟨cls2,dd2,data2,sl2⟩,e2,hc2,n2,hd2⟩:=id p2;simp only at hc2 hd2;subst hc2 hd2;have hl2:=r2.length;have hsz:its.toArray.size+its2.toArray.size<=sizeLine:=by rw[O0,O0];lia
 have hlong:¬(!its.toArray.isEmpty&&Builtin.List.listTooLong (its.toArray.size+its2.toArray.size))=true:=by rw[qt hsz,Bool.and_false];exact O9
 refine Pd F.slot_list_extend ⟨_,e,rfl⟩ F.entry_list_extend (F.args_list_extend_2 _ _)
  (wz l its.toArray n b its2.toArray n2 dd2 sl2 hlong (by rw[O0];lia) (by lia)) ⟨e,e2,?_⟩
 refine⟨.bq,_,I.yV (its':=its++its2) hH e (by simp) (r.append r2) ?_,rfl,q⟩;rw[NU];lia
end
end L2
namespace Dv
open PySem L2 PySem.W
noncomputable def uz:DM:=λds args P=>match args with
 |[.tuple es]=>ds.length+es.length<=sizeLine/\P (ds++es) .none
 |_=>False
def lW:uz ds [.tuple es] P=(ds.length+es.length<=sizeLine/\P (ds++es) .none):=rfl
def C7:tZ K uz (uG K):=by
 intro H Hm a xs ds vs args P Q ha _ s r ra h q;unfold uz at h;split at h
 .obtain⟨x,rfl,h1⟩:=dG ra;cases h1 with
  |@tup b zs _ b1 r2=>exact⟨a,b,xs,zs,rfl,rfl,ha,aU.of (s _ _ b1),by rw[r.len,r2.len];exact h.1,q _ _ _ _ h.2 (r.app r2) .bq⟩
 exact h.elim
end Dv
namespace L2
open PySem PySem.Spec PyProof.Rows
section
variable{X:Cx}
inductive Fq(K:Rx) (x:V) (y:V)(H:Hp)(Q:VK):Prop
 |mk:∀a b xs,(x=.ref a)->(y=.ref b)->(aU K H a xs)->(aU K H b [])->(Q (.bl xs.isEmpty) H)->Fq K x y H Q
noncomputable def JB (K:Rx):R2:=λx y H Q=>Fq K x y H Q
def BH(hu:X.A.units+64<cLine):bA X (compareOp .Eq) (JB X.K):=by
 intro pins s U H x y v u Q I rx ry h;obtain⟨a,b,xs,rfl,rfl,ha,hb,q⟩:=h;cases rx;cases ry;obtain⟨its,r1,p1,_⟩:=I.tuple ha;obtain⟨its2,r2,p2,_⟩:=I.tuple hb;cases r2;have hl:=r1.length;refine SeqAt.RcAt.tuples (e:=λ_=>true) (show s.heap.IsTuple a its.toArray from p1) (show s.heap.IsTuple b ([]:SG).toArray from p2) (by lia) (λj _ h2=>absurd h2 (P6 j)) X.prog X.w _ _ ?_;refine⟨.bl _,H,I,?_,q⟩;show Value.bool _=Value.bool xs.isEmpty;rw[O0,O0,List.length_nil,Nat.min_zero];cases xs with
 |nil=>cases r1;rfl
 |cons x xs=>
  cases its with
  |nil=>cases r1
  |cons y its=>rfl
end
end L2
namespace Dv
open PySem L2 PySem.W
noncomputable def nG:DR:=λds P=>match ds with
 |[.tuple a,.tuple []]=>P .sh (.bool a.isEmpty)
 |_=>False
def nP:nG [.tuple a,.tuple []] P=P .sh (.bool a.isEmpty):=rfl
def x9:cF K nG (r2 (JB K)):=by
 intro H Hm vs ds P Q s r h q;unfold nG at h;split at h
 .obtain⟨x,y,rfl,h1,h2⟩:=eV r;cases h1 with
  |@tup a xs _ a1 r1=>
   cases h2 with
   |@tup b ys _ a2 r2=>
    cases r2;refine⟨a,b,xs,rfl,rfl,aU.of (s _ _ a1),aU.of (s _ _ a2),?_⟩;have e:=r1.len;rename_i l;have e2:xs.isEmpty=l.isEmpty:=by cases xs<;>cases l<;>simp_all
    rw[e2];exact bN.sc q s h (.bl _)
 exact h.elim
section
variable{X:Cx}{Ex:XK}{Y:SN}{a b:Expr}{as:List Arg}{pos:Pos}
def Jb(hu:X.A.units+64<cLine)(S:aM X Ex Y [a,b] as):SE X Ex Y (.Compare a [.Eq] [b] pos) (aa nG as):=qK (BH hu) (ff _) x9 S
end
end Dv
namespace Ez
open PySem PySem.Spec PyProof.Rows
section
variable{prog:Program}{w:World}{A:Around}{E:Ro}{s:Shared}
def alive{a:Addr}(h:Q (s.heap.get? a) s):wpAny (model prog w) A (loadIfAlive a) Q E s:=λΓ p _=>by show Sem.wp _ Γ (.loadIfAlive a .pure) _ _ p s;rw[Sem.wp_loadIfAlive];exact(Sem.wp_pure ..).mpr h
def Ng(hh:A.handled=none)(it t:Addr)(hne:t≠it)(its:Rz):Draws prog w A it [it,t] its.size (λi v=>its[i]?=some v) (λi h=>h.IsTupleIter it t i/\h.IsTuple t its) where
 live:=λ_ _ ⟨⟨o,ho,_⟩,_⟩=>⟨o,ho⟩
 frame:=λ_ _ _ ⟨⟨o,ho,r⟩,o2,ho2,r2⟩ hk=>⟨⟨o,hk it (by simp) o ho,r⟩,o2,hk t (by simp) o2 ho2,r2⟩
 item:=λi s Q E hi ⟨hit,ht⟩ hQ=>by
  obtain⟨o,ho,hc,hd⟩:=id hit;obtain⟨ol,hol,_,nl,hdl⟩:=id ht;unfold Builtin.SmallTypes.nextOf;refine N1 (PF (name:=Str.ofString "__next__") hit.typeIs Qv (P0 Qv hit.typeIs F.entry_tuple_iterator_next ?_ (F.args_tuple_iterator_next_1 _)));show wpAny _ _ (field (.ref it) 0>>=_) _ _ _;refine N1 (O8 ho hd (x:=.ref t) rfl ?_);show wpAny _ _ (if(Value.ref t==Value.none)=true then _ else _) _ _ _
  rw[if_neg (show ¬((Value.ref t==Value.none)=true)from O9)]
  show wpAny _ _ (field (.ref it) 1>>=_) _ _ _;refine N1 (O8 ho hd (x:=.int i 0) rfl ?_);show wpAny _ _ (seqItems? (.ref t)>>=_) _ _ _;refine N1 (Pj hol hdl ?_);have hx:its[i]?=some its[i]:=by simp[hi]
  simp only[Pq,hx];refine N1 (QH ho hd (by simp) (N4 ⟨_,rfl,N4 (hQ _ _ s.toks hx ⟨?_,ht.extBut (Rb ..).extBut hne⟩ (Rb ..))⟩))
  exact⟨_,QF _ ho (RN (QZ hd _)),(Obj.cls_mapFields ..).trans hc,by rw[QZ hd];simp[rawInt]⟩
 done:=λs Q E ⟨hit,ht⟩ hE=>by
  obtain⟨o,ho,hc,hd⟩:=id hit;obtain⟨ol,hol,_,nl,hdl⟩:=id ht;unfold Builtin.SmallTypes.nextOf;refine N1 (PF (name:=Str.ofString "__next__") hit.typeIs Qv (P0 Qv hit.typeIs F.entry_tuple_iterator_next ?_ (F.args_tuple_iterator_next_1 _)));show wpAny _ _ (field (.ref it) 0>>=_) _ _ _;refine N1 (O8 ho hd (x:=.ref t) rfl ?_);show wpAny _ _ (if(Value.ref t==Value.none)=true then _ else _) _ _ _
  rw[if_neg (show ¬((Value.ref t==Value.none)=true)from O9)]
  show wpAny _ _ (field (.ref it) 1>>=_) _ _ _;refine N1 (O8 ho hd (x:=.int its.size 0) rfl ?_);show wpAny _ _ (seqItems? (.ref t)>>=_) _ _ _;refine N1 (Pj hol hdl ?_);simp only[Pq,Array.getElem?_size];refine N1 (Oe (N1 (QH ho hd (by simp) ?_)))
  show wpAny _ _ (newExc (.type "StopIteration") []>>=_) _ _ _;refine N1 ?_;simp only[newExc,newTuple];refine N1 (PJ ?_ (by size_fits))
  refine N1 (m:=firstArgMember _ _) (wpAny_of_eq (a:=Value.none) (by first|rfl|(simp only[firstArgMember];rfl)) ?_)
  refine PJ ?_ (by size_fits)
  simp only[raiseNew];refine N1 (wpAny_handled ?_)
  first|rw[show A.in1.handled=none from hh]|rw[hh]
  refine N1 (N4 (wpAny_throw ?_));exact hE _ _ (((Rb ..).extBut.push _).push _) ⟨_,OC _ rfl,rfl⟩
end
end Ez
namespace Ez
open PySem PySem.Spec PyProof.Rows L2
noncomputable abbrev kQ (h:Heap)(z TI TO:Addr)(f0 f1:Value):Prop:=h.get? z=some { cls:=.type "zip",dict:=none,data:=.fields #[f0,f1,.bool false,.ref TI,.ref TO],slots:=#[] }
inductive ZF:Value->Value->Prop
 |no (b:Bool):ZF .none (.bool b)
 |at (T:Addr)(b:Bool):ZF (rawInt T) (.bool b)
noncomputable def ZS (h:Heap)(z TI TO:Addr):Prop:=∃f0 f1,kQ h z TI TO f0 f1/\ZF f0 f1
structure ZD(z TI TO i1 i2:Addr)(fp1 fp2:SH):Prop where
 z1:z∉fp1
 z2:z∉fp2
 o1:TO∉fp1
 o2:TO∉fp2
 a:i1∉fp2
 b:i2∉fp1
 m1:i1∈fp1
 m2:i2∈fp2
 tz:TI≠z
 oz:TO≠z
 tt:TI≠TO
 t1:TI≠i1
 t2:TI≠i2
section
variable{prog:Program}{w:World}{A:Around}{E:Ro}{s:Shared}{z TI TO i1 i2:Addr}{fp1 fp2:SH}{n1 n2 i:Nat}{P1 P2:Nat->Value->Prop}{S1 S2:Nat->Heap->Prop}{f0 f1:Value}
def wF(hz:kQ s.heap z TI TO f0 f1)(f:f0=.none\/∃T:Addr,f0=rawInt T/\s.heap.get? T=none):wpAny (model prog w) A (Builtin.SmallTypes.ownedTupleIsFree (.ref z)) (λb s'=>b=true/\s'=s) E s:=by unfold Builtin.SmallTypes.ownedTupleIsFree;rcases f with rfl|⟨T,rfl,e⟩;{exact N1 (O8 hz rfl (x:=.none) rfl (N4 ⟨rfl,rfl⟩))};refine N1 (O8 hz rfl (x:=rawInt T) rfl ?_);show wpAny _ _ (loadIfAlive ((T:Int).toNat)>>=_) _ _ _;refine N1 (alive ?_);rw[Pq,e];exact N4 ⟨rfl,rfl⟩
def xW{T:Addr}{b:Bool}(hz:kQ s.heap z TI TO (rawInt T) (.bool b))(e:s.heap.get? T≠none):wpAny (model prog w) A (Builtin.SmallTypes.ownedTupleIsFree (.ref z)) (λb s'=>b=false/\∃h',s'={ s with heap:=h' }/\kQ h' z TI TO (rawInt T) (.bool true)/\Heap.SameBut z s.heap h') E s:=by
 unfold Builtin.SmallTypes.ownedTupleIsFree;refine N1 (O8 hz rfl (x:=rawInt T) rfl ?_);show wpAny _ _ (loadIfAlive ((T:Int).toNat)>>=_) _ _ _;refine N1 (alive ?_);rw[Pq];cases e2:s.heap.get? T with
 |none=>exact absurd e2 e
 |some o=>
  show wpAny _ _ (field (.ref z) 1>>=_) _ _ _;refine N1 (O8 hz rfl (x:=.bool b) rfl ?_);cases b with
  |true=>exact N4 ⟨rfl,s.heap,rfl,hz,Heap.SameBut.refl ..⟩
  |false=>show wpAny _ _ (setField (.ref z) 1 (.bool true)>>=_) _ _ _;refine N1 (Ou hz (by simp) λh' hz' hs=>N4 ⟨rfl,h',rfl,hz',hs⟩)
def Dg{Q:Ro}(D:ZD z TI TO i1 i2 fp1 fp2)(D1:Draws prog w A i1 fp1 n1 P1 S1)(D2:Draws prog w A i2 fp2 n2 P2 S2)(hz:ZS s.heap z TI TO)(hTI:IsPair s.heap TI (.ref i1) (.ref i2))(hTO:∃a b,IsPair s.heap TO a b)(l1:i<n1)(l2:i<n2)(s1:S1 i s.heap)(s2:S2 i s.heap)(hQ:∀x y h' tk,P1 i x->P2 i y->ZS h' z TI TO->(∃a b,IsPair h' TO a b)->S1 (i+1) h'->S2 (i+1) h'->IsPair h' s.heap.objs.size x y->h'.objs.size=s.heap.objs.size+1-> (∀c o,c≠z->c≠TO->c≠i1->c≠i2->s.heap.get? c=some o->h'.get? c=some o)->Q (.ref s.heap.objs.size) { s with heap:=h',toks:=tk }) : wpAny (model prog w) A (Builtin.«zip.__next__» ⟨[.ref z],[]⟩) (λfin s'=>∃v,fin=.done (.ret v)/\Q v s') E s:=by
 obtain⟨f0,f1,hz,zf⟩:=hz;obtain⟨a,b,hTO⟩:=hTO;have n1z:i1≠z:=λe=>D.z1 (e▸D.m1);have n2z:i2≠z:=λe=>D.z2 (e▸D.m2);have n12:i1≠i2:=λe=>D.a (e▸D.m2);have o1:TO≠i1:=λe=>D.o1 (e▸D.m1);have o2:TO≠i2:=λe=>D.o2 (e▸D.m2);show wpAny _ _ (field (.ref z) 2>>=_) _ _ _;refine N1 (O8 hz rfl (x:=.bool false) rfl ?_);show wpAny _ _ (field (.ref z) 3>>=_) _ _ _;refine N1 (O8 hz rfl (x:=.ref TI) rfl (N1 (Pj hTI rfl ?_)));show wpAny _ _ (Builtin.SmallTypes.ownedTupleIsFree (.ref z)>>=_) _ _ _;by_cases free:f0=.none\/∃T:Addr,f0=rawInt T/\s.heap.get? T=none
 .refine N1 (aQ (wF hz free) λb' s' q=>?_);obtain⟨rfl,rfl⟩:=q;simp only[if_true];refine N1 (Oe (N1 (O8 hz rfl (x:=.ref TO) rfl (N1 (Ou hz (by simp) λh1 hz1 sb=>?_)))));replace hz1:kQ h1 z TI TO .ellipsis f1:=hz1;have kz:∀c o,c≠z->s'.heap.get? c=some o->h1.get? c=some o:=λc o n e=>(sb.2 c n).trans e;refine N1 ?_;simp only[RV,List.zipIdx_nil,QG,Qw];refine N1 (N1 (wpAny_onRaise ?_));show wpAny _ _ (Builtin.SmallTypes.nextOf (.ref i1)>>=_) _ _ _;refine N1 (D1.item i _ _ _ l1 (D1.frame _ _ _ s1 λc hc o e=>kz c o (λz'=>D.z1 (z'▸hc)) e) λx h2 tk hx s1' hs2=>N4 ?_);have k2:∀c o,c≠i1->h1.get? c=some o->h2.get? c=some o:=λc o n e=>(hs2.2 c n).trans e;have hT2:IsPair h2 TO a b:=k2 _ _ o1 (kz _ _ D.oz hTO);refine N1 (Pj hT2 rfl (N1 (wpAny_updateSeq_pair hT2 λh3 hT3 hs3=>?_)));replace hT3:IsPair h3 TO x b:=hT3;have k3:∀c o,c≠TO->h2.get? c=some o->h3.get? c=some o:=λc o n e=>(hs3.2 c n).trans e;refine N1 (wpAny_letGo (N4 ?_));refine N1 (N1 (wpAny_onRaise ?_));show wpAny _ _ (Builtin.SmallTypes.nextOf (.ref i2)>>=_) _ _ _;refine N1 (D2.item i _ _ _ l2 (D2.frame _ _ _ s2 λc hc o e=>k3 c o (λz'=>D.o2 (z'▸hc)) (k2 c o (λz'=>D.a (z'▸hc)) (kz c o (λz'=>D.z2 (z'▸hc)) e))) λy h4 tk2 hy s2' hs4=>N4 ?_);have k4:∀c o,c≠i2->h3.get? c=some o->h4.get? c=some o:=λc o n e=>(hs4.2 c n).trans e;have hT4:IsPair h4 TO x b:=k4 _ _ o2 hT3;refine N1 (Pj hT4 rfl (N1 (wpAny_updateSeq_pair hT4 λh5 hT5 hs5=>?_)));replace hT5:IsPair h5 TO x y:=hT5;have k5:∀c o,c≠TO->h4.get? c=some o->h5.get? c=some o:=λc o n e=>(hs5.2 c n).trans e;refine N1 (wpAny_letGo (N4 (N4 (N1 (Pj hT5 rfl (N1 (Qk ?_)))))));have hsz:h5.objs.size=s'.heap.objs.size:=(((hs5.1.trans hs4.1).trans hs3.1).trans hs2.1).trans sb.1;have hz5:kQ h5 z TI TO .ellipsis f1:=k5 _ _ D.oz.symm (k4 _ _ n2z.symm (k3 _ _ D.oz.symm (k2 _ _ n1z.symm hz1)));have zl:z<h5.objs.size:=N8 hz5;show wpAny _ _ (Builtin.SmallTypes.ownedTupleHandOut (.ref z) (.ref h5.objs.size)>>=_) _ _ _;refine N1 ?_;unfold Builtin.SmallTypes.ownedTupleHandOut;have hz6:kQ (h5.push { cls:=.type "tuple",data:=.seq #[x,y] }) z TI TO .ellipsis f1:=O1 _ hz5;refine N1 (Ou hz6 (by simp) λh7 hz7 hs7=>?_);replace hz7:kQ h7 z TI TO (rawInt h5.objs.size) f1:=hz7;refine Ou hz7 (by simp) λh8 hz8 hs8=>?_;replace hz8:kQ h8 z TI TO (rawInt h5.objs.size) (.bool false):=hz8;have up:∀c o,c≠z->h5.get? c=some o->h8.get? c=some o:=λc o c1 e=>(hs8.2 c c1).trans ((hs7.2 c c1).trans (O1 _ e));have np:IsPair h8 h5.objs.size x y:=(hs8.2 _ (P7 zl)).trans ((hs7.2 _ (P7 zl)).trans (OC _ rfl));refine N4 ⟨_,rfl,?_⟩;show Q (.ref h5.objs.size) { s' with heap:=h8,toks:=tk2 };have z8:h8.objs.size=h5.objs.size+1:=(hs8.1.trans hs7.1).trans (Ot ..);rw[hsz]at np z8⊢;exact hQ x y _ tk2 hx hy ⟨_,_,hz8,.at _ false⟩ ⟨x,y,up _ _ D.oz hT5⟩ (D1.frame _ _ _ s1' λc hc o e=>up c o (λz'=>D.z1 (z'▸hc)) (k5 c o (λz'=>D.o1 (z'▸hc)) (k4 c o (λz'=>D.b (z'▸hc)) (k3 c o (λz'=>D.o1 (z'▸hc)) e))))
   (D2.frame _ _ _ s2' λc hc o e=>up c o (λz'=>D.z2 (z'▸hc)) (k5 c o (λz'=>D.o2 (z'▸hc)) e)) np z8 λc o c1 c2 c3 c4 e=>up c o c1 (k5 c o c2 (k4 c o c4 (k3 c o c2 (k2 c o c3 (kz c o c1 e)))))
 cases zf with
 |no b=>exact absurd (.inl rfl) free
 |«at» T b'=>
  refine N1 (aQ (xW hz λe=>free (.inr ⟨T,rfl,e⟩)) λb'' s' q=>?_);obtain⟨rfl,h',rfl,hz1,sb⟩:=q;simp only[Ql,if_false];simp only[List.forIn_toArray,QG,Qw];have kz:∀c o,c≠z->s.heap.get? c=some o->h'.get? c=some o:=λc o n e=>(sb.2 c n).trans e;refine N1 (N1 (N1 (Oz ?_)));show wpAny _ _ (Builtin.SmallTypes.nextOf (.ref i1)>>=_) _ _ _;refine N1 (D1.item i _ _ _ l1 (D1.frame _ _ _ s1 λc hc o e=>kz c o (λz'=>D.z1 (z'▸hc)) e) λx h2 tk hx s1' hs2=>N4 (N4 ?_));refine N1 (N1 (Oz ?_));show wpAny _ _ (Builtin.SmallTypes.nextOf (.ref i2)>>=_) _ _ _;have k2:∀c o,c≠i1->h'.get? c=some o->h2.get? c=some o:=λc o n e=>(hs2.2 c n).trans e;refine N1 (D2.item i _ _ _ l2 (D2.frame _ _ _ s2 λc hc o e=>k2 c o (λz'=>D.a (z'▸hc)) (kz c o (λz'=>D.z2 (z'▸hc)) e)) λy h3 tk2 hy s2' hs3=>N4 (N4 (N4 ?_)));have k3:∀c o,c≠i2->h2.get? c=some o->h3.get? c=some o:=λc o n e=>(hs3.2 c n).trans e;show wpAny _ _ (newTuple [x,y]>>=_) _ _ { s with heap:=h3,toks:=tk2 };refine N1 (Qk (N4 ⟨_,rfl,?_⟩));have hsz:h3.objs.size=s.heap.objs.size:=(hs3.1.trans hs2.1).trans sb.1;have ps:∀{c o},h3.get? c=some o->(h3.push { cls:=.type "tuple",data:=.seq #[x,y] }).get? c=some o:=λe=>O1 _ e;show Q (.ref h3.objs.size) { s with heap:=h3.push { cls:=.type "tuple",data:=.seq #[x,y] },toks:=tk2 };have np:IsPair (h3.push { cls:=.type "tuple",data:=.seq #[x,y] }) h3.objs.size x y:=OC _ rfl;rw[hsz]at np⊢;exact hQ x y _ tk2 hx hy ⟨_,_,ps (k3 _ _ n2z.symm (k2 _ _ n1z.symm hz1)),.at T true⟩ ⟨a,b,ps (k3 _ _ o2 (k2 _ _ o1 (kz _ _ D.oz hTO)))⟩ (D1.frame _ _ _ s1' λc hc o e=>ps (k3 c o (λz'=>D.b (z'▸hc)) e)) (D2.frame _ _ _ s2' λc hc o e=>ps e) np
   (by rw[Ot,hsz]) λc o c1 _ c3 c4 e=>ps (k3 c o c4 (k2 c o c3 (kz c o c1 e)))
def Ga(n1z:i1≠z)(hn:∀(h1:Heap)(Q:Ro)(E:Ro),(∀c o,c≠z->s.heap.get? c=some o->h1.get? c=some o)->(∀h' e,Heap.ExtBut i1 h1 h'->(∃o,h'.get? e=some o/\o.cls=.type "StopIteration")->E (.ref e) { s with heap:=h' })->wpAny (model prog w) A (Builtin.SmallTypes.nextOf (.ref i1)) Q E { s with heap:=h1 })(hz:ZS s.heap z TI TO)(hTI:IsPair s.heap TI (.ref i1) (.ref i2))(hE:∀h' e,(∀c o,c≠z->c≠i1->s.heap.get? c=some o->h'.get? c=some o)->(∃o,h'.get? e=some o/\o.cls=.type "StopIteration")->E (.ref e) { s with heap:=h' }) : wpAny (model prog w) A (Builtin.«zip.__next__» ⟨[.ref z],[]⟩) Q E s:=by
 obtain⟨f0,f1,hz,zf⟩:=hz;show wpAny _ _ (field (.ref z) 2>>=_) _ _ _;refine N1 (O8 hz rfl (x:=.bool false) rfl ?_);show wpAny _ _ (field (.ref z) 3>>=_) _ _ _;refine N1 (O8 hz rfl (x:=.ref TI) rfl (N1 (Pj hTI rfl ?_)));show wpAny _ _ (Builtin.SmallTypes.ownedTupleIsFree (.ref z)>>=_) _ _ _;by_cases free:f0=.none\/∃T:Addr,f0=rawInt T/\s.heap.get? T=none
 .refine N1 (aQ (wF hz free) λb' s' q=>?_);obtain⟨rfl,rfl⟩:=q;simp only[if_true];refine N1 (Oe (N1 (O8 hz rfl (x:=.ref TO) rfl (N1 (Ou hz (by simp) λh1 hz1 sb=>?_)))));replace hz1:kQ h1 z TI TO .ellipsis f1:=hz1;have kz:∀c o,c≠z->s'.heap.get? c=some o->h1.get? c=some o:=λc o n e=>(sb.2 c n).trans e;refine N1 ?_;simp only[RV,List.zipIdx_nil,QG,Qw];refine N1 (N1 (wpAny_onRaise ?_));show wpAny _ _ (Builtin.SmallTypes.nextOf (.ref i1)>>=_) _ _ _;refine N1 (hn _ _ _ kz λh2 e hs2 he=>?_);obtain⟨oe,hoe,hce⟩:=he;have hz2:kQ h2 z TI TO .ellipsis f1:=hs2 _ _ n1z.symm hz1;have hez:e≠z:=λx=>by subst x;rw[hz2]at hoe;cases hoe;simp at hce
  exact Ou hz2 (by simp) λh3 _ hs3=>hE h3 e (λc o c1 c3 x=>hs3.extBut _ _ c1 (hs2 _ _ c3 (kz _ _ c1 x))) ⟨oe,hs3.extBut _ _ hez hoe,hce⟩
 cases zf with
 |no b=>exact absurd (.inl rfl) free
 |«at» T b'=>refine N1 (aQ (xW hz λe=>free (.inr ⟨T,rfl,e⟩)) λb'' s' q=>?_);obtain⟨rfl,h',rfl,hz1,sb⟩:=q;simp only[Ql,if_false];simp only[List.forIn_toArray,QG,Qw];have kz:∀c o,c≠z->s.heap.get? c=some o->h'.get? c=some o:=λc o n e=>(sb.2 c n).trans e;refine N1 (N1 (N1 (Oz ?_)));show wpAny _ _ (Builtin.SmallTypes.nextOf (.ref i1)>>=_) _ _ _;exact N1 (hn _ _ _ kz λh2 e hs2 he=>hE h2 e (λc o c1 c3 x=>hs2 _ _ c3 (kz _ _ c1 x)) he)
def CP{e it:Addr}{J:Value->Heap->Nat->Prop}{Q:Ry->Shared->Prop}(he:IsEnum s.heap e it i old)(hn:∀(Q':Ro)(E':Ro),(∀x h1 tk,J x h1 tk->Q' x { s with heap:=h1,toks:=tk })->wpAny (model prog w) A.in1 (Builtin.SmallTypes.nextOf (.ref it)) Q' E' s)(hJ:∀x h1 tk,J x h1 tk->IsEnum h1 e it i old)(hQ:∀x h1 tk h',J x h1 tk->IsEnumOut h' e it ((i:Int)+1) x h1.objs.size->(∀b o,b≠e->h1.get? b=some o->h'.get? b=some o)->h'.get? h1.objs.size=some { cls:=.type "tuple",data:=.seq #[.int i tk,x] }->h'.objs.size=h1.objs.size+1->Q (some (.ref h1.objs.size)) { s with heap:=h',toks:=tk+1 }) : wpAny (model prog w) A (pyNext (.ref e)) Q E s:=by have hT:s.TypeIs (.ref e) "enumerate":=⟨_,he,rfl⟩;unfold pyNext;refine N1 (wpAny_attempt (PF (name:=Str.ofString "__next__") hT Qx (P0 Qx hT F.entry_enumerate_next ?_ (F.args_enumerate_next_1 _))));show wpAny _ _ (field (.ref e) 2>>=_) _ _ _;refine N1 (O8 he rfl (x:=.ref it) rfl (N1 (hn _ _ λx h1 tk j=>?_)));have he1:=hJ _ _ _ j;show wpAny _ _ (field (.ref e) 3>>=_) _ _ { s with heap:=h1,toks:=tk };refine N1 (O8 he1 rfl (x:=rawInt i) rfl ?_);show wpAny _ _ (field (.ref e) 4>>=_) _ _ _;refine N1 (O8 he1 rfl (x:=.none) rfl ?_);show wpAny _ _ (mkInt i>>=_) _ _ _;refine N1 (wpAny_mkInt ?_);show wpAny _ _ (setField (.ref e) 3 (rawInt ((i:Int)+1))>>=_) _ _ { s with heap:=h1,toks:=tk+1 };refine N1 (Ou he1 (by simp) λh2 he2 hs2=>?_);replace he2:IsEnum h2 e it ((i:Int)+1) old:=he2;show wpAny _ _ (setField (.ref e) 4 .none>>=_) _ _ { s with heap:=h2,toks:=tk+1 };refine N1 (Ou he2 (by simp) λh3 he3 hs3=>?_);replace he3:IsEnum h3 e it ((i:Int)+1) old:=he3;show wpAny _ _ (newTuple [.int i tk,x]>>=_) _ _ { s with heap:=h3,toks:=tk+1 };refine N1 (Qk ?_);have he4:IsEnum (h3.push { cls:=.type "tuple",data:=.seq #[.int i tk,x] }) e it ((i:Int)+1) old:=O1 _ he3;have el:e<h3.objs.size:=N8 he3;have t4:(h3.push { cls:=.type "tuple",data:=.seq #[.int i tk,x] }).get? h3.objs.size=some { cls:=.type "tuple",data:=.seq #[.int i tk,x] }:=OC _ rfl;have z4:(h3.push { cls:=.type "tuple",data:=.seq #[.int i tk,x] }).objs.size=h3.objs.size+1:=Ot ..;have k4:∀b o,b≠e->h1.get? b=some o->(h3.push { cls:=.type "tuple",data:=.seq #[.int i tk,x] }).get? b=some o:=λb o hb q=>O1 _ ((hs3.2 b hb).trans ((hs2.2 b hb).trans q));have hsz:h3.objs.size=h1.objs.size:=hs3.1.trans hs2.1;generalize h3.push { cls:=.type "tuple",data:=.seq #[.int i tk,x] }=h4 at he4 t4 z4 k4;show wpAny _ _ (Builtin.SmallTypes.ownedTupleIsFree (.ref e)>>=_) _ _ { s with heap:=h4,toks:=tk+1 };rw[hsz]at t4 z4 el⊢;refine N1 ?_;unfold Builtin.SmallTypes.ownedTupleIsFree;refine N1 (O8 he4 rfl (x:=.none) rfl (N4 ?_));simp only[if_true];refine N1 (Oe (N1 (O8 he4 rfl (x:=old) rfl (N1 (Ou he4 (by simp) λh5 he5 hs5=>?_)))));replace he5:IsEnum h5 e it ((i:Int)+1) x:=he5;show wpAny _ _ (Builtin.SmallTypes.ownedTupleHandOut (.ref e) (.ref h1.objs.size)>>=_) _ _ _;refine N1 ?_;unfold Builtin.SmallTypes.ownedTupleHandOut;refine N1 (Ou he5 (by simp) λh6 he6 hs6=>?_);replace he6:IsEnumOut h6 e it ((i:Int)+1) x h1.objs.size:=he6;refine Ou he6 (by simp) λh7 he7 hs7=>?_;replace he7:IsEnumOut h7 e it ((i:Int)+1) x h1.objs.size:=he7;have k7:∀b o,b≠e->h4.get? b=some o->h7.get? b=some o:=λb o hb q=>(hs7.2 b hb).trans ((hs6.2 b hb).trans ((hs5.2 b hb).trans q));exact N1 (wpAny_letGo (N4 ⟨_,rfl,N4 (hQ x h1 tk h7 j he7 (λb o hb q=>k7 b o hb (k4 b o hb q)) (k7 _ _ (P7 el) t4) ((hs7.1.trans (hs6.1.trans hs5.1)).trans z4))⟩))
def D5{e it:Addr}{J:Heap->Prop}{Q:Ry->Shared->Prop}(he:IsEnum s.heap e it i old)(hn:∀(Q':Ro)(E':Ro),(∀h1 x,J h1->(∃o,h1.get? x=some o/\o.cls=.type "StopIteration")->E' (.ref x) { s with heap:=h1 })->wpAny (model prog w) A.in1 (Builtin.SmallTypes.nextOf (.ref it)) Q' E' s)(hQ:∀h1,J h1->Q none { s with heap:=h1 }):wpAny (model prog w) A (pyNext (.ref e)) Q E s:=by have hT:s.TypeIs (.ref e) "enumerate":=⟨_,he,rfl⟩;unfold pyNext;refine N1 (wpAny_attempt (PF (name:=Str.ofString "__next__") hT Qx (P0 Qx hT F.entry_enumerate_next ?_ (F.args_enumerate_next_1 _))));show wpAny _ _ (field (.ref e) 2>>=_) _ _ _;refine N1 (O8 he rfl (x:=.ref it) rfl (N1 (hn _ _ λh' x hj hx=>?_)));obtain⟨o,ho,hc⟩:=hx;exact N1 (wpAny_isInstance (T:="StopIteration") (b:=true) ⟨o,ho,hc⟩ isSubtype_stop (N4 (hQ _ hj)))
end
end Ez
namespace L2
open PySem PySem.Spec PyProof.Rows
section
variable{X:Cx}{pins:Rt}{U:St}{H:Hp}{s:Shared}{h':Heap}
def Inv.gone{ch:SH}{t':Nat}(I:Inv X pins U H s)(hf:∀b∈ch,gu X pins H b)(k:∀b o,b∉ch->s.heap.get? b=some o->h'.get? b=some o):Inv X pins U H { s with heap:=h',toks:=t' }:=by
 have nt:∀b u,H b=some u->b∉ch:=λb u e z=>by rw[(hf b z).1]at e;cases e
 refine I.step (g':=s.gens) (d':=s.drawn) (ch:=ch) (λb hb=>?_) (λb o _ _ hc e _=>k b o hc e) (λb o _ _ hc e _=>⟨o.slots,k b o hc e⟩) (λ_ _ _ _ n=>n) (λb o hc e=>⟨o,k b o hc e⟩) (λ_ _ e=>e) (λ_ _ _ e=>e) (λb ps e=>⟨#[],by rw[e];simp⟩) (λm hm=>?_) (λb u e=>?_) I.bare;{have f:=hf b hb;exact⟨f.2.2.2.1,f.2.1,f.2.2.2.2.1,f.2.2.2.2.2⟩};{obtain⟨o,es,ep,ho,r⟩:=hm;exact⟨o,es,ep,k _ o (λz=>(hf _ z).2.1 rfl) ho,r⟩};refine(I.hok b u e).stay (λc v hc q=>k c v ?_ q) (λ_ q=>q) λ_ _ q=>q;rcases hc with z|z;{rw[z];exact nt b u e};exact nt c _ z
def Inv.Ke{a:Addr}(I:Inv X pins U H s)(f:gu X pins H a)(new:bP X.prog X.w (upd H a o) s.heap a o):Inv X pins U (upd H a o) s:=by
 have ne:∀b u,H b=some u->b≠a:=λb u e z=>by rw[z,f.1]at e;cases e
 refine I.step (h':=s.heap) (t':=s.toks) (g':=s.gens) (d':=s.drawn) (ch:=[a]) (λb hb=>?_) (λb o _ _ hc e _=>e) (λb o _ _ hc e _=>⟨o.slots,e⟩) (λb o hc _ n=>by rw[ao λz=>hc (by simp[z])];exact n) (λb o hc e=>⟨o,e⟩)
  (λb xs e=>by rw[ao (ne b _ e)];exact e) (λb o u e=>by rw[ao (ne b _ e)];exact e) (λb ps e=>⟨#[],by rw[ao (ne b _ e),e];simp⟩) (λm hm=>hm) (λb u e=>?_) I.bare
 .have z:b=a:=by simpa using hb
  subst z;exact⟨f.2.2.2.1,f.2.1,f.2.2.2.2.1,f.2.2.2.2.2⟩
 by_cases z:b=a;{subst z;rw[aG]at e;cases e;exact new};rw[ao z]at e;exact(I.hok b u e).stay (λc v hc q=>q) (λd r=>by rw[ao (ne d _ r)];exact r) λd ys r=>by rw[ao (ne d _ r)];exact r
end
noncomputable def IE (K:Rx)(a b:Addr):It:=
 ⟨λi H=>∃xs ys x y,bX K H a xs/\aU K H b ys/\xs.length=ys.length/\xs[i]?=some x/\ys[i]?=some y,
   λi H v H'=>∃SR T,H SR=none/\H T=none/\SR≠T/\v=.ref T/\∀xs ys,bX K H a xs->aU K H b ys->∃x y,xs[i]?=some x/\ys[i]?=some y/\H'=upd (upd H SR (.tup [x,y])) T (.tup [.int i,.ref SR]),
   λi H=>∃xs ys,bX K H a xs/\aU K H b ys/\xs.length<=i⟩
def yU{z TI TO i1 i2:Addr}{n1 n2 i:Nat}{P1 P2:Nat->Value->Prop}{S1 S2:Nat->Heap->Prop}(D:Ez.ZD z TI TO i1 i2 fp1 fp2)(D1:Draws prog w A.in1 i1 fp1 n1 P1 S1)(D2:Draws prog w A.in1 i2 fp2 n2 P2 S2)(hz:Ez.ZS s.heap z TI TO)(hTI:IsPair s.heap TI (.ref i1) (.ref i2))(hTO:∃a b,IsPair s.heap TO a b)(l1:i<n1)(l2:i<n2)(s1:S1 i s.heap)(s2:S2 i s.heap)(hQ:∀x y h' tk,P1 i x->P2 i y->Ez.ZS h' z TI TO->(∃a b,IsPair h' TO a b)->S1 (i+1) h'->S2 (i+1) h'->IsPair h' s.heap.objs.size x y->h'.objs.size=s.heap.objs.size+1-> (∀c o,c≠z->c≠TO->c≠i1->c≠i2->s.heap.get? c=some o->h'.get? c=some o)->Q (.ref s.heap.objs.size) { s with heap:=h',toks:=tk }) : wpAny (model prog w) A (Builtin.SmallTypes.nextOf (.ref z)) Q E s:=by obtain⟨f0,f1,hz',zf⟩:=id hz;have hT:s.TypeIs (.ref z) "zip":=⟨_,hz',rfl⟩;unfold Builtin.SmallTypes.nextOf;exact N1 (PF (name:=Str.ofString "__next__") hT Qy (P0 Qy hT F.entry_zip_next (Ez.Dg D D1 D2 hz hTI hTO l1 l2 s1 s2 λx y h' tk a b c d e f g h k=>N4 (hQ x y h' tk a b c d e f g h k)) (F.args_zip_next_1 _)))
def xj{z TI TO i1 i2:Addr}(n1z:i1≠z)(hn:∀(h1:Heap)(Q:Ro)(E:Ro),(∀c o,c≠z->s.heap.get? c=some o->h1.get? c=some o)->(∀h' e,Heap.ExtBut i1 h1 h'->(∃o,h'.get? e=some o/\o.cls=.type "StopIteration")->E (.ref e) { s with heap:=h' })->wpAny (model prog w) A.in1 (Builtin.SmallTypes.nextOf (.ref i1)) Q E { s with heap:=h1 })(hz:Ez.ZS s.heap z TI TO)(hTI:IsPair s.heap TI (.ref i1) (.ref i2))(hE:∀h' e,(∀c o,c≠z->c≠i1->s.heap.get? c=some o->h'.get? c=some o)->(∃o,h'.get? e=some o/\o.cls=.type "StopIteration")->E (.ref e) { s with heap:=h' }) : wpAny (model prog w) A (Builtin.SmallTypes.nextOf (.ref z)) Q E s:=by obtain⟨f0,f1,hz',zf⟩:=id hz;have hT:s.TypeIs (.ref z) "zip":=⟨_,hz',rfl⟩;unfold Builtin.SmallTypes.nextOf;exact N1 (PF (name:=Str.ofString "__next__") hT Qy (P0 Qy hT F.entry_zip_next (Ez.Ga n1z hn hz hTI hE) (F.args_zip_next_1 _)))
structure Qd(e z TI TO i1 i2 a b:Addr):Prop where
 D:Ez.ZD z TI TO i1 i2 [i1,a] [i2,b]
 ez:e≠z
 eI:e≠TI
 eO:e≠TO
 e1:e≠i1
 e2:e≠i2
 ea:e≠a
 eb:e≠b
 n1:a≠i1
 n2:b≠i2
inductive Qt(e z TI TO i1 i2 a b:Addr) (i:Nat)(h:Heap):Prop
 |mk (old:Value)(u v:Value):IsEnum h e z i old->Ez.ZS h z TI TO->IsPair h TI (.ref i1) (.ref i2)->IsPair h TO u v->h.IsListIter i1 a i->h.IsTupleIter i2 b i->Qt e z TI TO i1 i2 a b i h
def G3{P:Program}{w:World}{K:Rx}{elts:SK}{x1:Nat}{pos:Pos}{a b e z TI TO i1 i2:Addr}(q:Qd e z TI TO i1 i2 a b) : Turn P w K (.Tuple elts x1 pos) (IE K a b) [e,z,TI,TO,i1,i2] e (Qt e z TI TO i1 i2 a b) where
 mem:=by simp
 obj:=λi h st c hc=>by
  obtain⟨old,u,v,h0,⟨_,_,h1,_⟩,h2,h3,h4,h5⟩:=st;simp only[NY,Oa,PR]at hc;rcases hc with rfl|rfl|rfl|rfl|rfl|rfl
  .exact⟨_,h0,λv q=>by cases q⟩
  .exact⟨_,h1,λv q=>by cases q⟩
  .exact⟨_,h2,λv q=>by cases q⟩
  .exact⟨_,h3,λv q=>by cases q⟩
  .obtain⟨o,e1,_,d⟩:=h4;exact⟨o,e1,λv q=>by rw[d]at q;cases q⟩
  .obtain⟨o,e1,_,d⟩:=h5;exact⟨o,e1,λv q=>by rw[d]at q;cases q⟩
 keep:=λi h h' st k=>by
  obtain⟨old,u,v,h0,⟨f0,f1,h1,zf⟩,h2,h3,h4,⟨o,ho,r⟩⟩:=st;exact⟨old,u,v,k e (by simp) _ h0,⟨f0,f1,k z (by simp) _ h1,zf⟩,k TI (by simp) _ h2,k TO (by simp) _ h3,h4.at λo q=>k i1 (by simp) o q,⟨o,k i2 (by simp) o ho,r⟩⟩
 item:=by
  intro X hP hw hK hc i pins s U H E I hf st hg;subst hP hw hK;obtain⟨xs,ys,x,y,hq,hq2,hl,hx,hy⟩:=hg;obtain⟨its,rv,p,_⟩:=I.list hq;obtain⟨its2,rv2,p2,_⟩:=I.tuple hq2;obtain⟨u,hu,ru⟩:=rv.get hx;obtain⟨u2,hu2,ru2⟩:=rv2.get hy;obtain⟨old,ua,ub,h0,h1,h2,h3,h4,h5⟩:=st;have hd:X.A.in1.in1.handled=none:=I.ok.hd hc;have D1:=Draws.list (prog:=X.prog) (w:=X.w) hd i1 a q.n1 its.toArray;have D2:=Ez.Ng (prog:=X.prog) (w:=X.w) hd i2 b q.n2 its2.toArray;have el:e<s.heap.objs.size:=N8 h0;refine Ez.CP (A:=X.A) (J:=λr hA tk=>r=.ref s.heap.objs.size/\IsEnum hA e z i old/\Ez.ZS hA z TI TO/\(∃a b,IsPair hA TO a b)/\hA.IsListIter i1 a (i+1)/\hA.IsTupleIter i2 b (i+1)/\IsPair hA s.heap.objs.size u u2/\hA.objs.size=s.heap.objs.size+1/\∀c o,c≠z->c≠TO->c≠i1->c≠i2->s.heap.get? c=some o->hA.get? c=some o)
   h0 (λQ' E' hJ=>?_) (λr hA tk j=>j.2.1) λr hA tk hB j b1 kB tB zB=>⟨_,rfl,?_⟩
  .refine yU q.D D1 D2 h1 h2 ⟨_,_,h3⟩ (i:=i) (by simpa using(Ox.mp hu).1) (by simpa using(Ox.mp hu2).1) ⟨h4,p.isList⟩ ⟨h5,p2⟩ λx' y' hA tk px py c1 c2 c3 c4 c5 c6 c7=>hJ _ _ _ ⟨rfl,c7 _ _ q.ez q.eO q.e1 q.e2 h0,c1,c2,c3.1,c4.1,?_,c6,c7⟩
   have ex:u=x':=by
    have px:its.toArray[i]?=some x':=px;rw[show its.toArray[i]?=some u by simpa using hu]at px
    exact Option.some.inj px
   have ey:u2=y':=by
    have py:its2.toArray[i]?=some y':=py;rw[show its2.toArray[i]?=some u2 by simpa using hu2]at py
    exact Option.some.inj py
   rw[ex,ey];exact c5
  .obtain⟨rfl,a0,a1,⟨va,vb,a2⟩,a3,a4,a5,a6,a7⟩:=j;refine wpAny_letOwnedTupleGo_enum b1 λhC hC1 hs=>?_
   have k3:∀c o,c≠e->hA.get? c=some o->hC.get? c=some o:=λc o n r=>hs.extBut c o n (kB c o n r)
   have k4:∀c o,c∉[e,z,TI,TO,i1,i2]->s.heap.get? c=some o->hC.get? c=some o:=λc o n r=>k3 c o (λz=>n (by simp[z])) (a7 c o (λz=>n (by simp[z])) (λz=>n (by simp[z])) (λz=>n (by simp[z])) (λz=>n (by simp[z])) r)
   have I1:Inv X pins U H { s with heap:=hC,toks:=tk+1 }:=I.gone (t':=tk+1) hf k4
   have nU:e≠s.heap.objs.size:=O6 el;have nT:e≠hA.objs.size:=O6 (by rw[a6];exact Q0 el)
   have tU:hC.get? s.heap.objs.size=some { cls:=.type "tuple",data:=.seq #[u,u2] }:=k3 _ _ nU.symm a5;have tT:hC.get? hA.objs.size=some { cls:=.type "tuple",data:=.seq #[.int i tk,.ref s.heap.objs.size] }:=hs.extBut _ _ nT.symm tB;have fU:=I.nk (N5 _) (I.hok.fresh (N5 _));have fT:=I.nk (b:=hA.objs.size) (by lia) (I.hok.fresh (by lia))
   have I2:=I1.Ke (a:=s.heap.objs.size) (o:=.tup [x,y]) fU ⟨(by show 2<=sizeLine;decide),[u,u2],.cons ru (.cons ru2 .nil),_,tU,rfl,_,rfl⟩
   have nUT:s.heap.objs.size≠hA.objs.size:=by lia
   have I3:=I2.Ke (a:=hA.objs.size) (o:=.tup [.int i,.ref s.heap.objs.size]) ⟨by rw[ao nUT.symm];exact fT.1,fT.2⟩ ⟨(by show 2<=sizeLine;decide),[.int i tk,.ref s.heap.objs.size],.cons ⟨_,rfl⟩ (.cons rfl .nil),_,tT,rfl,_,rfl⟩
   refine⟨.ref hA.objs.size,_,I3,rfl,⟨_,_,fU.1,fT.1,nUT,rfl,λxs2 ys2 hx2 hy2=>⟨x,y,by rw[I.pP hx2 hq];exact hx,by rw[I.tw hy2 hq2];exact hy,rfl⟩⟩,?_,λc hc=>?_⟩
   .obtain⟨o4,g4,r4⟩:=a4;obtain⟨f0,f1,g1,zf⟩:=a1;exact⟨_,va,vb,hC1,⟨f0,f1,k3 _ _ q.ez.symm g1,zf⟩,k3 _ _ q.eI.symm (a7 _ _ q.D.tz q.D.tt q.D.t1 q.D.t2 h2),k3 _ _ q.eO.symm a2,a3.at λo r=>k3 _ _ q.e1.symm r,⟨o4,k3 _ _ q.e2.symm g4,r4⟩⟩
   .have lt:c<s.heap.objs.size:=by
     simp only[NY,Oa,PR]at hc;obtain⟨_,_,g1,_⟩:=h1;obtain⟨_,g4,_⟩:=h4;obtain⟨_,g5,_⟩:=h5;rcases hc with rfl|rfl|rfl|rfl|rfl|rfl
     .exact el
     .exact N8 g1
     .exact N8 h2
     .exact N8 h3
     .exact N8 g4
     .exact N8 g5
    rw[ao (O6 (by rw[a6];exact Q0 lt)),ao (O6 lt)]
    exact(hf c hc).1
 done:=by
  intro X hP hw hK hc i pins s U H E I hf st hg;subst hP hw hK;obtain⟨xs,ys,hq,hq2,le⟩:=hg;obtain⟨its,rv,p,_⟩:=I.list hq;obtain⟨old,ua,ub,h0,h1,h2,h3,h4,h5⟩:=st;have hd:X.A.in1.in1.handled=none:=I.ok.hd hc;have n1z:i1≠z:=λe=>q.D.z1 (e▸q.D.m1)
  have naz:a≠z:=λe=>q.D.z1 (e▸by simp)
  have lz:=rv.length;refine Ez.D5 (A:=X.A) (J:=λhA=>∀c o,c≠z->c≠i1->s.heap.get? c=some o->hA.get? c=some o) h0 (λQ' E' hJ=>xj n1z (λhB Q E k hE=>?_) h1 h2 λh' e' k he=>hJ _ _ k he) λhA k=>⟨rfl,?_⟩
  .exact wpAny_nextOf_list_end hd (h4.at λo e=>k _ o n1z e) (p.isList.at λo e=>k _ o naz e) (by simp;lia) hE
  exact I.gone (t':=s.toks) hf λb o n r=>k b o (λz=>n (by simp[z])) (λz=>n (by simp[z])) r
 self:=λ_ _ _ _ _ st h=>by
  obtain⟨old,ua,ub,h0,_⟩:=st;exact Qm h0 h
end L2
namespace Ez
open PySem PySem.Spec PyProof.Rows L2
open AutoSeq1 (wpAny_loadPart')
noncomputable abbrev EL (h:Heap)(l1:Addr):Heap:=h.push { cls:=.type "list_iterator",data:=.fields #[.ref l1,.int 0 0] }
noncomputable abbrev EU (h:Heap)(l1 l2:Addr):Heap:=(EL h l1).push { cls:=.type "tuple_iterator",data:=.fields #[.ref l2,.int 0 0] }
noncomputable abbrev EY (h:Heap)(l1 l2:Addr):Heap:=(EU h l1 l2).push { cls:=.type "tuple",data:=.seq #[.ref h.objs.size,.ref (EL h l1).objs.size] }
noncomputable abbrev EJ (h:Heap)(l1 l2:Addr):Heap:=(EY h l1 l2).push { cls:=.type "tuple",data:=.seq #[.none,.none] }
noncomputable abbrev uF (h:Heap)(l1 l2:Addr):Heap:=(EJ h l1 l2).push { cls:=.type "zip",data:=.fields #[.none,.bool false,.bool false,.ref (EU h l1 l2).objs.size,.ref (EY h l1 l2).objs.size] }
def meets_zip_new(l1 l2:Addr)(xs ys:Rz) : Meets (Builtin.«zip.__new__» ⟨[.type "zip",.ref l1,.ref l2],[]⟩) (λ_ R s=>s.heap.IsList l1 xs/\s.heap.IsTuple l2 ys /\ R (.ok (.ret (.ref (EJ s.heap l1 l2).objs.size))) { s with heap:=uF s.heap l1 l2 }):=
 .of_wp λprog w A R s h=>by
  obtain⟨hp,g,d,tk,os⟩:=s;obtain⟨hl1,hl2,h⟩:=h;have hsub:=sub_zip;have hL1:Heap.IsList (Shared.heap ⟨hp,g,d,tk,os⟩) l1 xs:=hl1;have hL2:Heap.IsTuple (Shared.heap ⟨hp.push { cls:=.type "list_iterator",data:=.fields #[.ref l1,.int 0 0] },g,d,tk,os⟩) l2 ys:=by obtain⟨o,ho,r⟩:=hl2;exact⟨o,O1 _ ho,r⟩
  wp_walk using RM hL1,RY hL2
  exact⟨_,rfl,h⟩
def mz(z TI TO:Addr)(f0 f1:Value) : Meets (Builtin.«enumerate.__new__» ⟨[.type "enumerate",.ref z],[]⟩) (λ_ R s=>kQ s.heap z TI TO f0 f1 /\ R (.ok (.ret (.ref s.heap.objs.size))) { s with heap:=s.heap.push { cls:=.type "enumerate",data:=.fields #[.none,.bool false,.ref z,rawInt 0,.none,.none] } }):=
 .of_wp λprog w A R s h=>by
  obtain⟨hp,g,d,tk,os⟩:=s;obtain⟨hz,h⟩:=h;have hsub:=sub_enumerate;have it:∀{A:Around}{Q:Ro}{E:Ro},Q (.ref z) ⟨hp,g,d,tk,os⟩->wpAny (model prog w) A (pyIter (.ref z)) Q E ⟨hp,g,d,tk,os⟩:=λ{A Q E} h=>by have hT:Shared.TypeIs ⟨hp,g,d,tk,os⟩ (.ref z) "zip":=⟨_,hz,rfl⟩;refine wpAny_pyIter_slot hT F.slot_zip_iter (P0 F.slot_zip_iter hT F.entry_zip_iter ?_ (F.args_zip_iter_1 _));show wpAny _ _ (ret (.ref z)) _ _ _;exact N4 ⟨_,rfl,"zip",_,hT,Qy.lookup,h⟩
  wp_walk using Pp hz
  refine wpAny_stack_any λst=>N4 ?_;split
  .rename_i c _ _ _ _ _;cases (c==Value.type "enumerate")
   .wp_walk using Pp hz,it
    exact⟨_,rfl,h⟩
   wp_walk using Pp hz,it
   exact⟨_,rfl,h⟩
  wp_walk using Pp hz,it
  exact⟨_,rfl,h⟩
section
variable{prog:Program}{w:World}{A:Around}{E:Ro}{s:Shared}
def zC{l1 l2:Addr}(hl1:s.heap.IsList l1 xs)(hl2:s.heap.IsTuple l2 ys)(h:∀h',kQ h' (s.heap.objs.size+4) (s.heap.objs.size+2) (s.heap.objs.size+3) .none (.bool false)->IsPair h' (s.heap.objs.size+2) (.ref s.heap.objs.size) (.ref (s.heap.objs.size+1))-> IsPair h' (s.heap.objs.size+3) .none .none->h'.IsListIter s.heap.objs.size l1 0->h'.IsTupleIter (s.heap.objs.size+1) l2 0->h'.objs.size=s.heap.objs.size+5-> (∀c o,s.heap.get? c=some o->h'.get? c=some o)->Q (.ref (s.heap.objs.size+4)) { s with heap:=h' }) : wpAny (model prog w) A (call (.type "zip") [.ref l1,.ref l2]) Q E s:=by
 refine callType_new F.called_zip (by decide) (F.typeCall_zip_2 _ _) (F.newCall_zip_2 _ _) (λobj=>F.args_object_init_3 obj _ _) F.entry_zip_new
  (meets_zip_new l1 l2 xs ys) ⟨hl1,hl2,?_⟩
 have z1:(EL s.heap l1).objs.size=s.heap.objs.size+1:=Ot ..;have z2:(EU s.heap l1 l2).objs.size=s.heap.objs.size+2:=by rw[Ot,z1]
 have z3:(EY s.heap l1 l2).objs.size=s.heap.objs.size+3:=by rw[Ot,z2]
 have z4:(EJ s.heap l1 l2).objs.size=s.heap.objs.size+4:=by rw[Ot,z3]
 have z5:(uF s.heap l1 l2).objs.size=s.heap.objs.size+5:=by rw[Ot,z4]
 have p:∀{h:Heap}{o u:Obj}{c:Addr},h.get? c=some u->(h.push o).get? c=some u:=λe=>O1 _ e;have g5:(uF s.heap l1 l2).get? (EJ s.heap l1 l2).objs.size=some _:=OC _ rfl;have g4:(uF s.heap l1 l2).get? (EY s.heap l1 l2).objs.size=some _:=p (OC _ rfl);have g3:(uF s.heap l1 l2).get? (EU s.heap l1 l2).objs.size=some _:=p (p (OC _ rfl));have g2:(uF s.heap l1 l2).get? (EL s.heap l1).objs.size=some _:=p (p (p (OC _ rfl)));have g1:(uF s.heap l1 l2).get? s.heap.objs.size=some _:=p (p (p (p (OC _ rfl))));show _/\_;rw[z2,z3,z4]at g5;rw[z1,z2]at g3;rw[z3]at g4;rw[z1]at g2;rw[z4];exact⟨⟨_,g5,rfl⟩,h _ g5 g3 g4 ⟨_,g1,rfl,rfl⟩ ⟨_,g2,rfl,rfl⟩ z5 λc o x=>p (p (p (p (p x))))⟩
def Ai{z TI TO:Addr}(hz:kQ s.heap z TI TO f0 f1)(h:∀h',IsEnum h' s.heap.objs.size z 0 .none->h'.objs.size=s.heap.objs.size+1->(∀b o,s.heap.get? b=some o->h'.get? b=some o)->Q (.ref s.heap.objs.size) { s with heap:=h' }) : wpAny (model prog w) A (call (.type "enumerate") [.ref z]) Q E s:=by
 refine callType_new F.called_enumerate (by decide) (F.typeCall_enumerate_1 _) (F.newCall_enumerate_1 _) (λobj=>F.args_object_init_2 obj _) F.entry_enumerate_new
  (mz z TI TO f0 f1) ⟨hz,?_⟩
 have he:IsEnum (s.heap.push { cls:=.type "enumerate",data:=.fields #[.none,.bool false,.ref z,rawInt 0,.none,.none] }) s.heap.objs.size z 0 .none:=OC _ rfl;exact⟨⟨_,he,rfl⟩,h _ he (Ot ..) λb o x=>O1 _ x⟩
end
end Ez
namespace L2
open PySem PySem.Spec PyProof.Rows
def KY{n a b:Addr}(la:a<n)(lb:b<n):Qd (n+5) (n+4) (n+2) (n+3) n (n+1) a b:=by
 replace la:@LT.lt Nat _ a n:=la;replace lb:@LT.lt Nat _ b n:=lb;refine⟨⟨?_,?_,?_,?_,?_,?_,?_,?_,?_,?_,?_,?_,?_⟩,?_,?_,?_,?_,?_,?_,?_,?_,?_⟩<;>(try simp only[NY,Oa,PR,true_or]) <;>
  first|exact O6 (by lia)|exact P7 (by lia)|(rintro (h|h)<;>first|exact absurd h (O6 (by lia))|exact absurd h (P7 (by lia)))
section
variable{X:Cx}
inductive Kv(K:Rx)(R:(It->Hp->Prop))(vs:List V)(H1:Hp):Prop
 |mk:∀a b,(vs=[.ref a,.ref b])->((∃xs,bX K H1 a xs))->((∃ys,aU K H1 b ys))->(R (IE K a b) H1)->Kv K R vs H1
noncomputable def yo (K:Rx)(ta:TA):TI:=λU H R=>ta U H λvs H1=>Kv K R vs H1
def K2{x1:Nat}(hge:Gl X "enumerate")(hme:X.mg "enumerate"=none)(hg:Gl X "zip")(hm:X.mg "zip"=none)(ha:PA X [e1,e2] ta)(hs:starEach [e1,e2] X.env=[(false,eval e1 X.env),(false,eval e2 X.env)]:=by rfl)(hs2:starEach [e2] X.env=[(false,eval e2 X.env)]:=by rfl) : PI X (.Tuple elts x1 tp) (.Call (.Name "enumerate" p) [.Call (.Name "zip" p2) [e1,e2] [] pos2] [] pos) (yo X.K ta):=by
 intro pins s U H R I h;refine Call_ (jk I hge hme boot_enumerate (Po ?_ rfl rfl));show wpAny _ _ (spliced ((false,eval (.Call (.Name "zip" p2) [e1,e2] [] pos2) X.env)::backTo pos [])) _ _ s;refine Calls.spliced_cons ?_;refine Call_ (jk I hg hm PyProof.Rows.boot_zip (Po (aQ (ha pos2 pins s U H _ I h) λus s1 ⟨vs,H1,I1,r1,q1⟩=>?_) (by rw[hs,hs2]) (by rw[hs2];rfl)));obtain⟨a,b,ev,⟨xs,hq⟩,⟨ys,hq2⟩,q⟩:=q1;subst ev;obtain⟨u1,u2,rfl,ru1,ru2⟩:=r1.two;cases ru1;cases ru2;obtain⟨its,rv,pl,_⟩:=I1.list hq;obtain⟨its2,rv2,pl2,_⟩:=I1.tuple hq2;have la:a<s1.heap.objs.size:=by obtain⟨o,ho,_⟩:=pl.isList;exact N8 ho
 have lb:b<s1.heap.objs.size:=by obtain⟨o,ho,_⟩:=pl2;exact N8 ho
 refine Ez.zC pl.isList pl2 λhA hz h2 h3 h4 h5 hsz hk=>Calls.spliced_nil ?_;refine Ez.Ai hz λhB he hsz2 hk2=>?_;refine Qm he ?_;have hk3:∀c o,s1.heap.get? c=some o->hB.get? c=some o:=λc o e=>hk2 _ _ (hk _ _ e);have I2:Inv X pins U H1 { s1 with heap:=hB }:=I1.kept (t':=s1.toks) hk3;have eB:({ s1 with heap:=hA }:Shared).heap.objs.size=s1.heap.objs.size+5:=hsz;rw[eB]at he⊢;have D:Qd (s1.heap.objs.size+5) (s1.heap.objs.size+4) (s1.heap.objs.size+2) (s1.heap.objs.size+3) s1.heap.objs.size (s1.heap.objs.size+1) a b:=KY la lb;refine⟨_,_,_,_,H1,rfl,I2,G3 D,⟨_,_,_,he,⟨_,_,hk2 _ _ hz,.no _⟩,hk2 _ _ h2,hk2 _ _ h3,h4.at λo e=>hk2 _ o e,?_⟩,λc hc=>?_,q⟩;{obtain⟨o,ho,r⟩:=h5;exact⟨o,hk2 _ _ ho,r⟩};have hb:s1.heap.objs.size<=c:=by simp only[NY,Oa,PR]at hc;rcases hc with rfl|rfl|rfl|rfl|rfl|rfl;{exact Q4 _ _};{exact Q4 _ _};{exact Q4 _ _};{exact Q4 _ _};{exact N5 _};exact Q4 _ _
 exact I1.nk hb (I1.hok.fresh hb)
end
end L2
namespace Dv
open PySem L2 PySem.Spec PyProof.Rows PySem.W
noncomputable def EO (v:PyData)(Q:SA->Prop):Prop:=match v with
 |.tuple xs=>Q xs
 |_=>False
def Kw:(∃b,v=.tuple b/\Q b)=EO v Q:=by
 cases v with
 |tuple b=>exact propext ⟨λ⟨c,e,q⟩=>by cases e;exact q,λh=>⟨b,rfl,h⟩⟩
 |_=>exact propext ⟨λ⟨c,e,_⟩=>(by cases e),λh=>h.elim⟩
noncomputable def qd (ds es:SA):SA:=(ds.zip es).map λp=>.tuple [p.1,p.2]
noncomputable def yo (a b:DE):DI:=λx E Q=>a x E λE1 k v=>bK k.fz (b x E1 λE2 k2 v2=>bK k2.fz (m6 v λds=>EO v2 λes=>ds.length=es.length/\Q E2 (d8 (qd ds es))))
def Fe:yo a b x (o::E) Q=a x (o::E) λE1 k v=>bK k.fz (b x E1 λE2 k2 v2=>bK k2.fz (m6 v λds=>EO v2 λes=>ds.length=es.length/\Q E2 (d8 (qd ds es)))):=rfl
def Ej:EO (.tuple xs) Q=Q xs:=rfl
def yj{i:Nat}:cI (.nt i is) (.tuple [d,.tuple ds]) E=bu (i::is) (d::ds) E:=rfl
def we{K:Frag}{H:Hp}{x:V}{ds:SA}(h:Rp K H x (.tuple ds)):∃a xs,x=.ref a/\H a=some (.tup xs)/\av K H xs ds:=by
 cases h with
 |tup e r=>exact⟨_,_,rfl,e,r⟩
section
variable{K:Frag}{dF:Hp}
def Jh{a b:Addr}(h:cu K dF a xs)(h2:dF b=some (.tup ys))(r:av K dF xs ds)(r2:av K dF ys es)(le:ds.length=es.length):vU K (IE K a b) (d8 (qd ds es)) dF:=by
 intro i H Hm s1 s2;have q:bX K H a xs:=(cu.mono (s1.trans s2) h).sq;have q2:aU K H b ys:=aU.of ((s1.trans s2) _ _ h2);have l1:=r.len;have l2:=r2.len;have lz:(d8 (qd ds es)).length=ds.length:=by rw[tH];unfold qd;rw[NS,List.length_zip];lia
 refine⟨λd e=>?_,λl=>?_⟩
 .obtain⟨d0,e0,rfl⟩:=sX e;obtain⟨d1,d2,e1,e2,rfl⟩:=Dp e0;obtain⟨v1,f1,g1⟩:=r.get e1;obtain⟨v2,f2,g2⟩:=r2.get e2;refine⟨⟨xs,ys,v1,v2,q,q2,by lia,f1,f2⟩,λx H' y=>?_⟩;obtain⟨SR,T,hU,hT,nUT,rfl,y⟩:=y;obtain⟨x1,z1,hx,hz2,rfl⟩:=y xs ys q q2;rw[f1]at hx;cases hx;rw[f2]at hz2;cases hz2;obtain⟨Hm1,a1,a2,a3,a4,a5⟩:=qi s2 hU (g1.mono s1) (g2.mono s1);obtain⟨Hm2,b1,b2,b3,b4,b5⟩:=qi a2 (by rw[ao nUT.symm];exact hT) (.int i) a5;refine⟨Hm2,a1.trans b1,b2,a3.trans b3,λc hc=>?_,b5⟩;have hc':upd H SR (.tup [v1,v2]) c≠none:=by
   cases e:H c with
   |none=>exact absurd e hc
   |some o=>rw[a3 _ _ e];exact λz=>nomatch z
  exact(b4 c hc').trans (a4 c hc)
 exact⟨xs,ys,q,q2,by lia⟩
end
section
variable{X:Cx}{Ex:XK}{Y:SN}{e1 e2:Expr}{elts:SK}{d1 d2:DE}
def Lk{x1:Nat}{p p2 pos pos2 tp:Pos}(hge:Gl X "enumerate")(hme:X.mg "enumerate"=none)(hg:Gl X "zip")(hm:X.mg "zip"=none)(ns:noStar e1=true)(ns2:noStar e2=true)(h1:SE X Ex Y e1 d1)(h2:SE X Ex Y e2 d2):SI X Ex Y (.Tuple elts x1 tp) (.Call (.Name "enumerate" p) [.Call (.Name "zip" p2) [e1,e2] [] pos2] [] pos) (yo d1 d2):=by refine⟨_,K2 hge hme hg hm (dM (es:=[e1,e2]) (by rw[NW,NW,ns,ns2];rfl)) ((bz ns).trans (by rw[bz ns2];rfl)) (bz ns2),λg x E U H Hm F P R hx Rl p q=>?_⟩;refine h1 g x E U H Hm F _ _ hx Rl p λE1 k v u H1 Hm1 F1 fp p1 R1 s1 T=>?_;replace p1:bK k.fz _:=p1;rw[cZ]at p1;obtain⟨hk,p1⟩:=p1;obtain⟨Hm2,s2,R2,r2⟩:=T.dZ R1 hk;refine h2 g x E1 U H1 Hm2 F1 _ _ hx R2 p1 λE3 k3 v3 u3 H3 Hm3 F3 fp3 p3 R3 s3 T3=>?_;replace p3:bK k3.fz _:=p3;rw[cZ,<-y9]at p3;obtain⟨hk3,ds,rfl,p3⟩:=p3;rw[<-Kw]at p3;obtain⟨es,rfl,le,p3⟩:=p3;obtain⟨Hm4,s4,R4,r4⟩:=T3.dZ R3 hk3;have r2':=r2.mono (s3.trans s4);obtain⟨a,xs,rfl,ha,ra⟩:=iK r2';obtain⟨b,ys,rfl,hb,rb⟩:=we r4;exact⟨a,b,rfl,⟨xs,(cu.mono R4.sub ha).sq⟩,⟨ys,aU.of (R4.sub _ _ hb)⟩,q _ _ _ _ _ _ p3 R4 (s1.trans (s2.trans (s3.trans s4))) (Jh ha hb ra rb le)⟩
def JV{x1:Nat}(hme:X.mg "enumerate"=none)(hm:X.mg "zip"=none)(h:SE X Ex Y e1 d1)(h2:SE X Ex Y e2 d2)(hge:Gl X "enumerate":=by rfl)(hg:Gl X "zip":=by rfl)(ns:noStar e1=true:=by rfl)(ns2:noStar e2=true:=by rfl):SI X Ex Y (.Tuple elts x1 tp) (.Call (.Name "enumerate" p) [.Call (.Name "zip" p2) [e1,e2] [] pos2] [] pos) (yo d1 d2):=Lk hge hme hg hm ns ns2 h h2
noncomputable def zq (a:DE) (n:Nat):DE:=λx E Q=>a x E λE1 k v=>bK k.fz (m6 v λds=>∃(k':Kd)(d:PyData) (j:Nat),E1[n]?=some (some (k',d))/\k'.rd=true/\ds.all (dl 8)=true/\dl 8 d=true/\ds[j]?=some d/\(∀(m:Nat) e,m<j->ds[m]?=some e->e≠d)/\Q E1 .sh (.int j))
def ye{n:Nat}:zq a n x (o::E) Q=a x (o::E) λE1 k v=>bK k.fz (m6 v λds=>∃(k':Kd)(d:PyData) (j:Nat),E1[n]?=some (some (k',d))/\k'.rd=true/\ds.all (dl 8)=true/\dl 8 d=true/\ds[j]?=some d/\(∀(m:Nat) e,m<j->ds[m]?=some e->e≠d)/\Q E1 .sh (.int j)):=rfl
def LA(jn:Nat){n:Nat}(hu:X.A.units+64<cLine)(h:SE X Ex Y a da)(hNn:X.N[jn]?=some y:=by rfl)(hvn:mX X.env.scope y:=by first|exact Or.inl rfl|exact Or.inr (Or.inl rfl)|exact Or.inr (Or.inr rfl))(hjn:Y[jn]?=some n:=by rfl)(hb:attributeBase a "index" X.env (eval a X.env)=eval a X.env:=by rfl)(hline:(apos.endLine==cpos.line)=true:=by rfl)(b3:(y==("__debug__":Str))=false:=by decide)(b4:(y==("__classdict__":Str))=false:=by decide) : SE X Ex Y (.Call (.Attribute a "index" apos) [.Name y yp] [] cpos) (zq da n):=by intro g xc E U H Hm F P Q hx R p q;refine WE.of (zD Qn PySem.F.slot_list_index PySem.F.type_list_index (B0 hu) bC (jK (iu hNn hvn b3 b4) nW) hb rfl hline rfl rfl) ?_;refine h g xc E U H Hm F _ _ hx R p λE1 k v u H1 Hm1 F1 fp p1 R1 s1 T=>?_;replace p1:bK k.fz _:=p1;rw[cZ,<-y9]at p1;obtain⟨hk,ds,rfl,k',d,j,e2,hk',la,ld,hm,hno,pq⟩:=p1;obtain⟨Hm2,s2,R2,r2⟩:=T.dZ R1 hk;obtain⟨a,xs,rfl,ha,rx⟩:=iK r2;obtain⟨u,h2,o2⟩:=R2.slot n _ _ e2;have ru:Rp X.K H1 u d:=o2.rp hk' R2.sub λ_ _=>rfl;have ha':=cu.mono R2.sub ha;refine⟨.inl ⟨rfl,_,ha'.sq⟩,_,fN hjn h2,?_⟩;exact⟨a,u,xs,ds,d,j,rfl,rfl,ha',ru.oZ (i8 ld),(rx.mono R2.sub).oZ (lV λd hd=>i8 (N7.mp la d hd)),la,ld,hm,hno,q _ _ _ _ _ _ _ [] pq R2 (s1.trans s2) (Tm.sh (.int _))⟩
end
end Dv
namespace Dv
open PySem L2 PySem.W
noncomputable def BS (k:Kd)(v:PyData)(Q:SA->Prop):Prop:=match k,v with
 |.ow _,.list es=>Q es
 |_,_=>False
noncomputable def wM (as:List Arg)(us:SA)(E:En)(k:Kd)(v:PyData):Option En:=cW ((cK as).all (gQ E)||(flat k v&&us.all (flat (.ow false)))) (some E) (gj (cK as) E)
noncomputable def lU (sp:bM)(as1:List Arg)(d0:DE)(as2 as:List Arg):DE:=λx E Q=>gE as1 x E λE1 os1=>d0 x E1 λE2 k v=>BS k v λes=>gE as2 x E2 λE3 os2=>au (cy as1 E3 os1) λds1=>au (cy as2 E3 os2) λds2=>sp (ds1++.list es::ds2) (λus k v=>au (wM as us E3 k v) λE4=>Q E4 k v) x
def CV:lU sp as1 d0 as2 as x (o::E) Q=gE as1 x (o::E) λE1 os1=>d0 x E1 λE2 k v=>BS k v λes=>gE as2 x E2 λE3 os2=>au (cy as1 E3 os1) λds1=>au (cy as2 E3 os2) λds2=>sp (ds1++.list es::ds2) (λus k v=>au (wM as us E3 k v) λE4=>Q E4 k v) x:=rfl
def Lz{p:Bool}:BS (.ow p) (.list es) Q=Q es:=rfl
def HE:wM as us (o::E) k v=cW ((cK as).all (gQ (o::E))||(flat k v&&us.all (flat (.ow false)))) (some (o::E)) (gj (cK as) (o::E)):=rfl
def Lg(h:BS k v Q):∃p es,k=.ow p/\v=.list es/\Q es:=by unfold BS at h;split at h;{exact⟨_,_,rfl,rfl,h⟩};exact h.elim
section
variable{K:Frag}
theorem Got.mono{U:St}{Hm Hm':Hp}{as:List Arg}{os:List (Option PyData)}{vs:List V}(s:ah Hm Hm')(G:Got K U Hm as os vs):Got K U Hm' as os vs:=by
 induction G with
 |nil=>exact .nil
 |pk h _ ih=>exact .pk h ih
 |ev r _ ih=>exact .ev (r.mono s) ih
def Ct(h:Ag K H Hm ms vs2 ds2 as):av K Hm vs1 ds1->Ag K H Hm (List.replicate vs1.length false++ms) (vs1++vs2) (ds1++ds2) as:=by
 induction ds1 generalizing vs1 with
 |nil=>intro r;cases r;exact h
 |cons d ds ih=>intro r;cases r with|cons a b=>exact .sh a (ih b)
def JW(r:av K Hm vs ds):Ag K H Hm (List.replicate vs.length false) vs ds []:=by have h:=Ct (Ag.nil (K:=K) (H:=H) (Hm:=Hm)) r;rwa[OV,OV,OV]at h
def yQ{U:St}{Hm:Hp}{as:List Arg}{os:List (Option PyData)}{vs:List V}(G:Got K U Hm as os vs):vs.length=as.length:=by
 induction G with
 |nil=>rfl
 |pk _ _ ih=>exact congrArg (·+1) ih
 |ev _ _ ih=>exact congrArg (·+1) ih
noncomputable def Gh.put (g:Gh)(a:Addr)(o:HO):Gh:={ H0:=upd g.H0 a o,dF:=λb=>if b=a then none else g.dF b,pins:=g.pins }
def Rl.beside{F:Nat->SH}{a:Addr}(R:Rl K g E U H Hm F)(ha:H a=some o)(hm:Hm a=none)(nf:∀i,a∉F i)(h0:g.H0 a=none):Rl K (g.put a o) E U H Hm F where
 len:=R.len
 sub:=R.sub
 slot:=R.slot
 off:=R.off
 bB:=R.bB
 aL:=R.aL
 fr:=λp u hp hu=>by
  by_cases c:p=a
  .subst c
   replace hu:upd g.H0 p o p=some u:=hu
   rw[aG]at hu;cases hu;exact ha
  .replace hu:upd g.H0 a o p=some u:=hu
   rw[ao c]at hu;exact R.fr p u hp hu
 new:=λi b hb=>by
  rcases R.new i b hb with z|z
  .exact .inl z
  .exact .inr ((ao λy=>nf i (by rw[<-y];exact hb)).trans z)
 pin:=R.pin
 old:=λb hb=>by
  show OE (Hm b) (if b=a then none else g.dF b)
  by_cases c:b=a
  .rw[if_pos c,c,hm];exact .rfl'
  .rw[if_neg c];exact R.old b (by replace hb:upd g.H0 a o b≠none:=hb;rwa[ao c]at hb)
def Rl.Gi{F:Nat->SH}{a:Addr}(R:Rl K (g.put a (.lst xs)) E U H Hm F)(nM:a∉g.M)(h0:g.H0 a=none) : H a=some (.lst xs)/\Hm a=none/\(∀i,a∉F i)/\Rl K g E U (λb=>if b=a then none else H b) Hm F:=by
 have ha:H a=some (.lst xs):=R.fr a _ nM aG;have hm:Hm a=none:=by have h:=R.old a (by show upd g.H0 a (.lst xs) a≠none;rw[aG];exact λz=>nomatch z);refine h.off ?_ R.sub ha kJ;show(if a=a then none else g.dF a)=none;exact if_pos rfl
 have nf:∀i,a∉F i:=λi z=>by rcases R.new i a z with y|y;{exact nM y};replace y:upd g.H0 a (.lst xs) a=none:=y;rw[aG]at y;cases y
 have nF:∀{i b},b∈F i->b≠a:=λh z=>nf _ (z▸h);refine⟨ha,hm,nf,{ len:=R.len,sub:=λb o e=>?_,slot:=λi k d e=>?_,off:=R.off,bB:=λi b hb=>?_,aL:=R.aL,fr:=λp u hp hu=>?_,new:=λi b hb=>?_,pin:=R.pin,old:=λb hb=>?_ }⟩;{show(if b=a then none else H b)=some o;rw[if_neg λz=>by rw[z,hm]at e;cases e];exact R.sub b o e};{obtain⟨v,h1,h2⟩:=R.slot i k d e;exact⟨v,h1,h2.step (ah.refl _) λb hb=>if_neg (nF hb)⟩};{obtain⟨u,hu,nt⟩:=R.bB i b hb;exact⟨u,(if_neg (nF hb)).trans hu,nt⟩}
 .have c:p≠a:=λz=>by rw[z,h0]at hu;cases hu
  exact(if_neg c).trans (R.fr p u hp ((ao c).trans hu))
 .rcases R.new i b hb with z|z;{exact .inl z};exact .inr ((ao (nF hb)).symm.trans z)
 have c:b≠a:=λz=>hb (by rw[z,h0]);have h:=R.old b (by show upd g.H0 a (.lst xs) b≠none;rwa[ao c]);have e:(g.put a (.lst xs)).dF b=g.dF b:=if_neg c;rwa[e]at h
end
section
variable{X:Cx}{Ex:XK}{Y:SN}
def GK(h:nV X es1 U H λvs1 H1=>nV X es2 U H1 λvs2 H2=>Q (vs1++vs2) H2):nV X (es1++es2) U H Q:=by
 induction es1 generalizing H Q with
 |nil=>exact h
 |cons e es ih=>exact λpins s I=>aQ (h pins s I) λv s1 ⟨y,H1,I1,r1,w⟩=>⟨y,H1,I1,r1,ih w⟩
def C9{x:Str}{k:Nat}{ps:SQ}{sp:bM}{p pos:Pos}{e0:Expr}{es1 es2:SK}{d0:DE}{as1 as2:List Arg}(F:bU X.prog X.w X.K X.mg X.base k x ps (b9 X.mg X.K (List.replicate es1.length false++true::List.replicate es2.length false) sp))(hp:Passes (eN X.prog X.w) X Ex)(hr:dD k X.A)(hg:Gl X x)(hd:(x==("__debug__":Str))=false){e:Expr}{es:SK}(hes:e::es=es1++e0::es2)(ns:(e::es).all noStar=true)(S1:aM X Ex Y es1 as1)(S0:SE X Ex Y e0 d0)(S2:aM X Ex Y es2 as2):SE X Ex Y (.Call (.Name x p) (e::es) [] pos) (lU sp as1 d0 as2 (as1++as2)):=by
 intro g xc E U H Hm Fo P Q hx R h q;obtain⟨f,fd,h1,h2,h3,h4⟩:=F;refine WE.of (yx (E:=Ex) h4 hr hg h1 h2 h3 .nil hp (dM ns) hd (bz (by rw[NW,N9]at ns;exact ns.1)) (gk (by rw[NW,N9]at ns;exact ns.2))) ?_;rw[hes];refine GK ?_;refine jj hx S1 R h λE1 os1 vs1 H1 Hm1 F1 p1 R1 s1 G1=>?_;refine S0 g xc E1 U H1 Hm1 F1 _ _ hx R1 p1 λE2 k v u H2 Hm2 F2 fp p2 R2 s2 T=>?_;obtain⟨b,es',rfl,rfl,p2⟩:=Lg p2;obtain⟨own,toff,tdis,tnew⟩:=T;cases own with
 |@ow _ a xs _ ha hxs=>
 have hm:=toff a N6;have nf:=tdis a N6;have h0:=tnew a N6;have nM:a∉g.M:=λz=>by obtain⟨y,hy,rfl⟩:=NT.mp z;exact nf y.1 (by rw[R2.vI hy];exact N6)
 have hx':XL X Ex xc (g.put a (.lst xs)):=λc d C b H' hC hxc fr hb hn=>by
  replace hn:upd g.H0 a (.lst xs) b=none:=hn;have nb:b≠a:=λz=>by rw[z,aG]at hn;cases hn
  exact hx c d C b H' hC hxc (λp o hp ho=>fr p o hp (by
   show upd g.H0 a (.lst xs) p=some o;rw[ao λz=>by rw[z,h0]at ho;cases ho];exact ho)) hb (by rwa[ao nb]at hn)
 refine jj hx' S2 (R2.beside ha hm nf h0) p2 λE3 os2 vs2 H3 Hm3 F3 p3 R3 s3 G2=>?_;obtain⟨ha3,hm3,nf3,R4⟩:=R3.Gi nM h0;rw[<-aY,dR]at p3;obtain⟨ds1,f1,p3⟩:=p3;rw[<-aY,dR]at p3;obtain⟨ds2,f2,p3⟩:=p3;have off:∀c∈(cK (as1++as2)).flatMap F3,Hm3 c=none:=λc hc=>by obtain⟨i,_,h⟩:=OG.mp hc;exact R4.off i c h
 have up:=gO (Hm:=Hm3) (H:=λb=>if b=a then none else H3 b) off;have pin:∀(as:List Arg),(∀i∈cK as,i∈cK (as1++as2))->∀i∈cK as,∀c∈F3 i,lend Hm3 (λb=>if b=a then none else H3 b) ((cK (as1++as2)).flatMap F3) c=(if c=a then none else H3 c):=λas hs i hi c hc=>eo (OG.mpr ⟨i,hs i hi,hc⟩);have pk1:∀{as bs:List Arg}{i:Nat},i∈cK as->i∈cK (as++bs):=by
  intro as bs i;induction as with
  |nil=>intro h;cases h
  |cons y as ih=>
   cases y with
   |pk j=>intro h;rcases NY.mp h with rfl|h;{exact N6};exact NX _ (ih h)
   |ev d=>exact ih
 have pk2:∀{as bs:List Arg}{i:Nat},i∈cK bs->i∈cK (as++bs):=by
  intro as bs i;induction as with
  |nil=>exact id
  |cons y as ih=>
   cases y with
   |pk j=>exact λh=>NX _ (ih h)
   |ev d=>exact ih
 have r1:=lJ R4 up (G1.mono (s2.trans s3)) f1 (pin _ λ_=>pk1);have r2:=lJ R4 up G2 f2 (pin _ λ_=>pk2);have lo:lend Hm3 (λb=>if b=a then none else H3 b) ((cK (as1++as2)).flatMap F3) a=none:=by
  rw[cM λz=>by
   obtain⟨i,_,h⟩:=OG.mp z;exact nf3 i h]
  exact hm3
 have sb:ah (lend Hm3 (λb=>if b=a then none else H3 b) ((cK (as1++as2)).flatMap F3)) H3:=λc o e=>by have e2:=iS R4.sub c o e;replace e2:(if c=a then none else H3 c)=some o:=e2;split at e2;{cases e2};exact e2
 have l1:vs1.length=es1.length:=by
  have:∀{es:SK}{as:List Arg},aM X Ex Y es as->es.length=as.length:=λS=>by
   induction S with
   |nil=>rfl
   |pk _ _ _ ih=>exact congrArg (·+1) ih
   |ev _ _ ih=>exact congrArg (·+1) ih
  rw[yQ G1,this S1]
 have l2:vs2.length=es2.length:=by
  have:∀{es:SK}{as:List Arg},aM X Ex Y es as->es.length=as.length:=λS=>by
   induction S with
   |nil=>rfl
   |pk _ _ _ ih=>exact congrArg (·+1) ih
   |ev _ _ ih=>exact congrArg (·+1) ih
  rw[yQ G2,this S2]
 have ag:Ag X.K H3 (lend Hm3 (λb=>if b=a then none else H3 b) ((cK (as1++as2)).flatMap F3)) (List.replicate vs1.length false++true::List.replicate vs2.length false) (vs1++.ref a::vs2) (ds1++.list es'::ds2) [a]:=Ct (.mu ha3 (((hxs.mono s3).mono up)) lo (by simp) (JW r2)) r1;rw[l1,l2]at ag;show b9 X.mg X.K _ sp ((vs1++.ref a::vs2)++[]) H3 Q Ex;rw[OV];refine⟨_,_,_,_,xc,sb,ag,p3,λus k r u H' Hm' fp p4 sM sS fr old bk o new=>?_,λc d C b H' hC hxc fr hb hn=>?_⟩
 .replace p4:au (wM (as1++as2) us E3 k r) λE4=>P E4 k r:=p4;rw[<-aY]at p4;obtain⟨E4,hE,p4⟩:=p4;unfold wM at hE;rw[bT,mQ]at hE;have hn:∀{c},(if c=a then none else H3 c)≠none->c≠a/\H3 c≠none:=λ{c} h=>by by_cases z:c=a;{rw[if_pos z]at h;exact absurd rfl h};rw[if_neg z]at h;exact⟨z,h⟩
  obtain⟨Hm'',F'',R'',s'',T⟩:=qV R4 (E2:=E3) (E3:=E4) (is:=cK (as1++as2)) (ix:=[]) (us:=us) (λ_ z=>nomatch z) (λ_ z=>nomatch z) rfl (λ_ _=>rfl) (λ_ z=>nomatch z) (qL hE) sM sS
   (λp w hp hw=>fr p w (λz=>by rw[NV.mp z,if_pos rfl]at hw;cases hw) (by
    by_cases z:p=a
    .rw[if_pos z]at hw;cases hw
    .rw[if_neg z]at hw;exact hw)) (λc _ hc=>old c (λz=>(hn hc).1 (NV.mp z)) (hn hc).2) o (λc hc=>by
     obtain⟨n1,n2⟩:=new c hc;exact⟨by show(if c=a then none else H3 c)=none;rw[n1];split<;>rfl,n2⟩)
  exact q _ _ _ _ _ _ _ _ p4 R'' (s1.trans (s2.trans (s3.trans s''))) T
 refine hx c d C b H' hC hxc (λp o hp ho=>fr p o (λz=>?_) (R3.fr p o hp ?_)) hb ?_;{rw[NV.mp z,h0]at ho;cases ho};{show upd g.H0 a (.lst xs) p=some o;rw[ao λz=>by rw[z,h0]at ho;cases ho];exact ho};have n:=R3.ir hn;replace n:upd g.H0 a (.lst xs) b=none:=n;rwa[ao λz=>by rw[z,ha3]at hn;cases hn]at n
def vD{k k':Nat}{x:Str}{ps:SQ}{sp:bM}{p pos:Pos}{e0 e:Expr}{es es1 es2:SK}{d0:DE}{as1 as2:List Arg}{ms:SJ}(F:bU X.prog X.w X.K X.mg X.base k x ps (b9 X.mg X.K ms sp))(hp:Passes (eN X.prog X.w) X Ex)(hr:dD k' X.A)(S1:aM X Ex Y es1 as1)(S0:SE X Ex Y e0 d0)(S2:aM X Ex Y es2 as2)(hes:e::es=es1++e0::es2:=by rfl)(hms:ms=List.replicate es1.length false++true::List.replicate es2.length false:=by rfl){as:List Arg}(ha:as=as1++as2:=by rfl)(hk:k<=k':=by decide)(hg:Gl X x:=by rfl)(hd:(x==("__debug__":Str))=false:=by decide)(ns:(e::es).all noStar=true:=by rfl) : SE X Ex Y (.Call (.Name x p) (e::es) [] pos) (lU sp as1 d0 as2 as):=by subst hms ha;exact C9 F hp (hr.mono hk) hg hd hes ns S1 S0 S2
end
end Dv
namespace Dv
inductive Cj{A0 A1:Type}(P:A0->A1->Prop):Prop
 |mk (a0:A0)(a1:A1)(h:P a0 a1):Cj P
inductive Eg{A0 A1 A2:Type}(P:A0->A1->A2->Prop):Prop
 |mk (a0:A0)(a1:A1)(a2:A2)(h:P a0 a1 a2):Eg P
inductive BN{A0 A1 A2 A3:Type}(P:A0->A1->A2->A3->Prop):Prop
 |mk (a0:A0)(a1:A1)(a2:A2)(a3:A3)(h:P a0 a1 a2 a3):BN P
inductive rC{A0 A1 A2 A3 A4:Type}(P:A0->A1->A2->A3->A4->Prop):Prop
 |mk (a0:A0)(a1:A1)(a2:A2)(a3:A3)(a4:A4)(h:P a0 a1 a2 a3 a4):rC P
inductive Mr{A0 A1 A2 A3 A4 A5:Type}(P:A0->A1->A2->A3->A4->A5->Prop):Prop
 |mk (a0:A0)(a1:A1)(a2:A2)(a3:A3)(a4:A4)(a5:A5)(h:P a0 a1 a2 a3 a4 a5):Mr P
inductive LZ{A0 A1 A2 A3 A4 A5 A6 A7:Type}(P:A0->A1->A2->A3->A4->A5->A6->A7->Prop):Prop
 |mk (a0:A0)(a1:A1)(a2:A2)(a3:A3)(a4:A4)(a5:A5)(a6:A6)(a7:A7)(h:P a0 a1 a2 a3 a4 a5 a6 a7):LZ P
inductive Mf(p0 p1:Prop):Prop
 |mk (h0:p0)(h1:p1):Mf p0 p1
inductive AD(p0 p1 p2:Prop):Prop
 |mk (h0:p0)(h1:p1)(h2:p2):AD p0 p1 p2
inductive yC(p0 p1 p2 p3:Prop):Prop
 |mk (h0:p0)(h1:p1)(h2:p2)(h3:p3):yC p0 p1 p2 p3
inductive ET(p0 p1 p2 p3 p4:Prop):Prop
 |mk (h0:p0)(h1:p1)(h2:p2)(h3:p3)(h4:p4):ET p0 p1 p2 p3 p4
inductive FG(p0 p1 p2 p3 p4 p5:Prop):Prop
 |mk (h0:p0)(h1:p1)(h2:p2)(h3:p3)(h4:p4)(h5:p5):FG p0 p1 p2 p3 p4 p5
inductive L7(p0 p1 p2 p3 p4 p5 p6:Prop):Prop
 |mk (h0:p0)(h1:p1)(h2:p2)(h3:p3)(h4:p4)(h5:p5)(h6:p6):L7 p0 p1 p2 p3 p4 p5 p6
inductive Fj(p0 p1 p2 p3 p4 p5 p6 p7:Prop):Prop
 |mk (h0:p0)(h1:p1)(h2:p2)(h3:p3)(h4:p4)(h5:p5)(h6:p6)(h7:p7):Fj p0 p1 p2 p3 p4 p5 p6 p7
inductive L3(p0 p1 p2 p3 p4 p5 p6 p7 p8:Prop):Prop
 |mk (h0:p0)(h1:p1)(h2:p2)(h3:p3)(h4:p4)(h5:p5)(h6:p6)(h7:p7)(h8:p8):L3 p0 p1 p2 p3 p4 p5 p6 p7 p8
end Dv
namespace PB
open PySem L2 Dv
noncomputable def fY:DS:=ak (g8 [1,2] (aV 0)) (ak (aC 3 (nj sizeLine [6] (iB jU [.pk 1]) (.nm 6) (lA) (aa aZ []))) (ak (dS (iE (aV 2)) (.tp [4,5]) (ak (cN (wK cj 3 (aV 4) 5)) (cN (wK cj 3 (aV 5) 4)))) (gR 3)))
noncomputable def iP (Su:bM):DS:=ak (aC 2 (aA Su [false] [.pk 0])) (ak (aC 3 (aa jq [.ev (aa aZ [.ev (dC .none)]),.ev (aa aK [.pk 0,.ev (dC (.int 0))])])) (ak (gz 3 (aV 1) (dC (.int 0))) (ak (aC 4 (aa aZ [.pk 1])) (ak (uK (Ew 4) (ak (aC 5 (aa aZ [])) (ak (dS (iE (aV 4)) (.nm 6) (dS (iE (aa aK [.pk 2,.pk 6])) (.nm 7) (br (aR (aa (eu false) [.ev (aa aK [.pk 3,.pk 7]),.ev (dC .none)])) (ak (gz 3 (aV 7) (aa bS [.ev (aa aK [.pk 3,.pk 6]),.ev (dC (.int 1))])) (cN (iA cj 5 [aV 7]))) (bx)))) (aC 4 (aV 5))))) (gR 3)))))
noncomputable def fV:DS:=br (Ec (aR (nR (λi j=>decide (i<=j)) (λi j=>decide (i<j)) (dC (.int 0)) (aV 1) (aa aK [.pk 0,.ev (dC (.int 0))])))) (wX "NoPlace") (bx)
noncomputable def lC (Sw Sa:bM):DS:=ak (cN (aA Sw [false,false] [.pk 0,.pk 1])) (bw (aA Sa [false,false] [.pk 0,.pk 1]))
noncomputable def jT:DS:=bw (aa uA [.ev (aa aK [.pk 0,.ev (aa aK [.pk 1,.ev (dC (.int 0))])]),.ev (aa aK [.pk 0,.ev (aa aK [.pk 1,.ev (dC (.int 1))])])])
noncomputable def kY:DS:=ak (g8 [2,3] (aV 0)) (ak (aC 4 (yf (aR (aa cV [.pk 1,.ev (dC (.str "ties"))])) (aa aZ []) (aa jX [.pk 2]))) (ak (aC 5 (yf (aR (aa cV [.pk 1,.ev (dC (.str "places"))])) (aa aZ []) (aa mO [.pk 3]))) (bw (aa bS [.pk 4,.pk 5]))))
noncomputable def kW (Ss:bM):DS:=ak (br (aR (aa (pB "int") [.pk 1])) (bw (aa aK [.pk 0,.pk 1])) (bx)) (bw (aA Ss [false,false] [.pk 0,.pk 1]))
noncomputable def jR (Sx:bM):DS:=bw (c9 [3,4] (yg (aV 0)) (.tp [3,4]) (aR (aa iy [.ev (aA Sx [false,false] [.pk 4,.pk 1]),.ev (aA Sx [false,false] [.pk 4,.pk 2])])) (c8 sizeLine (aV 3)))
noncomputable def mE (SY:bM):DS:=bw (c9 [1] (iB jU [.ev (aa aK [.pk 0,.ev (dC (.int 0))])]) (.nm 1) (lA) (c8 sizeLine (aA SY [false,false] [.pk 0,.pk 1])))
noncomputable def jY (Sv SW:bM):DS:=ak (g8 [7,8,9] (aV 4)) (ak (br (aR (m8 (aa cV [.pk 7,.pk 8]) (m8 (aa (dU true) [.pk 7,.pk 1]) (aa (dU true) [.pk 8,.pk 1])))) (bw (dC (.bool false))) (bx)) (ak (aC 10 (aA Sv [false,false,false] [.pk 0,.pk 7,.pk 8])) (ak (br (aR (aa xx [.ev (aa bW [.ev (c9 [12] (iE (aV 10)) (.nm 12) (aR (aa (dU false) [.pk 12,.pk 5])) (c8 sizeLine (aV 12)))]),.pk 2])) (bw (dC (.bool false))) (bx)) (ak (br (aR (aa cV [.ev (aa bW [.pk 5]),.pk 3])) (bw (aa nG [.pk 9,.ev (aa bO [])])) (bx)) (ak (aC 11 (c9 [12] (iE (aV 10)) (.nm 12) (aR (iJ (aa (dU true) [.pk 12,.pk 5]) (aa (dU true) [.pk 12,.pk 6]))) (c8 sizeLine (aV 12)))) (ak (br (aR (aa iy [.ev (aa bW [.pk 9]),.ev (aa bW [.pk 11])])) (bw (dC (.bool false))) (bx)) (bw (aa zR [.ev (c9 [12,13,14] (yo (aV 11) (aV 9)) (.nt 12 [13,14]) (lA) (c8 sizeLine (aA SW [false,false,false,false,false,false,false] [.pk 0,.pk 1,.pk 2,.pk 3,.pk 14,.ev (aa bS [.pk 5,.ev (aa aZ [.pk 13])]),.ev (aa bS [.pk 6,.ev (aa (fD false true) [.pk 11,.pk 12])])])))]))))))))
noncomputable def kg (SW SX Sy:bM):DS:=ak (br (aR (aa (eu false) [.pk 4,.ev (dC .none)])) (bw (dC (.bool false))) (bx)) (bw (aA SW [false,false,false,false,false,false,false] [.ev (aA SX [false] [.pk 0]),.ev (aA Sy [false,false] [.pk 0,.pk 1]),.pk 2,.pk 3,.pk 4,.ev (aa aZ []),.ev (aa aZ [])]))
noncomputable def gw:DS:=ak (aC 2 (dC (.int 0))) (kh (br (aR (aa rH [.pk 1,.ev (aa bW [.pk 0])])) (aC 2 (aa aK [.pk 0,.pk 1])) (br (aR (aa iy [.pk 0,.ev (aa aZ [])])) (aC 2 (aa bS [.ev (aa mw [.ev (aa aK [.pk 0,.ev (aa mw [.pk 1,.ev (aa bW [.pk 0])])]),.ev (dC (.int 1000003))]),.ev (aa jq [.ev (dC (.int 104729)),.pk 1])])) (bx))) (ak (br (aR (aa xx [.pk 2,.ev (aa rV [.ev (dC (.int 10)),.ev (dC (.int 18))])])) (bw (aa aZ [.pk 2])) (bx)) (ak (aC 3 (aa mw [.ev (aa Aa [.ev (aa bS [.ev (aa bS [.ev (aa mw [.pk 2,.ev (aa bS [.ev (aa rV [.ev (dC (.int 10)),.ev (dC (.int 30))]),.ev (dC (.int 57))])]),.ev (aa jq [.ev (dC (.int 7919)),.pk 1])]),.ev (dC (.int 101))]),.ev (dC (.int 2))]),.ev (aa bS [.ev (aa rV [.ev (dC (.int 10)),.ev (dC (.int 30))]),.ev (dC (.int 57))])])) (bw (aa aZ [.ev (aa mw [.ev (aa zO [.ev (aa bS [.ev (aa bS [.pk 3,.ev (aa jq [.ev (dC (.int 977)),.pk 1])]),.ev (dC (.int 5))]),.ev (dC (.int 618033988749894848204586834365))]),.ev (aa bS [.ev (aa rV [.ev (dC (.int 10)),.ev (dC (.int 30))]),.ev (dC (.int 57))])])])))))
noncomputable def gS:DS:=ak (aC 2 (aa mw [.ev (aa aK [.pk 0,.ev (dC (.int 0))]),.pk 1])) (ak (gz 0 (dC (.int 0)) (aa De [.ev (aa aK [.pk 0,.ev (dC (.int 0))]),.pk 1])) (gR 2))
noncomputable def gr (Sm:bM):DS:=ak (aC 3 (aa aZ [])) (ak (dS (iB xy [.ev (dC (.int 1)),.pk 1]) (.nm 4) (ak (aC 5 (aA Sm [true,false] [.pk 0,.pk 4])) (ak (cN (iA cj 3 [aa bO [.ev (aa aK [.ev (aa aZ [.ev (aa n9 [.pk 4,.ev (dC (.int 1))]),.ev (aa n9 [.pk 4,.ev (dC (.int 1))]),.ev (dC (.int 0)),.pk 5]),.ev (aa uA [.pk 2,.ev (dC (.int 3))])]),.pk 4]])) (br (aR (aa cV [.pk 2,.ev (dC (.int 3))])) (cN (iA l0 3 [c9 [8] (iB jU [.pk 4]) (.nm 8) (lA) (c8 sizeLine (aa bO [.pk 8,.pk 4]))])) (bx))))) (kh (br (aR (iJ (aa cV [.pk 2,.ev (dC (.int 1))]) (aa EX [.pk 1,.ev (dC (.int 2))]))) (cN (iA cj 3 [aa bO [.ev (dC (.int 0)),.ev (aa n9 [.pk 1,.ev (dC (.int 1))])]])) (bx)) (kh (br (aR (aa EX [.pk 2,.ev (dC (.int 4))])) (dS (iB jU [.ev (aA Sm [true,false] [.pk 0,.ev (dC (.int 7))])]) (.nm 4) (ak (aC 6 (aA Sm [true,false] [.pk 0,.pk 1])) (ak (aC 7 (aA Sm [true,false] [.pk 0,.pk 1])) (cN (iA l0 3 [aa jq [.ev (aa aZ [.ev (aa bO [.pk 6,.pk 7])]),.ev (aa fj [.ev (aa iy [.pk 6,.pk 7])])]]))))) (bx)) (gR 3))))
noncomputable def gx (Sm:bM):DS:=ak (aC 2 (aa aZ [])) (ak (dS (iB jU [.pk 1]) (.nm 3) (cN (iA sG 2 [aA Sm [true,false] [.pk 0,.ev (aa bS [.pk 3,.ev (dC (.int 1))])],aV 3]))) (gR 2))
noncomputable def gP (Sm Sh Sg:bM):DS:=ak (aC 3 (aa bS [.pk 1,.ev (aA Sm [true,false] [.pk 0,.ev (aa n9 [.ev (aa bS [.pk 2,.ev (dC (.int 1))]),.pk 1])])])) (ak (aC 4 (aa aZ [])) (ak (aC 5 (aA Sh [true,false,false] [.pk 0,.pk 3,.ev (aA Sm [true,false] [.pk 0,.ev (dC (.int 9))])])) (ak (aC 6 (aA Sg [true,false] [.pk 0,.pk 3])) (ak (dS (iE (aV 5)) (.tp [7,8]) (ak (aC 9 (aa bO [.ev (aa aK [.pk 6,.pk 7]),.ev (aa aK [.pk 6,.pk 8])])) (ak (aC 10 (aa bO [.ev (aa oA [.pk 9]),.ev (aa ou [.pk 9])])) (br (aR (aa (dU true) [.pk 10,.pk 4])) (cN (iA cj 4 [aV 10])) (bx))))) (bw (aa bO [.pk 3,.ev (aa jc [.ev (aa qR [.pk 4])])]))))))
noncomputable def gA:DS:=ak (aC 1 (aa aZ [])) (ak (dS (iB jU [.ev (aa aK [.pk 0,.ev (dC (.int 0))])]) (.nm 2) (ak (aC 3 (aa jq [.ev (aa aZ [.ev (aa rQ [.ev (dC (.int 1))])]),.ev (aa aK [.pk 0,.ev (dC (.int 0))])])) (ak (gz 3 (aV 2) (dC (.int 0))) (ak (dS (iB jU [.ev (aa aK [.pk 0,.ev (dC (.int 0))])]) (.nm 4) (dS (iE (aa aK [.pk 0,.ev (dC (.int 1))])) (.tp [5,6]) (kh (br (aR (iJ (aa cV [.ev (aa aK [.pk 3,.pk 5]),.pk 4]) (aa rH [.ev (aa aK [.pk 3,.pk 6]),.ev (dC (.int 0))]))) (gz 3 (aV 6) (aa bS [.pk 4,.ev (dC (.int 1))])) (bx)) (br (aR (iJ (aa cV [.ev (aa aK [.pk 3,.pk 6]),.pk 4]) (aa rH [.ev (aa aK [.pk 3,.pk 5]),.ev (dC (.int 0))]))) (gz 3 (aV 5) (aa bS [.pk 4,.ev (dC (.int 1))])) (bx))))) (cN (iA cj 1 [aV 3])))))) (gR 1))
noncomputable def fX:DS:=ak (aC 2 (aa jq [.ev (aa jX [.ev (aa aK [.pk 0,.ev (dC (.int 0))])]),.ev (aa fj [.ev (aa iy [.pk 1,.ev (dC (.str "ties"))])])])) (kh (br (aR (aa iy [.pk 1,.ev (dC (.str "places"))])) (cN (iA uz 2 [aa aK [.pk 0,.ev (dC (.int 1))]])) (bx)) (gR 2))
noncomputable def iO:DS:=ak (br (aR (aa (pB "int") [.pk 2])) (bw (aa aK [.ev (aa aK [.pk 0,.pk 1]),.pk 2])) (bx)) (bw (aa uC [.ev (c9 [3] (iE (aV 2)) (.nm 3) (lA) (c8 sizeLine (aa aK [.ev (aa aK [.pk 0,.pk 1]),.pk 3])))]))
noncomputable def eZ (Se:bM):DS:=bw (c9 [3] (iB jU [.ev (aa bW [.pk 0])]) (.nm 3) (aR (aa iy [.ev (aA Se [false,false,false] [.pk 0,.pk 3,.pk 1]),.ev (aA Se [false,false,false] [.pk 0,.pk 3,.pk 2])])) (c8 sizeLine (aV 3)))
noncomputable def fZ (Sl Sn Sj:bM):DS:=ak (aC 2 (aA Sl [false] [.pk 0])) (ak (aC 3 (aA Sn [false,false] [.pk 0,.pk 1])) (ak (aC 4 (aa aZ [])) (ak (dS (iB jU [.ev (aa bW [.pk 3])]) (.nm 5) (dS (iE (aa (fD true false) [.pk 3,.ev (aa bS [.pk 5,.ev (dC (.int 1))])])) (.nm 6) (cN (iA cj 4 [aa bO [.ev (aa aK [.pk 3,.pk 5]),.pk 6,.ev (aA Sj [false,false,false] [.pk 2,.ev (aa aK [.pk 3,.pk 5]),.pk 6])]])))) (gR 4))))
noncomputable def gY (Sj Sb:bM):DS:=ak (g8 [4,5,6,7] (aV 0)) (ak (br (aR (m8 (pO (aa (pB "tuple") [.pk 1])) (m8 (aa iy [.ev (aa bW [.pk 1]),.ev (dC (.int 3))]) (pO (aa (pB "tuple") [.ev (aa aK [.pk 1,.ev (dC (.int 2))])]))))) (bw (dC (.bool false))) (bx)) (ak (g8 [8,9,10] (aV 1)) (ak (br (aR (m8 (aa (dU true) [.pk 8,.pk 5]) (m8 (aa (dU true) [.pk 9,.pk 5]) (aa cV [.pk 8,.pk 9])))) (bw (dC (.bool false))) (bx)) (ak (aC 11 (aA Sj [false,false,false] [.pk 4,.pk 8,.pk 9])) (ak (br (aR (aa xx [.ev (aa bW [.ev (c9 [15] (iE (aV 11)) (.nm 15) (aR (aa (dU false) [.pk 15,.pk 2])) (c8 sizeLine (aV 15)))]),.pk 6])) (bw (dC (.bool false))) (bx)) (ak (br (aR (aa xx [.ev (aa bW [.pk 2]),.pk 7])) (bw (iJ (aa cV [.ev (aa bW [.pk 2]),.pk 7]) (aa nG [.pk 10,.ev (aa bO [])]))) (bx)) (ak (aC 12 (c9 [15] (iE (aV 11)) (.nm 15) (aR (iJ (aa (dU true) [.pk 15,.pk 2]) (aa (dU true) [.pk 15,.pk 3]))) (c8 sizeLine (aV 15)))) (ak (br (aR (aa iy [.ev (aa bW [.pk 10]),.ev (aa bW [.pk 12])])) (bw (dC (.bool false))) (bx)) (ak (dS (iB jU [.ev (aa bW [.pk 12])]) (.nm 13) (ak (aC 14 (aa bS [.pk 3,.ev (aa (fD false true) [.pk 12,.pk 13])])) (br (Ec (aR (aA Sb [false,false,false,false] [.pk 0,.ev (aa aK [.pk 10,.pk 13]),.ev (aa bS [.pk 2,.ev (aa aZ [.ev (aa aK [.pk 12,.pk 13])])]),.pk 14]))) (bw (dC (.bool false))) (bx)))) (bw (dC (.bool true))))))))))))
noncomputable def ie (Sm Sf:bM):DS:=ak (g8 [5,6,7,8] (aV 0)) (ak (aC 9 (aa aZ [])) (ak (dS (iE (aV 1)) (.tp [10,11,12]) (br (aR (aa rH [.ev (aa bW [.ev (c9 [18] (iE (aV 12)) (.nm 18) (aR (aa (dU false) [.pk 18,.pk 3])) (c8 sizeLine (aV 18)))]),.pk 7])) (cN (iA cj 9 [aa bO [.pk 10,.pk 11,.pk 12]])) (bx))) (kh (br (aR (aa cV [.pk 9,.ev (aa aZ [])])) (aC 9 (aV 1)) (bx)) (ak (g8 [10,11,12] (aa aK [.pk 9,.ev (aA Sm [true,false] [.pk 2,.ev (aa bW [.pk 9])])])) (ak (aC 13 (aa aZ [])) (kh (br (aR (aa rH [.ev (aa bW [.pk 3]),.pk 8])) (ak (aC 14 (c9 [18] (iE (aV 12)) (.nm 18) (aR (iJ (aa (dU true) [.pk 18,.pk 3]) (aa (dU true) [.pk 18,.pk 4]))) (c8 sizeLine (aV 18)))) (dS (iB jU [.ev (aa bW [.pk 14])]) (.nm 15) (ak (aC 16 (aa bS [.pk 4,.ev (aa (fD false true) [.pk 14,.pk 15])])) (ak (aC 17 (aa bS [.pk 3,.ev (aa aZ [.ev (aa aK [.pk 14,.pk 15])])])) (cN (iA cj 13 [aA Sf [false,false,true,false,false] [.pk 0,.pk 1,.pk 2,.pk 17,.pk 16]])))))) (bx)) (kh (br (aR (aa cV [.ev (aA Sm [true,false] [.pk 2,.ev (dC (.int 2))]),.ev (dC (.int 1))])) (g8 [10,11] (aa bO [.pk 11,.pk 10])) (bx)) (bw (aa bO [.pk 10,.pk 11,.ev (aa jc [.pk 13])])))))))))
noncomputable def f7 (Sm:bM):DS:=ak (g8 [4,5,6] (aV 0)) (ak (aC 7 (aa aK [.pk 1,.ev (aA Sm [true,false] [.pk 3,.ev (aa bW [.pk 1])])])) (ak (aC 8 (aA Sm [true,false] [.pk 3,.ev (aa bS [.ev (aa bW [.pk 6]),.ev (dC (.int 1))])])) (ak (br (aR (aa cV [.pk 2,.ev (dC (.int 0))])) (bw (aa bO [.pk 7,.pk 5,.pk 6])) (bx)) (ak (br (aR (aa cV [.pk 2,.ev (dC (.int 1))])) (bw (aa bO [.pk 4,.pk 4,.pk 6])) (bx)) (ak (br (aR (aa cV [.pk 2,.ev (dC (.int 2))])) (bw (aa bO [.ev (aa aK [.ev (aa aZ [.ev (dC (.int 60)),.ev (aa bO [.ev (dC (.int 0)),.ev (dC (.int 60))]),.ev (aa bO [.ev (dC (.int 1)),.ev (dC (.int 0))]),.ev (aa rQ [.ev (dC (.int 1))])]),.ev (aa mw [.pk 8,.ev (dC (.int 4))])]),.pk 5,.pk 6])) (bx)) (ak (br (aR (aa cV [.pk 2,.ev (dC (.int 8))])) (bw (aa bO [.ev (aa aK [.ev (aa aZ [.ev (dC (.int 0)),.ev (aa bO [.ev (dC (.int 0)),.ev (dC (.int 1))])]),.ev (aa fj [.ev (aa (pB "int") [.pk 5])])]),.pk 5,.pk 6])) (bx)) (ak (br (aR (aa cV [.pk 2,.ev (dC (.int 3))])) (bw (aa bO [.pk 4,.pk 5,.ev (aa kI [.ev (aa (fD false true) [.pk 6,.pk 8]),.ev (aa (fD true false) [.pk 6,.ev (aa bS [.pk 8,.ev (dC (.int 1))])])])])) (bx)) (ak (br (aR (aa cV [.pk 2,.ev (dC (.int 4))])) (bw (aa bO [.pk 4,.pk 5,.ev (aa kI [.ev (aa kI [.ev (aa (fD false true) [.pk 6,.pk 8]),.ev (aa (fD true true) [.pk 6,.pk 8,.ev (aa bS [.pk 8,.ev (dC (.int 1))])])]),.ev (aa (fD true false) [.pk 6,.pk 8])])])) (bx)) (ak (br (aR (aa cV [.pk 2,.ev (dC (.int 5))])) (bw (aa bO [.pk 4,.pk 5,.ev (aa kI [.ev (aa (fD true false) [.pk 6,.ev (dC (.int 1))]),.ev (aa (fD false true) [.pk 6,.ev (dC (.int 1))])])])) (bx)) (ak (br (aR (aa cV [.pk 2,.ev (dC (.int 6))])) (bw (aa bO [.pk 4,.pk 5,.ev (aa bO [])])) (bx)) (bw (aa bO [.pk 4,.pk 5,.ev (aa kI [.pk 6,.ev (aa bO [.ev (aa bO [.pk 4,.pk 5,.ev (aa bO [])])])])]))))))))))))
noncomputable def fu (Sm So Sd:bM):DS:=ak (br (aR (m8 (aa nG [.ev (aa aK [.pk 0,.ev (dC (.int 2))]),.ev (aa bO [])]) (aa cV [.ev (aA Sm [true,false] [.pk 3,.ev (dC (.int 3))]),.ev (dC (.int 0))]))) (bw (aA So [false,false,false,true] [.pk 0,.pk 1,.pk 2,.pk 3])) (bx)) (ak (aC 4 (aA Sm [true,false] [.pk 3,.ev (aa bW [.ev (aa aK [.pk 0,.ev (dC (.int 2))])])])) (ak (aC 5 (aa mO [.ev (aa aK [.pk 0,.ev (dC (.int 2))])])) (ak (gz 5 (aV 4) (aA Sd [false,false,false,true] [.ev (aa aK [.pk 5,.pk 4]),.pk 1,.pk 2,.pk 3])) (bw (aa bO [.ev (aa aK [.pk 0,.ev (dC (.int 0))]),.ev (aa aK [.pk 0,.ev (dC (.int 1))]),.ev (aa jc [.pk 5])])))))
noncomputable def mH (Sk Sm Sq Si Sn Sl Sf Sd Sb Sz:bM):DS:=ak (aC 1 (aA Sk [false,false] [.pk 0,.ev (dC (.int 0))])) (ak (aC 2 (aa aK [.ev (aa aZ [.ev (dC (.str "places")),.ev (dC (.str "ties")),.ev (dC (.str "all"))]),.ev (aA Sm [true,false] [.pk 1,.ev (dC (.int 3))])])) (ak (aC 3 (aa bS [.ev (dC (.int 1)),.ev (aA Sm [true,false] [.pk 1,.ev (aa aK [.ev (aa aZ [.ev (dC (.int 1)),.ev (dC (.int 4))]),.ev (aA Sm [true,false] [.pk 1,.ev (dC (.int 2))])])])])) (ak (aC 4 (aA Sm [true,false] [.pk 1,.ev (dC (.int 6))])) (ak (aC 5 (aa aK [.ev (aa aZ [.ev (dC (.int 6)),.ev (dC (.int 12))]),.ev (aa fj [.ev (iJ (aa cV [.ev (aA Sm [true,false] [.pk 1,.ev (dC (.int 4))]),.ev (dC (.int 0))]) (aa rH [.pk 4,.ev (dC (.int 3))]))])])) (ak (aC 6 (lU Sq [] (aA Sk [false,false] [.pk 0,.ev (dC (.int 1))]) [.ev (aa bS [.ev (dC (.int 2)),.ev (aa fj [.ev (aa cV [.pk 2,.ev (dC (.str "ties"))])])]),.pk 5] [.ev (aa bS [.ev (dC (.int 2)),.ev (aa fj [.ev (aa cV [.pk 2,.ev (dC (.str "ties"))])])]),.pk 5])) (ak (aC 7 (aA Si [false,false] [.pk 6,.pk 2])) (ak (aC 8 (aA Sn [false,false] [.pk 6,.pk 2])) (ak (aC 9 (aa bO [.ev (aA Sl [false] [.pk 6]),.pk 8,.pk 3,.pk 4])) (ak (aC 10 (aa aZ [.ev (lU Sf [.pk 9,.pk 7] (aA Sk [false,false] [.pk 0,.ev (dC (.int 2))]) [.ev (aa aZ []),.ev (aa aZ [])] [.pk 9,.pk 7,.ev (aa aZ []),.ev (aa aZ [])])])) (ak (dS (iB xy [.ev (dC (.int 3)),.ev (dC (.int 6))]) (.nm 11) (ak (aC 12 (aA Sk [false,false] [.pk 0,.pk 11])) (ak (aC 13 (aA Sm [true,false] [.pk 12,.ev (dC (.int 9))])) (cN (iA cj 10 [aA Sd [false,false,false,true] [.ev (aa aK [.pk 10,.ev (dC (.int 0))]),.pk 8,.pk 13,.pk 12]]))))) (ak (aC 14 (aa aK [.ev (aa aZ [.ev (dC (.str "ties")),.ev (dC (.str "places")),.ev (dC (.str "places"))]),.ev (zq (aa aZ [.ev (dC (.str "places")),.ev (dC (.str "ties")),.ev (dC (.str "all"))]) 2)])) (ak (aC 15 (aA Si [false,false] [.pk 6,.pk 14])) (kh (br (aR (aa iy [.pk 15,.ev (aa aZ [])])) (cN (iA cj 10 [lU Sf [.pk 9,.pk 15] (aA Sk [false,false] [.pk 0,.ev (dC (.int 6))]) [.ev (aa aZ []),.ev (aa aZ [])] [.pk 9,.pk 15,.ev (aa aZ []),.ev (aa aZ [])]])) (bx)) (ak (dS (iE (aa bS [.pk 10,.ev (aa (fD false true) [.pk 10,.ev (dC (.int 1))])])) (.nm 16) (ak (aC 17 (aA Sb [false,false,false,false] [.pk 9,.pk 16,.ev (aa aZ []),.ev (aa aZ [])])) (ak (aC 18 (aA Sz [false,false,false,false,false] [.pk 6,.pk 2,.pk 3,.pk 4,.pk 16])) (br (aR (m8 (pO (aa (pB "bool") [.pk 18])) (aa iy [.pk 18,.pk 17]))) (bw (dC (.bool false))) (bx))))) (bw (dC (.bool true)))))))))))))))))
end PB
namespace Dv
open PySem L2
noncomputable def vj (xs:SA)(tg:Tg)(b:DS)(D:iz)(E1:En):Prop:=∃I:Nat->En->Prop,I 0 E1/\(∀i d E,xs[i]?=some d->I i E->∃E2,cI tg d E=some E2/\b { D with nx:=I (i+1) } E2)/\∀E,I xs.length E->D.nx E
noncomputable def yO (cs:SN)(xs:SA)(tg:Tg)(c:DT)(r:DC)(E1:En)(Q:En->Kd->PyData->Prop):Prop:=∃(E0:En)(I:Nat->SA->En->Prop),bE cs E1=some E0/\I 0 [] E0/\(∀i d ys E,xs[i]?=some d->I i ys E->∃E2,cI tg d E=some E2/\c xF E2 λE3 b=>if b=true then r xF ys E3 (I (i+1))else I (i+1) ys E3)/\∀ys E,I xs.length ys E->∃E2,bE cs E=some E2/\Q E2 (.ow false) (.list ys)
noncomputable def IK (most:Nat)(cs:SN)(xs:SA)(tg:Tg)(c:DT)(e:DE)(E1:En)(Q:En->Kd->PyData->Prop):Prop:=∃(E0:En)(I:Nat->SA->En->Prop),bE cs E1=some E0/\I 0 [] E0/\(∀i d ys E,xs[i]?=some d->I i ys E->∃E2,cI tg d E=some E2/\c xF E2 λE3 b=>if b=true then e xF E3 (λE4 k v=>(∃p,k=.ow p)/\ys.length<most/\I (i+1) (ys++[v]) E4)else I (i+1) ys E3)/\∀ys E,I xs.length ys E->∃E2,bE cs E=some E2/\Q E2 (.dp false) (.list ys)
noncomputable def L6 (xs:SA)(tg:Tg)(c:DT)(r:DC)(x:XC)(ys:SA)(E1:En)(Q:SA->En->Prop):Prop:=∃I:Nat->SA->En->Prop,I 0 ys E1/\(∀i d ys E,xs[i]?=some d->I i ys E->∃E2,cI tg d E=some E2/\c x E2 λE3 b=>if b=true then r x ys E3 (I (i+1))else I (i+1) ys E3)/\∀ys E,I xs.length ys E->Q ys E
theorem dyr0:∀{it:DI}{tg:Tg}{b:DS}{D:iz}{o:Option (Kd×PyData)}{E:En},dS it tg b D (o::E)=it D.xc (o::E) λE1 xs=>vj xs tg b D E1:=rfl
theorem dyr1:∀{cs:SN}{it:DI}{tg:Tg}{c:DT}{r:DC}{x:XC}{o:Option (Kd×PyData)}{E:En}{Q:En->Kd->PyData->Prop},c9 cs it tg c r x (o::E) Q=it x (o::E) λE1 xs=>yO cs xs tg c r E1 Q:=rfl
theorem dyr2:∀{most:Nat}{cs:SN}{it:DI}{tg:Tg}{c:DT}{e:DE}{x:XC}{o:Option (Kd×PyData)}{E:En}{Q:En->Kd->PyData->Prop},nj most cs it tg c e x (o::E) Q=it x (o::E) λE1 xs=>IK most cs xs tg c e E1 Q:=rfl
theorem dyr3:∀{it:DI}{tg:Tg}{c:DT}{r:DC}{x:XC}{ys:SA}{o:Option (Kd×PyData)}{E:En}{Q:SA->En->Prop},Mi it tg c r x ys (o::E) Q=it x (o::E) λE1 xs=>L6 xs tg c r x ys E1 Q:=rfl
def dy:
 (∀{it:DI}{tg:Tg}{b:DS}{D:iz}{o:Option (Kd×PyData)}{E:En},dS it tg b D (o::E)=it D.xc (o::E) λE1 xs=>vj xs tg b D E1) /\
 (∀{cs:SN}{it:DI}{tg:Tg}{c:DT}{r:DC}{x:XC}{o:Option (Kd×PyData)}{E:En}{Q:En->Kd->PyData->Prop},c9 cs it tg c r x (o::E) Q=it x (o::E) λE1 xs=>yO cs xs tg c r E1 Q) /\
 (∀{most:Nat}{cs:SN}{it:DI}{tg:Tg}{c:DT}{e:DE}{x:XC}{o:Option (Kd×PyData)}{E:En}{Q:En->Kd->PyData->Prop},nj most cs it tg c e x (o::E) Q=it x (o::E) λE1 xs=>IK most cs xs tg c e E1 Q) /\
 (∀{it:DI}{tg:Tg}{c:DT}{r:DC}{x:XC}{ys:SA}{o:Option (Kd×PyData)}{E:En}{Q:SA->En->Prop},Mi it tg c r x ys (o::E) Q=it x (o::E) λE1 xs=>L6 xs tg c r x ys E1 Q):=⟨rfl,rfl,rfl,rfl⟩
theorem rN{i:Nat}{z:Option (Kd×PyData)}:∀{cs:SN}{E E0:En},i∉cs->bE cs (E.set i none)=some E0->bE cs (E.set i z)=some (E0.set i z)
 |[],E,E0,_,h=>by have h:E.set i none=E0:=Option.some.inj h;show some _=some _;rw[<-h,List.set_set]
 |c::cs,E,E0,n,h=>by
  have nc:i≠c:=λe=>n (e▸N6);have ns:i∉cs:=λm=>n (NX _ m);have ho:∀y:Option (Kd×PyData),bg (E.set i y) c=bg E c:=λy=>by unfold bg;rw[QC nc]
  unfold bE at h⊢;rw[ho]at h⊢;split at h;{rename_i hc;rw[if_pos hc];rw[List.set_comm _ _ nc]at h⊢;exact rN ns h};cases h
theorem vE:∀{cs:SN}{ds:SA}{E E' E0:En},cs.Nodup->bE cs E=some E0->bE cs E'=some E0->bu cs ds E=bu cs ds E'
 |[],ds,E,E',E0,_,h,h'=>by have h:E=E0:=Option.some.inj h;have h':E'=E0:=Option.some.inj h';rw[h,h']
 |c::cs,[],E,E',E0,_,h,h'=>rfl
 |c::cs,d::ds,E,E',E0,nd,h,h'=>by have n1:=(OW.mp nd).1;unfold bE at h h';unfold bu;split at h;{rename_i hc;split at h';{rename_i hc';rw[if_pos hc,if_pos hc'];exact vE (OW.mp nd).2 (rN n1 h) (rN n1 h')};cases h'};cases h
def su{cs:SN}{ds:SA}{E E' E0:En}(nd:jS cs=true)(h:bE cs E=some E0)(h':bE cs E'=some E0):bu cs ds E=bu cs ds E':=vE (gH nd) h h'
def qg{tg:Tg}{cs:SN}{d:PyData}{E E' E0:En}(hs:tg.slots=cs)(nd:jS cs=true)(h:bE cs E=some E0)(h':bE cs E'=some E0):cI tg d E=cI tg d E':=by
 subst hs;cases tg with
 |nm i=>exact su nd h h'
 |tp is=>
  cases d with
  |tuple ds=>exact su nd h h'
  |_=>rfl
 |nt i is=>
  cases d with
  |tuple ds=>rcases ds with _|⟨a,_|⟨b,_|⟨c,r⟩⟩⟩;{rfl};{rfl};{cases b<;>first|exact su nd h h'|rfl};cases b<;>rfl
  |_=>rfl
theorem jI:∀{cs:SN}{E E0:En},cs.Nodup->bE cs E=some E0->bE cs E0=some E0/\∀c∈cs,E0[c]?=some none
 |[],E,E0,_,h=>⟨rfl,λ_ z=>by cases z⟩
 |c::cs,E,E0,nd,h=>by
  have n1:=(OW.mp nd).1;have n2:=(OW.mp nd).2;unfold bE at h;split at h
  .rename_i hc;obtain⟨h1,h2⟩:=jI n2 h;have hlen:c<E.length:=by unfold bg at hc;rcases OY c E.length with z|z;{exact z};rw[OL z]at hc;cases hc
   have hcl:∀{cs:SN}{E E0:En},c∉cs->bE cs E=some E0->E0[c]?=E[c]?:=by
    intro cs;induction cs with
    |nil=>intro E E0 _ h;cases h;rfl
    |cons a cs ih=>intro E E0 n h;unfold bE at h;split at h;{rw[ih (λm=>n (NX _ m)) h,QC (λe=>n (by rw[e];exact N6))]};cases h
   have e0:E0[c]?=some none:=by rw[hcl n1 h,QB hlen]
   refine⟨?_,λx hx=>?_⟩
   .unfold bE;rw[if_pos (by unfold bg;rw[e0])];have:E0.set c none=E0:=by
     refine PC λj=>?_;by_cases e:c=j
     .subst e;have:c<E0.length:=by rcases OY c E0.length with z|z;{exact z};rw[OL z]at e0;cases e0
      rw[QB this,e0]
     rw[QC e]
    rw[this];exact h1
   cases hx with
   |head=>exact e0
   |tail _ m=>exact h2 x m
  cases h
def cQ{α:Type}{l:List α}{i:Nat}{a:α}(ha:l[i]?=some a):i<l.length:=by rcases OY i l.length with z|z;{exact z};rw[OL z]at ha;cases ha
def take_snoc{α:Type}{l:List α}{i:Nat}{a:α}(ha:l[i]?=some a):l.take (i+1)=l.take i++[a]:=by rw[List.take_add_one,ha];rfl
def Iq{α:Type}{l:List α}{enc:α->PyData}{cs:SN}{tg:Tg}{e:DE}{most:Nat}{E1 E0:En}{Q:En->Kd->PyData->Prop}(g:α->PyData)(h0:bE cs E1=some E0)(h2:∀a,a∈l->∀I:En->PyData->Prop,(∀E4,bE cs E4=some E0->I E4 (g a))->∃E2,cI tg (enc a) E0=some E2/\e xF E2 (λE4 k v=>(∃p,k=.ow p)/\I E4 v))(h3:Q E0 (.dp false) (.list (l.map g)))(hl:l.length<=most)(hs:tg.slots=cs:=by rfl)(nd:jS cs=true:=by rfl):IK most cs (l.map enc) tg lA e E1 Q:=by
 obtain⟨hc0,_⟩:=jI (gH nd) h0;refine⟨E0,λi ys E=>ys=(l.take i).map g/\bE cs E=some E0,h0,⟨rfl,hc0⟩,?_,?_⟩
 .rintro i d ys E hd⟨rfl,hE⟩;rw[O4]at hd;obtain⟨a,ha,rfl⟩:=Px.mp hd;have hi:=cQ ha;obtain⟨E2,hE2,hb⟩:=h2 a (OD ha) (λE4 v=>((l.take i).map g).length<most/\((l.take i).map g++[v]=(l.take (i+1)).map g/\bE cs E4=some E0)) (λE4 hE4=>by
   refine⟨?_,?_,hE4⟩
   .rw[NS,OM];lia
   .rw[take_snoc ha,OA];rfl)
  exact⟨E2,(qg hs nd hE hc0).trans hE2,hb⟩
 rintro ys E⟨rfl,hE⟩;rw[NS,P4];exact⟨E0,hE,h3⟩
def rE{α:Type}{l:List α}{enc:α->PyData}{tg:Tg}{b:DS}{D:iz}{E1:En}(I:Nat->En->Prop)(h0:I 0 E1)(hs:∀i a E,l[i]?=some a->I i E->∃E2,cI tg (enc a) E=some E2/\b { D with nx:=I (i+1) } E2)(he:∀E,I l.length E->D.nx E):vj (l.map enc) tg b D E1:=by refine⟨I,h0,λi d E hd hi=>?_,by rw[NS];exact he⟩;rw[O4]at hd;obtain⟨a,ha,rfl⟩:=Px.mp hd;exact hs i a E ha hi
def BX{n i k:Nat}(h:(List.range n)[i]?=some k):i<n/\k=i:=by have hi:=cQ h;rw[O3]at hi;rw[OB hi]at h;cases h;exact⟨hi,rfl⟩
def Ja{n:Nat}{enc:Nat->PyData}{tg:Tg}{b:DS}{D:iz}{E1:En}(I:Nat->En->Prop)(h0:I 0 E1)(hs:∀i E,i<n->I i E->∃E2,cI tg (enc i) E=some E2/\b { D with nx:=I (i+1) } E2)(he:∀E,I n E->D.nx E):vj ((List.range n).map enc) tg b D E1:=
 rE I h0 (λi a E ha hi=>by obtain⟨l,rfl⟩:=BX ha;exact hs a E l hi) (by rw[O3];exact he)
def Hh{α:Type}{l:List α}{enc:α->PyData}{cs:SN}{tg:Tg}{e:DE}{most:Nat}{E1 E0:En}{Q:En->Kd->PyData->Prop}(S:En->Prop)(g:α->PyData)(h0:bE cs E1=some E0)(hS:S E0)(h2:∀a,a∈l->∀E0',S E0'->∀I:En->PyData->Prop,(∀E4 E5,bE cs E4=some E5->S E5->I E4 (g a))->∃E2,cI tg (enc a) E0'=some E2/\e xF E2 (λE4 k v=>k.fz=true/\I E4 v))(h3:∀E0',S E0'->Q E0' (.ow false) (.list (l.map g)))(hl:l.length<=most)(hs:tg.slots=cs:=by rfl)(nd:jS cs=true:=by rfl):yO cs (l.map enc) tg lA (c8 most e) E1 Q:=by
 obtain⟨hc0,_⟩:=jI (gH nd) h0;refine⟨E0,λi ys E=>ys=(l.take i).map g/\∃E5,bE cs E=some E5/\S E5,h0,⟨rfl,E0,hc0,hS⟩,?_,?_⟩
 .rintro i d ys E hd⟨rfl,E5,hE,hS5⟩;rw[O4]at hd;obtain⟨a,ha,rfl⟩:=Px.mp hd;have hi:=cQ ha;obtain⟨hc5,_⟩:=jI (gH nd) hE;obtain⟨E2,hE2,hb⟩:=h2 a (OD ha) E5 hS5 (λE4 v=>((l.take i).map g).length<most/\((l.take i).map g++[v]=(l.take (i+1)).map g/\∃E5,bE cs E4=some E5/\S E5)) (λE4 E6 hE4 hS6=>by
   refine⟨?_,?_,E6,hE4,hS6⟩
   .rw[NS,OM];lia
   .rw[take_snoc ha,OA];rfl)
  exact⟨E2,(qg hs nd hE hc5).trans hE2,hb⟩
 rintro ys E⟨rfl,E5,hE,hS5⟩;rw[NS,P4];exact⟨E5,hE,h3 E5 hS5⟩
def FP{α:Type}{l:List α}{enc:α->PyData}{cs:SN}{tg:Tg}{c:DT}{e:DE}{most:Nat}{E1 E0:En}{Q:En->Kd->PyData->Prop}(S:En->Prop)(g:α->Option PyData)(h0:bE cs E1=some E0)(hS:S E0)(h2:∀a,a∈l->∀E0',S E0'->∀I:En->Option PyData->Prop,(∀E4 E5,bE cs E4=some E5->S E5->I E4 (g a))->∃E2,cI tg (enc a) E0'=some E2/\c xF E2 λE3 b=>if b=true then e xF E3 (λE4 k v=>k.fz=true/\I E4 (some v))else I E3 none)(h3:∀E0',S E0'->Q E0' (.ow false) (.list (l.filterMap g)))(hl:l.length<=most)(hs:tg.slots=cs:=by rfl)(nd:jS cs=true:=by rfl):yO cs (l.map enc) tg c (c8 most e) E1 Q:=by
 obtain⟨hc0,_⟩:=jI (gH nd) h0;refine⟨E0,λi ys E=>ys=(l.take i).filterMap g/\∃E5,bE cs E=some E5/\S E5,h0,⟨rfl,E0,hc0,hS⟩,?_,?_⟩
 .rintro i d ys E hd⟨rfl,E5,hE,hS5⟩;rw[O4]at hd;obtain⟨a,ha,rfl⟩:=Px.mp hd;have hi:=cQ ha;obtain⟨hc5,_⟩:=jI (gH nd) hE;have hlen:((l.take i).filterMap g).length<most:=by have:=List.length_filterMap_le g (l.take i);rw[OM]at this;lia
  obtain⟨E2,hE2,hb⟩:=h2 a (OD ha) E5 hS5 (λE4 o=>match o with
   |some v=>((l.take i).filterMap g).length<most/\((l.take i).filterMap g++[v]=(l.take (i+1)).filterMap g/\∃E5,bE cs E4=some E5/\S E5)
   |none=>(l.take i).filterMap g=(l.take (i+1)).filterMap g/\∃E5,bE cs E4=some E5/\S E5) (λE4 E6 hE4 hS6=>by
   cases hg:g a with
   |none=>
    refine⟨?_,E6,hE4,hS6⟩;rw[take_snoc ha,Rc,PX,hg];exact(OV _).symm
   |some v=>
    refine⟨hlen,?_,E6,hE4,hS6⟩;rw[take_snoc ha,Rc,PX,hg];rfl)
  exact⟨E2,(qg hs nd hE hc5).trans hE2,hb⟩
 rintro ys E⟨rfl,E5,hE,hS5⟩;rw[NS,P4];exact⟨E5,hE,h3 E5 hS5⟩
def qS{α:Type}{l:List α}{enc:α->PyData}{cs:SN}{tg:Tg}{e:DE}{most:Nat}{E1 E0:En}{Q:En->Kd->PyData->Prop}(g:α->PyData)(h0:bE cs E1=some E0)(h2:∀a,a∈l->∀I:En->PyData->Prop,(∀E4,bE cs E4=some E0->I E4 (g a))->∃E2,cI tg (enc a) E0=some E2/\e xF E2 (λE4 k v=>k.fz=true/\I E4 v))(h3:Q E0 (.ow false) (.list (l.map g)))(hl:l.length<=most)(hs:tg.slots=cs:=by rfl)(nd:jS cs=true:=by rfl):yO cs (l.map enc) tg lA (c8 most e) E1 Q:=
 Hh (·=E0) g h0 rfl (λa ha E0' e I hI=>by subst e;exact h2 a ha I λE4 h=>hI E4 _ h rfl) (λE0' e=>by subst e;exact h3) hl hs nd
def jg{α:Type}{l:List α}{enc:α->PyData}{cs:SN}{tg:Tg}{c:DT}{e:DE}{most:Nat}{E1 E0:En}{Q:En->Kd->PyData->Prop}(g:α->Option PyData)(h0:bE cs E1=some E0)(h2:∀a,a∈l->∀I:En->Option PyData->Prop,(∀E4,bE cs E4=some E0->I E4 (g a))->∃E2,cI tg (enc a) E0=some E2/\c xF E2 λE3 b=>if b=true then e xF E3 (λE4 k v=>k.fz=true/\I E4 (some v))else I E3 none)(h3:Q E0 (.ow false) (.list (l.filterMap g)))(hl:l.length<=most)(hs:tg.slots=cs:=by rfl)(nd:jS cs=true:=by rfl):yO cs (l.map enc) tg c (c8 most e) E1 Q:=
 FP (·=E0) g h0 rfl (λa ha E0' e I hI=>by subst e;exact h2 a ha I λE4 h=>hI E4 _ h rfl) (λE0' e=>by subst e;exact h3) hl hs nd
noncomputable abbrev iD (n:Nat):PyData:=.int (n:Int)
noncomputable abbrev nD (l:SN):PyData:=.list (l.map iD)
noncomputable abbrev dB (e:Nat×Nat):PyData:=.tuple [iD e.1,iD e.2]
noncomputable abbrev wD (m:Nat)(es:Rv):PyData:=.tuple [iD m,.tuple (es.map dB)]
def HN{n:Nat}:jh 0 n=(List.range n).map iD:=by unfold jh;refine P5 λi _=>?_;rw[Int.zero_add]
def Kq{n:Nat}:jh 1 n=(List.range n).map λi=>iD (i+1):=by unfold jh;refine P5 λi _=>?_;show PyData.int _=PyData.int _;congr 1;lia
def qN{xs:SA}{i:Nat}:cR xs (i:Int)=xs[i]?:=by unfold cR mZ;rw[if_pos (by lia)];split;{exact rfl};rw[OL (by lia)];rfl
def AU{n i:Nat}(h:i<n):j8 n (i:Int)=some i:=by unfold j8;rw[if_pos (by lia),if_pos (by lia)];rfl
def jH{n i:Nat}{Q:Nat->Prop}(h:i<n)(q:Q i):au (j8 n (i:Int)) Q:=by rw[AU h];exact q
def vN{α β:Type}{o:Option α}{f:α->β}{Q:β->Prop}:au (o.map f) Q=au o λa=>Q (f a):=by cases o<;>rfl
def qB{α:Type}{l:List α}{f:α->PyData}{i:Nat}{Q:PyData->Prop}:au (cR (l.map f) (i:Int)) Q=au l[i]? λa=>Q (f a):=by rw[qN,O4,vN]
def rB{α:Type}{l:List α}{f:α->PyData}{a:Nat}:cutD (l.map f) (some (a:Int)) none=(l.drop a).map f:=by unfold cutD;have e1:HT.aO (l.map f).length 0 (some (a:Int))=min a (l.map f).length:=HT.oM _ _ a;have e2:HT.aO (l.map f).length (l.map f).length none=(l.map f).length:=rfl;rw[e1,e2,NS,<-List.map_drop,<-Qz];congr 1;rw[Ph (by rw[OO];lia)];rcases QM a l.length with h|h;{rw[QN h]};rw[QO h,List.drop_length,Qg h]
def vp{α:Type}{l:List α}{f:α->PyData}{b:Nat}:cutD (l.map f) none (some (b:Int))=(l.take b).map f:=by unfold cutD;have e1:HT.aO (l.map f).length (l.map f).length (some (b:Int))=min b (l.map f).length:=HT.oM _ _ b;have e2:HT.aO (l.map f).length 0 none=0:=rfl;rw[e1,e2,NS,Qc,Nat.sub_zero,<-Qz];congr 1;rcases QM b l.length with h|h;{rw[QN h]};rw[QO h,P4,Ph h]
def wG{α:Type}{l:List α}{f:α->PyData}{a b:Nat}:cutD (l.map f) (some (a:Int)) (some (b:Int))=((l.take b).drop a).map f:=by unfold cutD;have e1:HT.aO (l.map f).length 0 (some (a:Int))=min a (l.map f).length:=HT.oM _ _ a;have e2:HT.aO (l.map f).length (l.map f).length (some (b:Int))=min b (l.map f).length:=HT.oM _ _ b;rw[e1,e2,NS,<-List.map_drop,<-Qz];congr 1;rw[List.drop_take];rcases QM a l.length with h|h;{rw[QN h];rcases QM b l.length with g|g;{rw[QN g]};rw[QO g,Ph (by rw[OO];lia),Ph (by rw[OO];lia)]};rw[QO h,List.drop_length,Qg h,List.take_nil,List.take_nil]
def uE{α:Type}{l:List α}{f:α->PyData}:d8 (l.map f)=l.zipIdx.map λp=>.tuple [iD p.2,f p.1]:=by unfold d8;rw[List.zipIdx_map,Oc];rfl
theorem zip_map{α β:Type}{l:List α}{m:List β}{f:α->PyData}{g:β->PyData}:((l.map f).zip (m.map g)).map (λp=>PyData.tuple [p.1,p.2])=(l.zip m).map λp=>.tuple [f p.1,g p.2]:=by rw[List.zip_map,Oc];rfl
def xw{α:Type}{l:List α}{f:α->PyData}{Q:PyData->Prop}:au (cR (l.map f) 0) Q=au l[0]? λa=>Q (f a):=qB (i:=0)
def yw{α:Type}{l:List α}{f:α->PyData}{Q:PyData->Prop}:au (cR (l.map f) 1) Q=au l[1]? λa=>Q (f a):=qB (i:=1)
def ay{α:Type}{o:Option α}{a:α}{Q:α->Prop}(h:o=some a)(q:Q a):au o Q:=by rw[h];exact q
def uW{a b:Nat}:(a:Int)%(b:Int)=((a%b:Nat):Int):=(Int.natCast_emod a b).symm
def wZ{a b:Nat}:(a:Int)/(b:Int)=((a/b:Nat):Int):=(Int.natCast_ediv a b).symm
def xY{a b:Nat}:((a:Int)<(b:Int))=(a<b):=propext QA
def yz{a b:Nat}:((a:Int)<=(b:Int))=(a<=b):=propext Int.ofNat_le
def cast_eq{a b:Nat}:((a:Int)=(b:Int))=(a=b):=propext Int.ofNat_inj
def cast_pos{a:Nat}:((0:Int)<(a:Int))=(0<a):=propext Int.natCast_pos
def Fb{a b:Nat}:(if b<a then(b:Int)else(a:Int))=((min a b:Nat):Int):=by split<;>lia
def Ei{a b:Nat}:(if a<b then(b:Int)else(a:Int))=((max a b:Nat):Int):=by split<;>lia
def Er{a b:Nat}:(if b>a then(b:Int)else(a:Int))=((max a b:Nat):Int):=by split<;>lia
def rj{ds:SA}:lf (.tuple ds)=ds.all lf:=lZ ds
def yt{p:Bool}{ds:SA}:flat (.ow p) (.list ds)=ds.all lf:=rfl
def qe{α β:Type}{l:List α}{f:α->β}{p:β->Bool}:(l.map f).all p=l.all λa=>p (f a):=by rw[List.all_map];rfl
def Bm{α:Type}{l:List α}:(l.all λ_=>true)=true:=by rw[N7];exact λ_ _=>rfl
def yZ{n:Nat}:lf (iD n)=true:=rfl
def vR{e:Nat×Nat}:lf (dB e)=true:=rfl
def Fg{m:Nat}{es:Rv}:lf (wD m es)=true:=by rw[rj];show(lf (iD m)&&(lf (.tuple (es.map dB))&&true))=true;rw[rj,qe];simp[yZ,vR]
def LY:type_of%@rj/\type_of%@yt/\type_of%@qe/\type_of%@Bm/\type_of%@yZ/\type_of%@vR/\type_of%@Fg/\(decide True=true)/\(∀{ds:SA},lf (.list ds)=false)/\(∀{α:Type}{l m:List α}{p:α->Bool},(l++m).all p=(l.all p&&m.all p)):=⟨@rj,@yt,@qe,@Bm,@yZ,@vR,@Fg,rfl,rfl,(by intros;exact List.all_append)⟩
def dz:(type_of%LY)/\type_of%@HN/\type_of%@Kq/\type_of%@qB/\type_of%@xw/\type_of%@yw/\type_of%@vN/\type_of%@rB/\type_of%@vp/\type_of%@wG/\type_of%@uE/\type_of%@zip_map/\type_of%@uW/\type_of%@wZ/\type_of%@xY/\type_of%@yz/\type_of%@cast_eq/\type_of%@cast_pos/\type_of%@aY/\type_of%@Fb/\type_of%@Ei/\type_of%@Er /\
 (∀{α β:Type}{f:α->β}{l:List α},(l.map f).length=l.length)/\(∀{n:Nat},(List.range n).length=n)/\(∀{n:Nat},(n:Int).toNat=n):=
 ⟨LY,@HN,@Kq,@qB,@xw,@yw,@vN,@rB,@vp,@wG,@uE,@zip_map,@uW,@wZ,@xY,@yz,@cast_eq,@cast_pos,@aY,@Fb,@Ei,@Er,(by intros;exact NS ..),(by intros;exact O3),(by intros;exact Pq _)⟩
def xo{α β:Type}(f:α->β){l:List α}:∀{m:List β},m.Perm (l.map f)->∃l':List α,l'.Perm l/\m=l'.map f:=by
 have:∀{a b:List β},a.Perm b->∀l:List α,b=l.map f->∃l':List α,l'.Perm l/\a=l'.map f:=by
  intro a b h;induction h with
  |nil=>intro l e;exact⟨l,.refl _,e⟩
  |cons x _ ih=>
   intro l e;cases l with
   |nil=>cases e
   |cons y l=>rw[OP,PU]at e;obtain⟨l',p,e'⟩:=ih l e.2;exact⟨y::l',p.cons _,by rw[e.1,e',OP]⟩
  |swap x y z=>
   intro l e
   match l,e with
   |[],e=>cases e
   |[_],e=>rw[OP,PU]at e;cases e.2
   |u::v::l,e=>rw[OP,OP,PU,PU]at e;exact⟨v::u::l,List.Perm.swap _ _ _,by rw[OP,OP,e.1,e.2.1,e.2.2]⟩
  |trans _ _ ih1 ih2=>intro l e;obtain⟨l1,p1,e1⟩:=ih2 l e;obtain⟨l2,p2,e2⟩:=ih1 l1 e1;exact⟨l2,p2.trans p1,e2⟩
 intro m h;exact this h l rfl
def Gx{ps:Rv}{P:Kd->PyData->Prop}(h:ps.length<=1000)(q:∀qs:Rv,qs.Perm ps->P (.ow false) (.list (qs.map dB))):qR [.list (ps.map dB)] P:=by refine⟨ps.map (λe:Nat×Nat=>((e.1:Int),(e.2:Int))),by rw[Oc];rfl,by rw[NS];exact h,λms p=>?_⟩;obtain⟨l,hl,rfl⟩:=xo _ p;have:=q l hl;rw[Oc];exact this
def Gz{ns:SN}{P:Kd->PyData->Prop}(h:ns≠[])(q:∀m:Nat,m∈ns->(∀n∈ns,m<=n)->P .sh (iD m)):uC [nD ns] P:=by refine⟨ns.map (λn:Nat=>(n:Int)),by rw[Oc];rfl,λe=>h (List.map_eq_nil_iff.mp e),λM hM le=>?_⟩;obtain⟨m,hm,rfl⟩:=NT.mp hM;exact q m hm λn hn=>by have:=le _ (NT.mpr ⟨n,hn,rfl⟩);lia
def JU{bs:SJ}{P:Kd->PyData->Prop}(q:P .sh (.bool (bs.all id))):zR [.list (bs.map .bool)] P:=⟨bs,rfl,q⟩
def B9{a b:Nat}:iD a=iD b↔a=b:=⟨λh=>by cases h;rfl,λh=>by rw[h]⟩
def xG{a b:Nat×Nat}:dB a=dB b↔a=b:=by refine⟨λh=>?_,λh=>by rw[h]⟩;rw[Qo,PU,PU,PyData.int.injEq,PyData.int.injEq]at h;exact Prod.ext (by have:=h.1;lia) (by have:=h.2.1;lia)
end Dv
namespace Gr
inductive R(E:Nat->Nat->Prop) (p:Nat):Nat->Nat->Prop
 |zero:R E p 0 p
 |step {d x y:Nat}:R E p d x->E x y->R E p (d+1) y
noncomputable def f9 (E:Nat->Nat->Prop) (p x d:Nat):Prop:=R E p d x/\∀e,e<d->¬R E p e x
section
variable{E:Nat->Nat->Prop}{p:Nat}
def f9.eq{x d e:Nat}(h:f9 E p x d)(g:f9 E p x e):d=e:=by rcases Rf d e with l|l|l;{exact absurd h.1 (g.2 d l)};{exact l};exact absurd g.1 (h.2 e l)
theorem Cq:∀(n:Nat){x d:Nat},d<=n->R E p d x->∃e,e<=d/\f9 E p x e
 |0,x,d,l,h=>by
  obtain rfl:d=0:=by lia
  exact⟨0,N5 _,h,λe he=>absurd he (P6 e)⟩
 |n+1,x,d,l,h=>by by_cases c:∃e,e<d/\R E p e x;{obtain⟨e,he,hr⟩:=c;obtain⟨e',h1,h2⟩:=Cq n (show e<=n by lia) hr;exact⟨e',by lia,h2⟩};exact⟨d,N5 _,h,λe he hr=>c ⟨e,he,hr⟩⟩
open Classical in
noncomputable def dst (E:Nat->Nat->Prop) (p x:Nat):Nat:=if h:∃d,f9 E p x d then Classical.choose h else 0
def vV{x d:Nat}(h:f9 E p x d):dst E p x=d:=by have h':∃d,f9 E p x d:=⟨d,h⟩;unfold dst;rw[dif_pos h'];exact(Classical.choose_spec h').eq h
def BC{x d:Nat}(h:R E p d x):f9 E p x (dst E p x):=by obtain⟨e,_,g⟩:=Cq d (N5 _) h;rw[vV g];exact g
def R.trans{q:Nat}{d e x:Nat}(h:R E p d q)(g:R E q e x):R E p (d+e) x:=by
 induction g with
 |zero=>exact h
 |step _ s ih=>exact ih.step s
def R.head{q d x:Nat}(h:E p q)(g:R E q d x):R E p (1+d) x:=R.trans (R.step .zero h) g
def R.symm(sy:∀x y,E x y->E y x){d x:Nat}(h:R E p d x):R E x d p:=by
 induction h with
 |zero=>exact .zero
 |step _ s ih=>have:=R.head (sy _ _ s) ih;rwa[Nat.add_comm]at this
structure lR(E:Nat->Nat->Prop) (p r:Nat)(f:Nat->Option Nat)(d9:SN):Prop where
 sound:∀x d,f x=some d->f9 E p x d
 upto:∀x d,d<=r->R E p d x->∃e,f x=some e
 low:∀x d,f x=some d->d<=r
 d9:∀x,x∈d9↔f x=some r
structure fQ(E:Nat->Nat->Prop) (r:Nat)(f:Nat->Option Nat)(d9:SN)(g:Nat->Option Nat)(reached:SN):Prop where
 ext:∀x d,f x=some d->g x=some d
 new:∀x d,g x=some d->f x=some d\/(f x=none/\d=r+1/\∃h,h∈d9/\E h x)
 got:∀x,x∈reached↔(f x=none/\g x=some (r+1))
def lR.start:lR E p 0 (λx=>if x=p then some 0 else none) [p]:=by
 refine⟨λx d h=>?_,λx d l h=>?_,λx d h=>?_,λx=>?_⟩;{by_cases c:x=p;{rw[if_pos c]at h;cases h;rw[c];exact⟨.zero,λe he=>absurd he (P6 e)⟩};rw[if_neg c]at h;cases h}
 .obtain rfl:d=0:=by lia
  cases h;exact⟨0,if_pos rfl⟩
 .by_cases c:x=p;{rw[if_pos c]at h;cases h;exact N5 _};rw[if_neg c]at h;cases h
 rw[NV];constructor;{intro e;exact if_pos e};intro h;by_cases c:x=p;{exact c};rw[if_neg c]at h;cases h
def fQ.start{r:Nat}{f:Nat->Option Nat}:fQ E r f d9 f []:=by refine⟨λx d h=>h,λx d h=>.inl h,λx=>?_⟩;constructor;{intro h;cases h};rintro⟨h1,h2⟩;rw[h1]at h2;cases h2
def fQ.put{r:Nat}{f g:Nat->Option Nat}{h y:Nat}(B:fQ E r f d9 g reached)(he:h∈d9)(hy:E h y)(n:g y=none):fQ E r f d9 (λx=>if x=y then some (r+1)else g x) (reached++[y]):=by
 have fy:f y=none:=by
  cases e:f y with
  |none=>rfl
  |some d=>rw[B.ext y d e]at n;cases n
 refine⟨λx d e=>?_,λx d e=>?_,λx=>?_⟩;{by_cases c:x=y;{rw[c,fy]at e;cases e};show(if x=y then _ else _)=_;rw[if_neg c];exact B.ext x d e};{by_cases c:x=y;{rw[if_pos c]at e;cases e;rw[c];exact .inr ⟨fy,rfl,h,he,hy⟩};rw[if_neg c]at e;exact B.new x d e};rw[O7,NV,B.got x];constructor;{rintro (⟨h1,h2⟩|rfl);{refine⟨h1,?_⟩;by_cases c:x=y;{exact if_pos c};show(if x=y then _ else _)=_;rw[if_neg c];exact h2};exact⟨fy,if_pos rfl⟩};rintro⟨h1,h2⟩;by_cases c:x=y;{exact .inr c};rw[if_neg c]at h2;exact .inl ⟨h1,h2⟩
theorem fQ.none{r:Nat}{f g:Nat->Option Nat}(B:fQ E r f d9 g reached){x:Nat}(h:g x=.none):f x=.none:=by
 cases e:f x with
 |none=>rfl
 |some d=>rw[B.ext x d e]at h;cases h
def fQ.at{r:Nat}{f g:Nat->Option Nat}(B:fQ E r f d9 g reached)(A:lR E p r f d9){h:Nat}(he:h∈d9):g h=some r:=B.ext h r ((A.d9 h).mp he)
def lR.next{r:Nat}{f g:Nat->Option Nat}{d9 reached:SN}(A:lR E p r f d9)(B:fQ E r f d9 g reached)(all:∀h,h∈d9->∀x,E h x->g x≠none):lR E p (r+1) g reached:=by
 refine⟨λx d e=>?_,λx d l h=>?_,λx d e=>?_,λx=>?_⟩;{rcases B.new x d e with h|⟨h1,rfl,h,he,hx⟩;{exact A.sound x d h};have rh:=(A.sound h r ((A.d9 h).mp he)).1;refine⟨rh.step hx,λe he hr=>?_⟩;obtain⟨d,hd⟩:=A.upto x e (by lia) hr;rw[h1]at hd;cases hd}
 .by_cases c:d<=r;{obtain⟨e,he⟩:=A.upto x d c h;exact⟨e,B.ext x e he⟩};obtain rfl:d=r+1:=by lia
  cases h with
  |@step _ y _ hy hyx=>
   obtain⟨e,he⟩:=A.upto y r (N5 _) hy;have el:=A.low y e he;by_cases ce:e=r
   .have:=all y ((A.d9 y).mpr (ce▸he)) x hyx;cases e':g x with
    |none=>exact absurd e' this
    |some d=>exact⟨d,rfl⟩
   obtain⟨e',he'⟩:=A.upto x (e+1) (by lia) ((A.sound y e he).1.step hyx);exact⟨e',B.ext x e' he'⟩
 .rcases B.new x d e with h|⟨_,rfl,_⟩;{have:=A.low x d h;lia};exact N5 _
 rw[B.got x];constructor;{exact λh=>h.2};intro h;refine⟨?_,h⟩;rcases B.new x (r+1) h with h'|⟨h',_⟩;{have:=A.low x _ h';lia};exact h'
def lR.done{r:Nat}{f:Nat->Option Nat}(A:lR E p r f []):∀{d x:Nat},R E p d x->∃e,f x=some e:=by
 intro d x h;induction h with
 |zero=>exact A.upto p 0 (ON _) .zero
 |@step d x y _ hxy ih=>
  obtain⟨e,he⟩:=ih;have el:=A.low x e he;have ne:e≠r:=λc=>by have:=(A.d9 x).mpr (c▸he);cases this
  exact A.upto y (e+1) (by lia) ((A.sound x e he).1.step hxy)
def lR.val{r:Nat}{f:Nat->Option Nat}(A:lR E p r f []){x d:Nat}(h:R E p d x):f x=some (dst E p x):=by obtain⟨e,he⟩:=A.done h;rw[he,vV (A.sound x e he)]
end
noncomputable def cnt (f:Nat->Option Nat):Nat->Nat
 |0=>0
 |m+1=>cnt f m+(if f m=none then 1 else 0)
theorem wo{f g:Nat->Option Nat}(h:∀x,g x=none->f x=none):∀m,cnt g m<=cnt f m
 |0=>N5 _
 |m+1=>by have:=wo h m;unfold cnt;by_cases c:g m=none;{rw[if_pos c,if_pos (h m c)];lia};rw[if_neg c];lia
theorem CQ{f g:Nat->Option Nat}(h:∀x,g x=none->f x=none){y:Nat}(fy:f y=none)(gy:g y≠none):∀m,y<m->cnt g m<cnt f m
 |0,l=>absurd l (P6 _)
 |m+1,l=>by unfold cnt;by_cases c:y=m;{have:=wo h m;rw[<-c,if_neg gy,if_pos fy,c];lia};have:=CQ h fy gy m (by lia);by_cases c:g m=none;{rw[if_pos c,if_pos (h m c)];lia};rw[if_neg c];lia
noncomputable def cT (es:Rv) (x y:Nat):Prop:=(x,y)∈es\/(y,x)∈es
def mK(x y:Nat)(h:cT es x y):cT es y x:=h.elim .inr .inl
noncomputable def dW (m:Nat)(es:Rv):Prop:=∀p,p<m->∀x,x<m->∃d,R (cT es) p d x
def Gk{m:Nat}(h:∀k,0<k->k<m->∃p,p<k/\(p,k)∈es):dW m es:=by
 have z:∀n x,x<n->x<m->∃d,R (cT es) x d 0:=by
  intro n;induction n with
  |zero=>exact λx h _=>absurd h (P6 _)
  |succ n ih=>intro x hx hm;by_cases c:x=0;{rw[c];exact⟨0,.zero⟩};obtain⟨q,hq,he⟩:=h x (by lia) hm;obtain⟨d,hd⟩:=ih q (by lia) (by lia);exact⟨1+d,R.head (.inr he) hd⟩
 intro p hp x hx;obtain⟨d,hd⟩:=z (p+1) p (by lia) hp;obtain⟨e,he⟩:=z (x+1) x (by lia) hx;exact⟨d+e,hd.trans (he.symm mK)⟩
def wR{m:Nat}{nm:Nat->Nat}(h:dW m es)(onto:∀x,x<m->∃a,a<m/\nm a=x)(e:∀a b,(a,b)∈es->cT fs (nm a) (nm b)):dW m fs:=by
 intro p hp x hx;obtain⟨a,ha,rfl⟩:=onto p hp;obtain⟨b,hb,rfl⟩:=onto x hx;obtain⟨d,hd⟩:=h a ha b hb;have go:∀{d b:Nat},R (cT es) a d b->R (cT fs) (nm a) d (nm b):=by
  intro d b hd;induction hd with
  |zero=>exact .zero
  |step _ s ih=>refine R.step ih ?_;rcases s with s|s;{exact e _ _ s};exact mK _ _ (e _ _ s)
 exact⟨d,go hd⟩
theorem ji:∀(m:Nat)(l:SN),l.Nodup->(∀x∈l,x<m)->l.length<=m
 |0,[],_,_=>N5 _
 |0,x::_,_,h=>absurd (h x (N6 ..)) (P6 _)
 |m+1,l,nd,h=>by
  have h1:(l.erase m).length<=m:=ji m (l.erase m) (nd.sublist (List.erase_sublist ..)) λx hx=>by have:=(nd.mem_erase_iff.mp hx);have:=h x this.2;lia
  have h2:l.length<=(l.erase m).length+1:=by rw[List.length_erase];split<;>lia
  lia
noncomputable def nb (x:Nat)(e:Nat×Nat):Option Nat:=if e.1=x then some e.2 else if e.2=x then some e.1 else none
noncomputable def gb (es:Rv) (x:Nat):SN:=es.filterMap (nb x)
def rP{x y:Nat}(h:nb x e=some y):e=(x,y)\/e=(y,x):=by obtain⟨a,b⟩:=e;unfold nb at h;by_cases c:a=x;{rw[if_pos c]at h;cases h;rw[c];exact .inl rfl};rw[if_neg c]at h;by_cases c2:b=x;{rw[if_pos c2]at h;cases h;rw[c2];exact .inr rfl};rw[if_neg c2]at h;cases h
def se{x y:Nat}:y∈gb es x↔cT es x y:=by unfold gb;rw[RB];constructor;{rintro⟨e,he,h⟩;rcases rP h with rfl|rfl;{exact .inl he};exact .inr he};rintro (h|h);{exact⟨_,h,if_pos rfl⟩};refine⟨_,h,?_⟩;show(if y=x then some x else if x=x then some y else none)=some y;by_cases c:y=x;{rw[if_pos c,c]};rw[if_neg c,if_pos rfl]
def FJ{x:Nat}:gb (es++fs) x=gb es x++gb fs x:=Rc ..
structure Good(m:Nat)(es:Rv):Prop where
 lt:∀e∈es,e.1<e.2/\e.2<m
 nd:es.Nodup
def Good.JE{m:Nat}(g:Good m es){x y:Nat}(h:cT es x y):x<m/\y<m:=by rcases h with h|h;{have:x<y/\y<m:=g.lt _ h;lia};have:y<x/\x<m:=g.lt _ h;lia
def Good.Cm{m:Nat}(g:Good m es) (x:Nat):(gb es x).Nodup:=by unfold gb List.Nodup;rw[List.pairwise_filterMap];refine List.Pairwise.imp_of_mem ?_ g.nd;intro a b ha hb ne y hy z hz e;subst e;rcases rP hy with rfl|rfl<;>rcases rP hz with rfl|rfl;{exact ne rfl};{have h1:x<y/\y<m:=g.lt _ ha;have h2:y<x/\x<m:=g.lt _ hb;lia};{have h1:y<x/\x<m:=g.lt _ ha;have h2:x<y/\y<m:=g.lt _ hb;lia};exact ne rfl
def Good.Gd{m:Nat}(g:Good m es) (x:Nat):(gb es x).length<=m:=ji m _ (g.Cm x) λy hy=>(g.JE (se.mp hy)).2
def Good.perm{m:Nat}(p:fs.Perm es)(g:Good m es):Good m fs:=⟨λe h=>g.lt e (p.mem_iff.mp h),p.nodup_iff.mpr g.nd⟩
def Bo{m:Nat}(p:fs.Perm es)(h:dW m es):dW m fs:=wR (nm:=id) h (λx hx=>⟨x,hx,rfl⟩) λa b h=>.inl (p.mem_iff.mpr h)
noncomputable def sV (ms:SN)(e:Nat×Nat):Nat×Nat:=(min (ms.getD e.1 0) (ms.getD e.2 0),max (ms.getD e.1 0) (ms.getD e.2 0))
def getD_inj{ms:SN}(nd:ms.Nodup){a b:Nat}(ha:a<ms.length)(hb:b<ms.length)(e:ms.getD a 0=ms.getD b 0):a=b:=by rw[OX,OX,O5 ha,O5 hb]at e;have e':ms[a]=ms[b]:=e;rcases Rf a b with l|l|l;{exact absurd e' (List.pairwise_iff_getElem.mp nd a b ha hb l)};{exact l};exact absurd e'.symm (List.pairwise_iff_getElem.mp nd b a hb ha l)
def zA{m:Nat}(pm:ms.Perm (List.range m))(h:dW m ps):dW m (ps.map (sV ms)):=by refine wR (nm:=λa=>ms.getD a 0) h (λx hx=>?_) λa b he=>?_;{obtain⟨i,hi⟩:=Py (pm.mem_iff.mpr (OU.mpr hx));have li:=(Ox.mp hi).1;rw[pm.length_eq,O3]at li;refine⟨i,li,?_⟩;show ms.getD i 0=x;rw[OX,hi];rfl};have hm:sV ms (a,b)∈ps.map (sV ms):=NT.mpr ⟨_,he,rfl⟩;show cT _ (ms.getD a 0) (ms.getD b 0);have e:sV ms (a,b)=(min (ms.getD a 0) (ms.getD b 0),max (ms.getD a 0) (ms.getD b 0)):=rfl;rw[e]at hm;rcases QM (ms.getD a 0) (ms.getD b 0)with l|l;{rw[QN l,Nat.max_eq_right l]at hm;exact .inl hm};rw[QO l,Nat.max_eq_left l]at hm;exact .inr hm
section
variable{E:Nat->Nat->Prop}{p:Nat}
def f9.pred{x d:Nat}(h:f9 E p x (d+1)):∃y,f9 E p y d/\E y x:=by
 obtain⟨h1,h2⟩:=h;cases h1 with
 |@step _ y _ hy hyx=>refine⟨y,⟨hy,λe he hr=>?_⟩,hyx⟩;exact h2 (e+1) (by lia) (hr.step hyx)
theorem f9.chain{m:Nat}(lt:∀x y,E x y->x<m/\y<m)(hp:p<m):∀{d x:Nat},f9 E p x d->∃l:SN,l.length=d+1/\l.Nodup/\(∀y∈l,y<m)/\∀y∈l,∃k,k<=d/\f9 E p y k
 |0,x,h=>by cases h.1;refine⟨[p],rfl,OW.mpr ⟨Oa,Q2⟩,λy hy=>?_,λy hy=>?_⟩;{rw[NV.mp hy];exact hp};rw[NV.mp hy];exact⟨0,N5 _,h⟩
 |d+1,x,h=>by obtain⟨y,hy,hyx⟩:=h.pred;obtain⟨l,l1,l2,l3,l4⟩:=f9.chain lt hp hy;refine⟨x::l,by rw[OF,l1],OW.mpr ⟨λhx=>?_,l2⟩,λz hz=>?_,λz hz=>?_⟩;{obtain⟨k,hk,hd⟩:=l4 x hx;have:=hd.eq h;lia};{rcases NY.mp hz with rfl|hz;{exact(lt _ _ hyx).2};exact l3 z hz};rcases NY.mp hz with rfl|hz;{exact⟨d+1,N5 _,h⟩};obtain⟨k,hk,hd⟩:=l4 z hz;exact⟨k,by lia,hd⟩
def f9.small{m:Nat}(lt:∀x y,E x y->x<m/\y<m)(hp:p<m){d x:Nat}(h:f9 E p x d):d<m:=by obtain⟨l,l1,l2,l3,_⟩:=f9.chain lt hp h;have:=ji m l l2 l3;lia
end
noncomputable def lX:Nat->Nat
 |0=>0
 |b+1=>lX b+b
def wk{a b:Nat}(h:a<=b):lX a<=lX b:=by
 induction b with
 |zero=>
  obtain rfl:a=0:=by lia
  exact N5 _
 |succ b ih=>by_cases c:a=b+1;{rw[c];exact N5 _};exact NZ (ih (by lia)) (Q4 _ _)
theorem xR:∀m,2*lX m<=m*m
 |0=>N5 _
 |m+1=>by have:=xR m;show 2*(lX m+m)<=(m+1)*(m+1);rw[Nat.mul_add,Nat.add_mul,Nat.mul_add];lia
noncomputable def ix (e:Nat×Nat):Nat:=lX e.2+e.1
def Jk(he:e.1<e.2)(hf:f.1<f.2)(h:ix e=ix f):e=f:=by
 obtain⟨a,b⟩:=e;obtain⟨c,d⟩:=f;unfold ix at h;dsimp only at he hf h;have key:∀{a b c d:Nat},a<b->b<d->lX b+a<lX d+c:=λ{a b c d} h1 h2=>by have:=wk (a:=b+1) (b:=d) (by lia);have e:lX (b+1)=lX b+b:=rfl;lia
 rcases Rf b d with l|l|l;{have:=key (c:=c) he l;lia};{subst l;rw[show a=c by lia]};have:=key (c:=a) hf l;lia
def qa{m:Nat}(g:Good m ps):2*ps.length<=m*m:=by have h:=ji (lX m) (ps.map ix) ?_ ?_;{rw[NS]at h;have:=xR m;lia};{unfold List.Nodup;rw[List.pairwise_map];exact List.Pairwise.imp_of_mem (λ{e f} he hf ne h=>ne (Jk (g.lt e he).1 (g.lt f hf).1 h)) g.nd};intro x hx;obtain⟨e,he,rfl⟩:=NT.mp hx;have l:=g.lt e he;have:=wk (a:=e.2+1) (b:=m) (by lia);have e2:lX (e.2+1)=lX e.2+e.2:=rfl;unfold ix;lia
end Gr
local macro_rules | `(tactic| bv_omega) => do let ls ← (List.range 216).toArray.mapM fun k => `(Lean.Parser.Tactic.simpLemma| $(Lean.mkIdent (.str `Dv s!"rr{k}")):ident); `(tactic| dsimp only[$ls,*, Dv.dyr0, Dv.dyr1, Dv.dyr2, Dv.dyr3, Nat.reduceBEq])
local macro_rules | `(tactic| rfl') => do let ls ← (List.range 216).toArray.mapM fun k => `(Lean.Parser.Tactic.simpLemma| $(Lean.mkIdent (.str `Dv s!"rr{k}")):ident); `(tactic| ((try bv_omega); try simp only[$ls,*, Dv.dw, Dv.HD, Dv.dy, Dv.dz, Nat.reduceBEq]))
local macro_rules | `(tactic| simp![$xs,*]) => do let ls ← (List.range 216).toArray.mapM fun k => `(Lean.Parser.Tactic.simpLemma| $(Lean.mkIdent (.str `Dv s!"rr{k}")):ident); let ys : Array (Lean.TSyntax `Lean.Parser.Tactic.simpLemma) := xs.getElems.map fun x => ⟨x.raw⟩; let zs := ls ++ ys; `(tactic| ((try bv_omega); try simp only[$zs,*, Dv.dw, Dv.HD, Dv.dy, Dv.dz, Nat.reduceBEq]))
namespace PB
open PySem L2 Dv
def xK{α:Type}{m k:Nat}{f:Nat->α}{v:α}:((List.range m).map f).set k v=(List.range m).map λi=>if i=k then v else f i:=by refine PC λj=>?_;rw[Q8,NS,O3,O4,O4];by_cases h:j<m;{rw[OB h];by_cases c:k=j;{subst c;rw[if_pos rfl,if_pos h];simp};rw[if_neg c];simp[Ne.symm c]};rw[OL (by rw[O3];lia)];by_cases c:k=j;{subst c;rw[if_pos rfl,if_neg h];rfl};rw[if_neg c];rfl
def F8{α:Type}{m k:Nat}{f:Nat->α}(h:k<m):((List.range m).map f)[k]?=some (f k):=by rw[O4,OB h];rfl
noncomputable def Mm (f:DM) (i n:Nat)(E1:En)(w:PyData)(Q:En->Kd->PyData->Prop):Prop:=∃a p ds m es k d E2,w=.int a/\E1[i]?=some (some (.dp p,.list ds))/\j8 ds.length a=some m/\ds[m]?=some (.list es)/\E1[n]?=some (some (k,d))/\i≠n/\cY E1 n=some E2/\f es [d] λnew v=>Q (E2.set i (some (.dp p,.list (ds.set m (.list new))))) .sh v
def Bw{i n:Nat}:wK f i j n x (o::E) Q=(here (o::E) i=true/\j x (o::E) λE1 _ w=>Mm f i n E1 w Q):=rfl
def Ca{i n a m:Nat}{p:Bool}{E:En}{g:Nat->SA}{Q:En->Kd->PyData->Prop}(h1:E[i]?=some (some (.dp p,.list ((List.range m).map λi=>.list (g i)))))(h2:E[n]?=some (some (.sh,d)))(ne:i≠n)(ha:a<m)(hs:(g a).length<16777216)(q:Q (E.set i (some (.dp p,.list ((List.range m).map λk=>.list (if k=a then g k++[d]else g k))))) .sh .none):Mm cj i n E (iD a) Q:=by
 refine⟨a,p,_,a,g a,.sh,d,E,rfl,h1,?_,F8 ha,h2,ne,?_,?_⟩;{rw[NS,O3];exact AU ha}
 .have:=vt (E:=E) (is:=[n]) (by simp[gQ,h2]);unfold dN at this;cases e:cY E n with
  |none=>rw[e]at this;cases this
  |some E2=>rw[e]at this;exact this
 refine⟨hs,?_⟩;show Q (E.set i (some (.dp p,.list (((List.range m).map λi=>PyData.list (g i)).set a (.list (g a++[d])))))) .sh .none;rw[xK];have e:((List.range m).map λk=>if k=a then PyData.list (g a++[d])else .list (g k))=(List.range m).map λk=>PyData.list (if k=a then g k++[d]else g k):=by refine P5 λk _=>?_;by_cases c:k=a;{rw[if_pos c,if_pos c,c]};rw[if_neg c,if_neg c]
 rw[e];exact q
noncomputable abbrev vO (m:Nat)(es:Rv):PyData:=.list ((List.range m).map λi=>nD (Gr.gb es i))
noncomputable def Ah:bM:=λds Q x=>∃m es,ds=[wD m es]/\m<=60/\Gr.Good m es/\Q [] (.dp false) (vO m es)
def Jy:∀ds Q x,Ah ds Q x->fY (bD [false] Q x) (ini [false] ds++List.replicate 6 none):=by
 rintro _ Q x⟨m,es,rfl,hm,gd,q⟩;unfold fY;rfl';rw[if_pos (by lia)];refine ay rfl (Iq (λ_=>PyData.list []) rfl (λa ha I hI=>?_) ?_ (by rw[O3];lia));{rfl';exact⟨by lia,⟨false,rfl⟩,hI _ rfl⟩};rfl';refine rE (λi E=>Cj λ(o4 o5:Option (Kd×PyData))=>AD (E=[some (.sh,wD m es),some (.sh,iD m),some (.sh,.tuple (es.map dB)),some (.dp false,vO m (es.take i)),o4,o5,none]) (bG o4=true) (bG o5=true)) ⟨none,none,rfl,rfl,rfl⟩ ?_ ?_
 .rintro i⟨a,b⟩_ hi⟨o4,o5,rfl,ho4,ho5⟩;have hab:=gd.lt _ (OD hi);have hab:a<b/\b<m:=hab;simp![ho4,ho5,Bw];have hn:∀k,(Gr.gb (es.take i) k).length<1000:=λk=>by have g2:Gr.Good m (es.take i):=⟨λe he=>gd.lt e (Q5 he),List.Sublist.nodup (List.take_sublist _ _) gd.nd⟩;have:=g2.Gd k;lia
  refine Ca (g:=λk=>(Gr.gb (es.take i) k).map iD) rfl rfl (by lia) (by lia) (by rw[NS];have:=hn a;lia) ?_;simp![ho4,ho5,Bw];refine Ca (g:=λk=>if k=a then(Gr.gb (es.take i) k).map iD++[iD b]else(Gr.gb (es.take i) k).map iD) rfl rfl (by lia) (by lia) (by rw[if_neg (by lia),NS];have:=hn b;lia) ?_;refine⟨some (.sh,iD a),some (.sh,iD b),?_,rfl,rfl⟩;simp only[List.set_cons_succ,List.set_cons_zero];have e:∀k,(if k=b then(if k=a then(Gr.gb (es.take i) k).map iD++[iD b]else(Gr.gb (es.take i) k).map iD)++[iD a]else if k=a then(Gr.gb (es.take i) k).map iD++[iD b]else(Gr.gb (es.take i) k).map iD)=(Gr.gb (es.take (i+1)) k).map iD:=λk=>by rw[take_snoc hi,Gr.FJ,OA];unfold Gr.gb;rw[PX,List.filterMap_nil];unfold Gr.nb;simp only;by_cases c:k=a;{subst c;rw[if_neg (by lia),if_pos rfl,if_pos rfl];rfl};by_cases c2:k=b;{subst c2;rw[if_pos rfl,if_neg c,if_neg (Ne.symm c),if_pos rfl];rfl};rw[if_neg c2,if_neg c,if_neg (Ne.symm c),if_neg (Ne.symm c2)];exact(OV _).symm
  rw[P5 λk _=>congrArg PyData.list (e k)]
 rintro _⟨o4,o5,rfl,ho4,ho5⟩;rw[P4];rfl';exact q
open Classical in
noncomputable def oX (es:Rv) (p x:Nat):Option Nat:=if ∃d,Gr.R (Gr.cT es) p d x then some (Gr.dst (Gr.cT es) p x)else none
noncomputable def oD:Option Nat->PyData
 |none=>.none
 |some n=>iD n
noncomputable abbrev q9 (f:Nat->Option Nat) (m:Nat):PyData:=.list ((List.range m).map λx=>oD (f x))
def Bl{f:Nat->Option Nat}{m y d:Nat}:(((List.range m).map λx=>oD (f x)).set y (iD d))=(List.range m).map λx=>oD (if x=y then some d else f x):=by rw[xK];refine P5 λk _=>?_;by_cases c:k=y;{rw[if_pos c,if_pos c];rfl};rw[if_neg c,if_neg c]
def Hz{m p r:Nat}{f:Nat->Option Nat}(B:Gr.lR (Gr.cT es) p r f []) (x:Nat):f x=oX es p x:=by
 unfold oX;split;{rename_i h;obtain⟨d,h⟩:=h;exact B.val h};rename_i h;cases e:f x with
 |none=>rfl
 |some d=>exact absurd ⟨d,(B.sound x d e).1⟩ h
def C6{m p x:Nat}(cn:Gr.dW m es)(hp:p<m)(hx:x<m):oX es p x=some (Gr.dst (Gr.cT es) p x):=if_pos (cn p hp x hx)
noncomputable def zh:bM:=λds Q x=>∃m es p,ds=[wD m es,iD p]/\m<=60/\Gr.Good m es/\p<m/\Q [] (.ow false) (q9 (oX es p) m)
def Je:eu false [oD o,.none] P=P .sh (.bool o.isNone):=by cases o<;>simp[oD,eu,dx]
def KH:lf (oD o)=true:=by cases o<;>rfl
def Gv{y:Nat}:nD (l++[y])=.list (l.map iD++[iD y]):=by show PyData.list ((l++[y]).map iD)=_;rw[OA];rfl
def HB:∀ds Q x,zh ds Q x->iP Ah (bD [false,false] Q x) (ini [false,false] ds++List.replicate 6 none):=by
 rintro _ Q x⟨m,es,p,rfl,hm,gd,hp,q⟩;unfold iP;rfl';refine⟨m,es,rfl,hm,gd,?_⟩;rfl';have e0:(List.replicate m [PyData.none]).flatten=(List.range m).map λ_=>PyData.none:=by
  clear q hp gd hm;induction m with
  |zero=>rfl
  |succ k ih=>rw[List.replicate_succ',List.flatten_append,ih,Q6,OA];rfl
 rw[e0];refine⟨by lia,⟨by lia,by lia,by lia⟩,jH (by rw[NS,O3];exact hp) ?_⟩;rw[show PyData.int 0=iD 0 from rfl,show((List.range m).map λ_=>PyData.none)=(List.range m).map λx=>oD ((λ_=>none:Nat->Option Nat) x)from rfl,Bl];refine⟨by lia,?_⟩;refine⟨λn E=>LZ λ(r:Nat)(g:Nat->Option Nat)(ed:SN)(k2 k4:Kd)(o5 o6 o7:Option (Kd×PyData))=>L3 (E=[some (.sh,wD m es),some (.sh,iD p),some (k2,vO m es),some (.ow false,q9 g m),some (k4,nD ed),o5,o6,o7]) ((k2=.dp false\/k2=.sh)) ((k4=.ow false\/k4=.sh)) (bG o5=true) (bG o6=true) (bG o7=true) (n=2*Gr.cnt g m+(if ed=[]then 0 else 1)) (Gr.lR (Gr.cT es) p r g ed) (∀x∈ed,x<m),?_,?_⟩;{exact⟨_,0,_,[p],_,_,none,none,none,rfl,.inl rfl,.inl rfl,rfl,rfl,rfl,rfl,Gr.lR.start,λx hx=>by rw[NV.mp hx];exact hp⟩};rintro n _⟨r,g,ed,k2,k4,o5,o6,o7,rfl,hk2,hk4,ho5,ho6,ho7,rfl,B,edm⟩;simp![List.isEmpty_map];refine⟨by rcases hk4 with rfl|rfl<;>rfl,?_⟩;cases ed with
 |nil=>simp![List.isEmpty_nil];have e:q9 g m=q9 (oX es p) m:=congrArg PyData.list (P5 λx _=>congrArg oD (Hz (m:=m) B x));rw[e];exact q
 |cons e0 er=>
  simp![List.isEmpty_cons,ho5];have f4:k4.fz=true:=by rcases hk4 with rfl|rfl<;>rfl
  rw[if_pos f4];refine⟨by lia,ay rfl ?_⟩;have ne:e0::er≠[]:=Q3 _ _;generalize e0::er=ed at B edm ne⊢;have hE2:∀(k2:Kd),(k2=.dp false\/k2=.sh)->k2.rd=true/\k2.fz=true:=λk h=>by rcases h with rfl|rfl<;>exact⟨rfl,rfl⟩
  refine rE (λi E=>rC λ(g':Nat->Option Nat)(rc:SN)(k2:Kd)(o6 o7:Option (Kd×PyData))=>Fj (E=[some (.sh,wD m es),some (.sh,iD p),some (k2,vO m es),some (.ow false,q9 g' m),some (.sh,nD ed),some (.ow false,nD rc),o6,o7]) ((k2=.dp false\/k2=.sh)) (bG o6=true) (bG o7=true) (Gr.fQ (Gr.cT es) r g ed g' rc) ((∀j h,j<i->ed[j]?=some h->∀x,Gr.cT es h x->g' x≠none)) (rc.Nodup) (∀x∈rc,x<m)) ⟨g,[],k2,o6,o7,rfl,hk2,ho6,ho7,.start,λj h hj=>by lia,Q2,λ_ h=>absurd h Oa⟩ ?_ ?_
  .rintro i h _ hi⟨g',rc,k2,o6,o7,rfl,hk2,ho6,ho7,BI,don,rcn,rcm⟩;have mh:h∈ed:=OD hi;have hm':=edm h mh;obtain⟨rd2,fz2⟩:=hE2 k2 hk2;simp![ho6,rd2];rw[OB hm'];refine ay rfl ?_;simp![fz2];have loop:∀k2,(k2=.dp false\/k2=.sh)->vj (List.map iD (Gr.gb es h)) (Tg.nm 7) (br (aR (aa (eu false) [Arg.ev (aa aK [Arg.pk 3,Arg.pk 7]),Arg.ev (dC PyData.none)])) (ak (gz 3 (aV 7) (aa bS [Arg.ev (aa aK [Arg.pk 3,Arg.pk 6]),Arg.ev (dC (PyData.int 1))])) (cN (iA cj 5 [aV 7]))) bx)
    { nx:=λE=>rC λ(g':Nat->Option Nat)(rc:SN)(k2:Kd)(o6 o7:Option (Kd×PyData))=>Fj (E=[some (.sh,wD m es),some (.sh,iD p),some (k2,vO m es),some (.ow false,q9 g' m),some (.sh,nD ed),some (.ow false,nD rc),o6,o7]) ((k2=.dp false\/k2=.sh)) (bG o6=true) (bG o7=true) (Gr.fQ (Gr.cT es) r g ed g' rc) ((∀j h,j<i+1->ed[j]?=some h->∀x,Gr.cT es h x->g' x≠none)) (rc.Nodup) (∀x∈rc,x<m),rt:=(bD [false,false] Q x).rt,xc:=x }
    [some (.sh,wD m es),some (.sh,iD p),some (k2,vO m es),some (.ow false,q9 g' m),some (.sh,nD ed),some (.ow false,nD rc),some (.sh,iD h),o7]:=by
    intro k2 hk2;refine rE (λi' E=>Eg λ(g':Nat->Option Nat)(rc:SN)(o7:Option (Kd×PyData))=>L7 (E=[some (.sh,wD m es),some (.sh,iD p),some (k2,vO m es),some (.ow false,q9 g' m),some (.sh,nD ed),some (.ow false,nD rc),some (.sh,iD h),o7]) (bG o7=true) (Gr.fQ (Gr.cT es) r g ed g' rc) ((∀j h,j<i->ed[j]?=some h->∀x,Gr.cT es h x->g' x≠none)) ((∀j y,j<i'->(Gr.gb es h)[j]?=some y->g' y≠none)) (rc.Nodup) (∀x∈rc,x<m)) ⟨g',rc,o7,rfl,ho7,BI,don,λj y hj=>by lia,rcn,rcm⟩ ?_ ?_
    .rintro i' y _ hy⟨g',rc,o7,rfl,ho7,BI,don,dni,rcn,rcm⟩;have hyE:Gr.cT es h y:=Gr.se.mp (OD hy);have ym:y<m:=(gd.JE hyE).2;have eh:=BI.at B mh;simp![ho7,OB ym,OB hm',KH,Je];cases gy:g' y with
     |some d=>
      simp only[dw,Option.isNone_some];refine⟨g',rc,some (.sh,iD y),rfl,rfl,BI,don,λj z hj hz=>?_,rcn,rcm⟩
      by_cases c:j=i'
      .subst c;rw[hy]at hz;cases hz;rw[gy];simp
      .exact dni j z (by lia) hz
     |none=>
      have e1:oD (some r)=iD r:=rfl;have e2:(r:Int)+1=((r+1:Nat):Int):=rfl;simp![Option.isNone_none,eh,e1,e2];have yrc:y∉rc:=λh'=>by
       have:=((BI.got y).mp h').2;rw[gy]at this;cases this
      have rcl:=Gr.ji m rc rcn rcm;refine jH ym ⟨by lia,_,rc++[y],some (.sh,iD y),?_,rfl,BI.put mh hyE gy,λj h' hj he x hx=>?_,λj z hj hz=>?_,?_,λx hx=>?_⟩
      .rw[Bl,Gv]
      .show(if x=y then some (r+1)else g' x)≠none
       split
       .exact λh=>(nomatch h)
       .exact don j h' hj he x hx
      .show(if z=y then some (r+1)else g' z)≠none
       split
       .exact λh=>(nomatch h)
       .rename_i c
        by_cases c2:j=i'
        .subst c2;rw[hy]at hz;cases hz;exact absurd rfl c
        .exact dni j z (by lia) hz
      .exact List.nodup_append.mpr ⟨rcn,OW.mpr ⟨Oa,Q2⟩,λa ha b hb e=>by
        cases NV.mp hb;exact yrc (e▸ha)⟩
      .rcases O7.mp hx with h'|h'
       .exact rcm x h'
       .rw[NV.mp h'];exact ym
    .rintro _⟨g',rc,o7,rfl,ho7,BI,don,dni,rcn,rcm⟩;refine⟨g',rc,k2,_,o7,rfl,hk2,rfl,ho7,BI,λj h' hj hh x hx=>?_,rcn,rcm⟩
     by_cases c:j=i
     .subst c;rw[hi]at hh;cases hh;obtain⟨l,hl⟩:=List.mem_iff_getElem?.mp (Gr.se.mpr hx);exact dni l x (cQ hl) hl
     .exact don j h' (by lia) hh x hx
   split;{exact ay rfl (loop _ hk2)};exact ay rfl (loop _ (.inr rfl))
  rintro _⟨g',rc,k2,o6,o7,rfl,hk2,ho6,ho7,BI,don,rcn,rcm⟩;rfl';have all:∀h,h∈ed->∀x,Gr.cT es h x->g' x≠none:=λh hh=>by obtain⟨j,hj⟩:=List.mem_iff_getElem?.mp hh;exact don j h (cQ hj) hj
  refine⟨_,?_,r+1,g',rc,k2,.sh,some (.sh,nD rc),o6,o7,rfl,hk2,.inr rfl,rfl,ho6,ho7,rfl,B.next BI all,rcm⟩;rw[if_neg ne];cases rc with
  |nil=>have:=Gr.wo (f:=g) (g:=g') (λx h=>BI.none h) m;rw[if_pos rfl];lia
  |cons y rc=>obtain⟨h1,h2⟩:=(BI.got y).mp (N6 ..);have:=Gr.CQ (f:=g) (g:=g') (λx h=>BI.none h) h1 (by rw[h2];exact λh=>(nomatch h)) m (rcm y (N6 ..));rw[if_neg (Q3 _ _)];lia
structure fL(m:Nat)(es:Rv):Prop where
 pos:1<=m
 le:m<=60
 gd:Gr.Good m es
 cn:Gr.dW m es
def fL.few{m:Nat}(W:fL m es):es.length<=1800:=by have h:=Gr.qa W.gd;have:=R7 W.le W.le;lia
noncomputable abbrev aL (es:Rv) (p x:Nat):Nat:=Gr.dst (Gr.cT es) p x
noncomputable abbrev kL (m:Nat)(es:Rv) (p:Nat):PyData:=.list ((List.range m).map λx=>iD (aL es p x))
def Ks{m p:Nat}(cn:Gr.dW m es)(hp:p<m):q9 (oX es p) m=kL m es p:=congrArg PyData.list (P5 λx hx=>by rw[C6 cn hp (OU.mp hx)];rfl)
noncomputable def zS:bM:=λds Q x=>∃m es,∃p:Int,ds=[wD m es,.int p]/\(0<=p/\p<m->Q [] .sh .none)/\(¬(0<=p/\p<m)->x "NoPlace" .none)
def JN:∀ds Q x,zS ds Q x->fV (bD [false,false] Q x) (ini [false,false] ds++List.replicate 0 none):=by rintro _ Q x⟨m,es,p,rfl,q,r⟩;unfold fV;rfl';split;{rename_i h;split;{rename_i h2;exact r λz=>h2 z.2};rename_i h2;exact q ⟨h,Decidable.of_not_not h2⟩};rename_i h;exact r λz=>h z.1
noncomputable def zw:bM:=λds Q x=>∃m es,∃p:Int,ds=[wD m es,.int p]/\fL m es/\(∀k:Nat,p=k->k<m->Q [] (.ow false) (kL m es k))/\(¬(0<=p/\p<m)->x "NoPlace" .none)
def HP:∀ds Q x,zw ds Q x->lC zS zh (bD [false,false] Q x) (ini [false,false] ds++List.replicate 0 none):=by
 rintro _ Q x⟨m,es,p,rfl,W,q,r⟩;unfold lC;rfl';refine⟨m,es,p,rfl,λhp=>?_,r⟩;rfl';obtain⟨k,rfl⟩:=Int.eq_ofNat_of_zero_le hp.1;have hk:k<m:=by lia
 refine⟨m,es,k,rfl,W.le,W.gd,hk,?_⟩;rfl';rw[Ks W.cn hk];exact q k rfl hk
noncomputable abbrev Th:=Nat ⊕ (Nat×Nat)
noncomputable def aH:Th->PyData
 |.inl x=>iD x
 |.inr e=>dB e
noncomputable def TV (m:Nat):Th->Prop
 |.inl x=>x<m
 |.inr e=>e.1<m/\e.2<m
noncomputable def td (es:Rv) (p:Nat):Th->Nat
 |.inl x=>aL es p x
 |.inr e=>min (aL es p e.1) (aL es p e.2)
def nN:lf (aH t)=true:=by cases t<;>rfl
def gJ:aH a=aH b↔a=b:=by refine⟨λh=>?_,λh=>by rw[h]⟩;cases a<;>cases b;{exact congrArg _ (B9.mp h)};{cases h};{cases h};exact congrArg _ (xG.mp h)
noncomputable def zT:bM:=λds Q x=>∃m es p,∃e:Nat×Nat,ds=[kL m es p,dB e]/\e.1<m/\e.2<m/\Q [] .sh (iD (td es p (.inr e)))
def J6:∀ds Q x,zT ds Q x->jT (bD [false,false] Q x) (ini [false,false] ds++List.replicate 0 none):=by rintro _ Q x⟨m,es,p,e,rfl,h1,h2,q⟩;unfold jT;simp![OB h1,OB h2];exact q
noncomputable def An:bM:=λds Q x=>∃m es p t,ds=[kL m es p,aH t]/\TV m t/\Q [] .sh (iD (td es p t))
def IF:∀ds Q x,An ds Q x->kW zT (bD [false,false] Q x) (ini [false,false] ds++List.replicate 0 none):=by
 rintro _ Q x⟨m,es,p,t,rfl,h,q⟩;unfold kW;cases t with
 |inl k=>have h:k<m:=h;simp![aH,OB h];exact q
 |inr e=>simp![aH];refine⟨m,es,p,e,rfl,h.1,h.2,?_⟩;rfl';exact q
noncomputable def bQ (k:Str) (m:Nat)(es:Rv):List Th:=(if k="ties" then []else(List.range m).map Sum.inl)++(if k="places" then []else es.map Sum.inr)
def wN{m:Nat}(g:Gr.Good m es):∀t∈bQ k m es,TV m t:=by intro t ht;rcases O7.mp ht with h|h;{split at h;{cases h};obtain⟨x,hx,rfl⟩:=NT.mp h;exact OU.mp hx};split at h;{cases h};obtain⟨e,he,rfl⟩:=NT.mp h;have:=g.lt e he;exact⟨by show e.1<m;lia,this.2⟩
noncomputable def Ae:bM:=λds Q x=>∃m es k,ds=[wD m es,.str k]/\fL m es/\Q [] (.ow false) (.list ((bQ k m es).map aH))
def Iu:∀ds Q x,Ae ds Q x->kY (bD [false,false] Q x) (ini [false,false] ds++List.replicate 4 none):=by
 rintro _ Q x⟨m,es,k,rfl,W,q⟩;have e:(bQ k m es).map aH=(if k="ties" then []else(List.range m).map iD)++(if k="places" then []else es.map dB):=by unfold bQ;rw[OA];congr 1;{split;{rfl};rw[Oc];rfl};split;{rfl};rw[Oc];rfl
 have hm:=W.le;have hf:=W.few;unfold kY;rfl';rw[e]at q;by_cases c1:k="ties";{by_cases c2:k="places";{subst c1;exact absurd c2 (by decide)};simp only[if_pos c1,if_neg c2,dv,dw,dx,dy,dz,Nat.reduceBEq]at q⊢;exact⟨by lia,by lia,q⟩};by_cases c2:k="places";{simp only[if_neg c1,if_pos c2,dv,dw,dx,dy,dz,Nat.reduceBEq,OV]at q⊢;exact⟨⟨by lia,by lia⟩,by lia,by lia,q⟩};simp only[if_neg c1,if_neg c2,dv,dw,dx,dy,dz,Nat.reduceBEq]at q⊢;exact⟨⟨by lia,by lia⟩,by lia,q⟩
def uH{ms:SN}{m:Nat}(pm:ms.Perm (List.range m)){a:Nat}(ha:a<m):ms[a]?=some (ms.getD a 0)/\ms.getD a 0<m:=by
 have h:a<ms.length:=by rw[pm.length_eq,O3];exact ha
 have e:ms.getD a 0=ms[a]:=by rw[OX,O5 h];rfl
 rw[e];exact⟨O5 h,OU.mp (pm.mem_iff.mp (Pz h))⟩
end PB
namespace Dv
open PySem L2
def dd:type_of%@put_kv2/\type_of%@kvP_len/\type_of%@in_ts/\type_of%@nin_ts/\type_of%@list_ts/\(∀{i:Int},lH (.int i)=true):=⟨@put_kv2,@kvP_len,@in_ts,@nin_ts,@list_ts,rfl⟩
def qD{α:Type}{l:List α}{enc:α->PyData}{tg:Tg}{b:DS}{D:iz}{E1:En}(I:Nat->En->Prop)(h0:I 0 E1)(hs:∀(J:En->Prop) i a E,l[i]?=some a->(∀E',I (i+1) E'->J E')->I i E->∃E2,cI tg (enc a) E=some E2/\b { D with nx:=J } E2)(he:∀E,I l.length E->D.nx E):vj (l.map enc) tg b D E1:=rE I h0 (λi a E ha hi=>hs (I (i+1)) i a E ha (λ_ h=>h) hi) he
def jE{n:Nat}{enc:Nat->PyData}{tg:Tg}{b:DS}{D:iz}{E1:En}(I:Nat->En->Prop)(h0:I 0 E1)(hs:∀(J:En->Prop) i E,i<n->(∀E',I (i+1) E'->J E')->I i E->∃E2,cI tg (enc i) E=some E2/\b { D with nx:=J } E2)(he:∀E,I n E->D.nx E):vj ((List.range n).map enc) tg b D E1:=Ja I h0 (λi E ha hi=>hs (I (i+1)) i E ha (λ_ h=>h) hi) he
def fE{a b:DS}{D:iz}{E:En}(J0:En->Prop)(h1:∀J:En->Prop,(∀E',J0 E'->J E')->a { D with nx:=J } E)(h2:∀B:En->Prop,(∀E',B E'=b D E')->∀E',J0 E'->B E'):kh a b D E:=⟨J0,h1 J0 λ_ h=>h,λE' h=>h2 (b D) (λ_=>rfl) E' h⟩
end Dv
namespace PB
open PySem L2 Dv Gr
noncomputable abbrev inD (l:SO):PyData:=.list (l.map .int)
def qp(c:Int){d:Int}(h:0<d):∃mk:Nat,c%d=mk/\(mk:Int)<d:=by have h1:=Int.emod_nonneg c (show d≠0 by lia);have h2:=Int.emod_lt_of_pos c h;exact⟨(c%d).toNat,by lia,by lia⟩
def Lf{ns:SO}:dl 8 (.list (ns.map .int))=true:=by show((ns.map PyData.int).all (dl 7))=true;rw[N7];intro d h;obtain⟨c,_,rfl⟩:=NT.mp h;rfl
end PB
namespace PB
open PySem L2 Dv
theorem dY{α:Type}{f:α->PyData}{p:α->Bool}:∀{l:List α},(l.filterMap λt=>if p t=true then some (f t)else none)=(l.filter p).map f
 |[]=>rfl
 |a::l=>by
  rw[PX,List.filter_cons];cases h:p a with
  |true=>simp only[if_true];rw[dY];rfl
  |false=>simp only[if_neg (O9)];exact dY
end PB
namespace Gr
noncomputable def rJ (m:Nat)(es:Rv):Prop:=∀x,x<m->∃d,R (cT es) 0 d x
def R.mono{E F:Nat->Nat->Prop}(s:∀x y,E x y->F x y){p d x:Nat}(h:R E p d x):R F p d x:=by
 induction h with
 |zero=>exact .zero
 |step _ e ih=>exact ih.step (s _ _ e)
def rJ.conn{m:Nat}(h:rJ m es):dW m es:=λp hp x hx=>by obtain⟨d,hd⟩:=h p hp;obtain⟨e,he⟩:=h x hx;exact⟨d+e,(hd.symm mK).trans he⟩
theorem rJ.mono{m:Nat}(h:rJ m es)(s:∀e,e∈es->e∈fs):rJ m fs:=λx hx=>by obtain⟨d,hd⟩:=h x hx;exact⟨d,hd.mono λx y e=>e.imp (s _) (s _)⟩
def dW.MH{m:Nat}(h:dW m es):rJ m es:=λx hx=>h 0 (by lia) x hx
def Good.put{m:Nat}(g:Good m es){x y:Nat}(l:x<y)(hy:y<m)(n:(x,y)∉es):Good m (es++[(x,y)]):=by refine⟨λe he=>?_,List.nodup_append.mpr ⟨g.nd,OW.mpr ⟨Oa,Q2⟩,λe he f hf h=>?_⟩⟩;{rcases O7.mp he with he|he;{exact g.lt e he};cases NV.mp he;exact⟨l,hy⟩};cases NV.mp hf;exact n (h▸he)
end Gr
namespace PB
open PySem L2 Dv Gr
def aX(h:∀B:En->Prop,(∀E',B E'=b D E')->a { D with nx:=B } E):ak a b D E:=h (b D) λ_=>rfl
end PB
local macro_rules | `(tactic| bv_omega) => do let ls ← (List.range 216).toArray.mapM fun k => `(Lean.Parser.Tactic.simpLemma| $(Lean.mkIdent (.str `Dv s!"rr{k}")):ident); `(tactic| dsimp only[$ls,*, Dv.dyr0, Dv.dyr1, Dv.dyr2, Dv.dyr3, Nat.reduceBEq, Dv.gM, Dv.gG])
namespace PB
open PySem L2 Dv Gr
noncomputable def zj:bM:=λdd Q x=>∃(ns:SO) (k:Nat),dd=[inD ns,iD k]/\k<=1000/\∀n:Nat,Q [] (.ow false) (nD [n])
def HX:∀dd Q x,zj dd Q x->gw (bD [false,false] Q x) (ini [false,false] dd++List.replicate 2 none):=by
 rintro _ Q x⟨ns,k,rfl,hk,q⟩;unfold gw;rfl';refine fE (λE=>∃c:Int,E=[some (.sh,inD ns),some (.sh,iD k),some (.sh,.int c),none]) (λJ hJ=>?_) λB hB=>?_
 .rfl';split;{rename_i h;exact ay (O5 h) (hJ _ ⟨_,rfl⟩)};refine⟨by lia,⟨Lf,rfl⟩,?_⟩;split
  .rename_i hne;have h1:0<ns.length:=by rcases ns with _|⟨a,t⟩;{exact absurd rfl hne};simp
   exact⟨h1,ay (O5 (Nat.mod_lt _ h1)) ⟨by lia,.inl ⟨by lia,by lia⟩,hJ _ ⟨_,rfl⟩⟩⟩
  exact hJ _ ⟨_,rfl⟩
 rintro _⟨c,rfl⟩;rw[hB];rfl';clear hB;have p18:vz 10 18:=⟨by decide,by decide,by decide⟩;have p30:vz 10 30:=⟨by decide,by decide,by decide⟩;have eD:(10:Int)^Int.toNat 30+57=1000000000000000000000000000057:=by decide
 refine⟨p18,?_⟩;split;{rename_i hc;have hc0:(0:Int)<=c:=Int.le_trans (by decide) hc;obtain⟨n,rfl⟩:=Int.eq_ofNat_of_zero_le hc0;exact⟨by lia,q n⟩};rw[eD];obtain⟨a,ea,ha⟩:=qp c (d:=1000000000000000000000000000057) (by lia);rw[ea];obtain⟨b,eb,hb⟩:=qp (((a:Int)+7919*(k:Int)+101)^Int.toNat 2) (d:=1000000000000000000000000000057) (by lia);rw[eb];obtain⟨e,ee,he⟩:=qp (((b:Int)+977*(k:Int)+5)*618033988749894848204586834365) (d:=1000000000000000000000000000057) (by lia);rw[ee];exact⟨p30,by lia,.inl ⟨by lia,by lia⟩,⟨by lia,by lia,by lia⟩,p30,by lia,.inl ⟨by lia,by lia⟩,⟨by lia,by decide⟩,p30,by lia,by lia,q e⟩
noncomputable def jB:bM:=λdd Q x=>∃(n m:Nat),dd=[nD [n],iD m]/\0<m/\m<2^200/\∀(r n':Nat),r<m->Q [nD [n']] .sh (iD r)
def KI:∀dd Q x,jB dd Q x->gS (bD [true,false] Q x) (ini [true,false] dd++List.replicate 1 none):=by rintro _ Q x⟨n,m,rfl,hm,h2,q⟩;unfold gS;rfl';exact⟨hm,⟨by lia,by lia⟩,q (n%m) (n/m) (Nat.mod_lt _ hm)⟩
noncomputable def FF:bM:=λdd Q x=>∃(n m:Nat),dd=[nD [n],iD m]/\m<=1000/\∀(ms:SN) n',ms.Perm (List.range m)->Q [nD [n']] (.ow false) (nD ms)
def La:∀dd Q x,FF dd Q x->gx jB (bD [true,false] Q x) (ini [true,false] dd++List.replicate 2 none):=by rintro _ Q x⟨n,m,rfl,h2,q⟩;unfold gx;rfl';refine⟨by lia,?_⟩;rw[if_pos ⟨by lia,by lia⟩];refine ay rfl ?_;refine jE (λi E=>Eg λ(n:Nat)(ms:SN)(o:Option (Kd×PyData))=>AD (E=[some (.ow true,nD [n]),some (.sh,iD m),some (.ow false,nD ms),o]) (bG o=true) (ms.Perm (List.range i))) ⟨n,[],none,rfl,rfl,List.Perm.refl _⟩ ?_ ?_;{rintro J i _ hi hJ⟨n,ms,o,rfl,ho,hp⟩;simp![ho];refine⟨n,i+1,rfl,by lia,by lia,λr n' hr=>?_⟩;rfl';have hl:=hp.length_eq;rw[O3]at hl;refine⟨r,rfl,by rw[NS];lia,by rw[NS];show _<16777216;lia,hJ _ ⟨n',ms.take r++i::ms.drop r,some (.sh,iD i),?_,rfl,?_⟩⟩;{rw[<-Qz,<-List.map_drop,<-OP,<-OA]};rw[Q6];refine(List.perm_middle).trans ?_;rw[Qa];exact(List.Perm.cons i hp).trans (List.perm_append_singleton i _).symm};rintro _⟨n,ms,o,rfl,ho,hp⟩;simp![ho];exact q ms n hp
end PB
local macro_rules | `(tactic| bv_omega) => do let ls ← (List.range 216).toArray.mapM fun k => `(Lean.Parser.Tactic.simpLemma| $(Lean.mkIdent (.str `Dv s!"rr{k}")):ident); `(tactic| dsimp only[$ls,*, Dv.dyr0, Dv.dyr1, Dv.dyr2, Dv.dyr3, Nat.reduceBEq, Dv.gM, Dv.gG, Dv.iQ, Dv.i6])
namespace PB
open PySem L2 Dv Gr
structure PI(N m k:Nat)(ps:Rv):Prop where
 ne:∀e∈ps,e.1≠e.2/\e.1<m/\e.2<m
 tr:∀j,0<j->j<k->∃p,p<j/\(p,j)∈ps
 few:ps.length<=N
def PI.app{N M m k:Nat}(h:PI N m k ps)(hq:∀e∈qs,e.1≠e.2/\e.1<m/\e.2<m)(l:qs.length<=M):PI (N+M) m k (ps++qs):=
 ⟨λe he=>(O7.mp he).elim (h.ne e) (hq e),λj h0 hj=>by obtain⟨p,hp,hm⟩:=h.tr j h0 hj;exact⟨p,hp,O7.mpr (.inl hm)⟩,by have:=h.few;rw[NU];lia⟩
def PI.step{N m k p:Nat}{ps:Rv}(h:PI N m k ps)(hp:p<k)(hk:k<m):PI (N+1) m (k+1) (ps++[(p,k)]):=
 ⟨λe he=>(O7.mp he).elim (h.ne e) λz=>by rw[NV.mp z];exact⟨by show p≠k;lia,by show p<m;lia,hk⟩,
   λj h0 hj=>by
  by_cases c:j=k
  .subst c;exact⟨p,hp,O7.mpr (.inr (NV.mpr rfl))⟩
  .obtain⟨p,hp,hm⟩:=h.tr j h0 (by lia);exact⟨p,hp,O7.mpr (.inl hm)⟩,by have:=h.few;rw[NU];simp;lia⟩
def PI.mono{N M m k:Nat}(h:PI N m k ps)(l:N<=M):PI M m k ps:=⟨h.ne,h.tr,NZ h.few l⟩
noncomputable def Aj:bM:=λdd Q x=>∃(n m w:Nat),dd=[nD [n],iD m,iD w]/\1<=m/\m<=30/\w<=9/\∀(ps:Rv) n',PI 910 m m ps->Q [nD [n']] (.ow false) (.list (ps.map dB))
def Ii:∀dd Q x,Aj dd Q x->gr jB (bD [true,false,false] Q x) (ini [true,false,false] dd++List.replicate 6 none):=by
 rintro _ Q x⟨n,m,w,rfl,h1,h2,hw,q⟩;have em:((m:Int)-1).toNat=m-1:=by lia
 unfold gr;refine aX λB hB=>?_;rfl';refine⟨by lia,?_⟩;show B _;rw[hB];clear hB B;refine aX λB hB=>?_;rfl';rw[em,if_pos ⟨by lia,by lia,by lia,by lia⟩];refine ay rfl ?_;refine jE (λk E=>BN λ(n:Nat)(ps:Rv)(o4 o5:Option (Kd×PyData))=>yC (E=[some (.ow true,nD [n]),some (.sh,iD m),some (.sh,iD w),some (.ow false,.list (ps.map dB)),o4,o5,none,none,none]) (bG o4=true) (bG o5=true) (PI (31*k) m (k+1) ps)) ⟨n,[],none,none,rfl,rfl,rfl,⟨(λ_ z=>nomatch z),λj h0 hj=>by lia,by simp⟩⟩ ?_ ?_
 .rintro J k _ hk hJ⟨n,ps,o4,o5,rfl,h4,h5,pi⟩;simp![h4,h5];refine⟨n,k+1,rfl,by lia,by lia,λr n hr=>?_⟩;simp![h4,h5,qN];obtain⟨p,hp,e⟩:∃p:Nat,p<=k/\cR [.int (((k+1:Nat):Int)-1),.int (((k+1:Nat):Int)-1),.int 0,iD r] (if(3:Int)<(w:Int)then 3 else(w:Int))=some (iD p):=by rw[show((k+1:Nat):Int)-1=(k:Int)by lia];rcases w with _|_|_|w;{exact⟨k,by lia,rfl⟩};{exact⟨k,by lia,rfl⟩};{exact⟨0,by lia,rfl⟩};refine⟨r,by lia,?_⟩;rw[show(if(3:Int)<((w+1+1+1:Nat):Int)then 3 else((w+1+1+1:Nat):Int))=3 by split<;>lia];rfl
  have pf:=pi.few;have pj:=pi.step (p:=p) (by lia) (show k+1<m by lia);refine⟨by lia,ay e ⟨by lia,by lia,?_⟩⟩;rw[show List.map dB ps++[PyData.tuple [iD p,iD (k+1)]]=(ps++[(p,k+1)]).map dB by rw[OA];rfl];split;{rw[if_pos ⟨by lia,by lia⟩];refine ay rfl (qS (λi=>dB (i,k+1)) rfl (λi hi I hI=>?_) ?_ (by rw[O3];lia));{rfl';exact⟨by lia,hI _ rfl⟩};rfl';have pf2:=pj.few;refine⟨by lia,hJ _ ⟨n,(ps++[(p,k+1)])++(List.range (k+1)).map λi=>(i,k+1),some (.sh,iD (k+1)),some (.sh,iD r),?_,rfl,rfl,(pj.app (M:=k+1) (λe he=>?_) (by rw[NS,O3];exact N5 _)).mono (by lia)⟩⟩;{rw[OA (l₁:=ps++[(p,k+1)]),Oc];rfl};obtain⟨i,hi,rfl⟩:=NT.mp he;have:=OU.mp hi;exact⟨by show i≠k+1;lia,by show i<m;lia,by show k+1<m;lia⟩};exact hJ _ ⟨n,_,some (.sh,iD (k+1)),some (.sh,iD r),rfl,rfl,rfl,pj.mono (by lia)⟩
 rintro _⟨n,ps,o4,o5,rfl,h4,h5,pi⟩;show B _;rw[hB];clear hB B;rw[show m-1+1=m by lia]at pi;refine fE (λE=>∃(ps:Rv),E=[some (.ow true,nD [n]),some (.sh,iD m),some (.sh,iD w),some (.ow false,.list (ps.map dB)),o4,o5,none,none,none]/\PI 900 m m ps) (λJ hJ=>?_) λB hB=>?_;{have skip:=hJ _ ⟨ps,rfl,pi.mono (by lia)⟩;rfl';split;{split;{have pf:=pi.few;rw[show(m:Int)-1=((m-1:Nat):Int)by lia];refine⟨by lia,by lia,hJ _ ⟨ps++[(0,m-1)],by rw[OA];rfl,(pi.app (M:=1) (λe he=>?_) (N5 _)).mono (by lia)⟩⟩;rw[NV.mp he];exact⟨by show 0≠m-1;lia,by show 0<m;lia,by show m-1<m;lia⟩};exact skip};exact skip};clear pi ps;rintro _⟨ps,rfl,pi⟩;rw[hB];clear hB B;refine fE (λE=>rC λ(n:Nat)(ps:Rv)(o4 o6 o7:Option (Kd×PyData))=>Mf (E=[some (.ow true,nD [n]),some (.sh,iD m),some (.sh,iD w),some (.ow false,.list (ps.map dB)),o4,o5,o6,o7,none]) (PI 910 m m ps)) (λJ hJ=>?_) λB hB=>?_;{have skip:=hJ _ ⟨n,ps,o4,none,none,rfl,pi.mono (by lia)⟩;rfl';split;{refine⟨n,7,rfl,by lia,by lia,λr n hr=>?_⟩;rfl';rw[if_pos ⟨by lia,by lia⟩];refine ay rfl ?_;refine jE (λk E=>rC λ(n:Nat)(ps:Rv)(o4 o6 o7:Option (Kd×PyData))=>ET (E=[some (.ow true,nD [n]),some (.sh,iD m),some (.sh,iD w),some (.ow false,.list (ps.map dB)),o4,o5,o6,o7,none]) (bG o4=true) (bG o6=true) (bG o7=true) (PI (900+k) m m ps)) ⟨n,ps,o4,none,none,rfl,h4,rfl,rfl,pi⟩ ?_ ?_;{clear pi ps skip h4 o4;rintro J2 k _ hk hJ2⟨n,ps,o4,o6,o7,rfl,h4,h6,h7,pi⟩;simp![h4,h6,h7];refine⟨n,m,rfl,by lia,by lia,λr1 n hr1=>?_⟩;simp![h4,h6,h7];refine⟨n,m,rfl,by lia,by lia,λr2 n hr2=>?_⟩;simp![h4,h6,h7];have pf:=pi.few;by_cases c:r1=r2;{rw[if_neg (λz=>z c)];refine⟨by lia,by lia,⟨by decide,by decide,by decide⟩,by show ps.length+0<=_;lia,hJ2 _ ⟨n,ps,some (.sh,iD k),some (.sh,iD r1),some (.sh,iD r2),?_,rfl,rfl,rfl,pi.mono (by lia)⟩⟩;show [_,_,_,some (_,PyData.list (List.map dB ps++[])),_,_,_,_,_]=_;rw[OV]};rw[if_pos c];refine⟨by lia,by lia,⟨by decide,by decide,by decide⟩,by show ps.length+1<=_;lia,hJ2 _ ⟨n,ps++[(r1,r2)],some (.sh,iD k),some (.sh,iD r1),some (.sh,iD r2),by rw[OA];rfl,rfl,rfl,rfl,pi.app (M:=1) (λe he=>?_) (N5 _)⟩⟩;rw[NV.mp he];exact⟨c,hr1,hr2⟩};rintro _⟨n,ps,o4,o6,o7,rfl,h4,h6,h7,pi⟩;exact hJ _ ⟨n,ps,o4,o6,o7,rfl,pi.mono (by lia)⟩};exact skip};rintro _⟨n,ps,o4,o6,o7,rfl,pi⟩;rw[hB];clear hB B;rfl';exact q ps n pi
def Gy{a b:Nat}:oA [.tuple [iD a,iD b]] P=P .sh (iD (min a b)):=by show P .sh (.int (if(b:Int)<(a:Int)then(b:Int)else(a:Int)))=_;rw[show(if(b:Int)<(a:Int)then(b:Int)else(a:Int))=((min a b:Nat):Int)by split<;>lia]
def Gm{a b:Nat}:ou [.tuple [iD a,iD b]] P=P .sh (iD (max a b)):=by show P .sh (.int (if(b:Int)>(a:Int)then(b:Int)else(a:Int)))=_;rw[show(if(b:Int)>(a:Int)then(b:Int)else(a:Int))=((max a b:Nat):Int)by split<;>lia]
def yh{fs:Rv}:dB e∈fs.map dB↔e∈fs:=by constructor;{intro h;obtain⟨f,hf,ef⟩:=NT.mp h;rw[<-xG.mp ef];exact hf};exact λh=>NT.mpr ⟨e,h,rfl⟩
noncomputable def Ab:bM:=λdd Q x=>∃(n a b:Nat),dd=[nD [n],iD a,iD b]/\1<=a/\a<=b/\b<=30/\∀m es n',a<=m->m<=b->fL m es->Q [nD [n']] .sh (wD m es)
def I0:∀dd Q x,Ab dd Q x->gP jB Aj FF (bD [true,false,false] Q x) (ini [true,false,false] dd++List.replicate 8 none):=by
 rintro _ Q x⟨n,a,b,rfl,h1,h2,h3,q⟩;unfold gP;refine aX λB hB=>?_;rfl';refine⟨n,b+1-a,by rw[show((b:Int)+1-(a:Int))=((b+1-a:Nat):Int)by lia],by lia,by lia,λr n hr=>?_⟩;rfl';rw[show(a:Int)+(r:Int)=((a+r:Nat):Int)by lia];obtain⟨m,em⟩:∃m,m=a+r:=⟨_,rfl⟩;rw[<-em];have hm1:a<=m:=by lia
 have hm2:m<=b:=by lia
 clear em hr r;show B _;rw[hB];clear hB B;refine aX λB hB=>?_;rfl';refine⟨by lia,?_⟩;rw[hB];clear hB B;refine aX λB hB=>?_;rfl';refine⟨n,9,rfl,by lia,by lia,λw n hw=>?_⟩;rfl';refine⟨n,m,w,rfl,by lia,by lia,by lia,λps n pi=>?_⟩;rfl';rw[hB];clear hB B;refine aX λB hB=>?_;rfl';refine⟨n,m,rfl,by lia,λms n pm=>?_⟩;rfl';rw[hB];clear hB B;refine aX λB hB=>?_;rfl';refine qD (λi E=>rC λ(fs:Rv)(o7 o8 o9 o10:Option (Kd×PyData))=>Fj (E=[some (.ow true,nD [n]),some (.sh,iD a),some (.sh,iD b),some (.sh,iD m),some (.ow false,.list (fs.map dB)),some (.sh,.list (ps.map dB)),some (.ow false,nD ms),o7,o8,o9,o10]) (bG o7=true) (bG o8=true) (bG o9=true) (bG o10=true) (Good m fs) (fs.length<=i) (∀e∈ps.take i,Gr.sV ms e∈fs)) ⟨[],none,none,none,none,rfl,rfl,rfl,rfl,rfl,⟨(λ_ z=>nomatch z),Q2⟩,N5 _,λe he=>by simp at he⟩ ?_ ?_
 .rintro J i e _ hi hJ⟨fs,o7,o8,o9,o10,rfl,h7,h8,h9,h10,gd,fl,im⟩;have hl:=pi.ne e (OD hi);have g1:=uH pm hl.2.1;have g2:=uH pm hl.2.2;have ts:ps.take (i+1)=ps.take i++[e]:=by rw[Qh,hi];rfl
  simp![h7,h8,h9,h10,g1.1,g2.1];rw[Gy,Gm];have ne:ms.getD e.1 0≠ms.getD e.2 0:=λz=>hl.1 (Gr.getD_inj (pm.nodup_iff.mpr PN) (by rw[pm.length_eq,O3];exact hl.2.1) (by rw[pm.length_eq,O3];exact hl.2.2) z);have ad:(fs.all λa=>dl 8 (dB a))=true:=N7.mpr λ_ _=>rfl;refine⟨by lia,rfl,rfl,by lia,⟨ad,rfl⟩,?_⟩;rw[show PyData.tuple [iD (min (ms.getD e.1 0) (ms.getD e.2 0)),iD (max (ms.getD e.1 0) (ms.getD e.2 0))]=dB (Gr.sV ms e)from rfl];have lti:=cQ hi;have pf:=pi.few;split;{rename_i hn;replace hn:Gr.sV ms e∉fs:=λz=>hn (yh.mpr z);refine⟨by lia,hJ _ ⟨fs++[Gr.sV ms e],_,_,_,_,by rw[OA];rfl,rfl,rfl,rfl,rfl,gd.put (x:=min (ms.getD e.1 0) (ms.getD e.2 0)) (y:=max (ms.getD e.1 0) (ms.getD e.2 0)) (by lia) (by lia) hn,by rw[NU];simp;lia,?_⟩⟩;rw[ts];intro f hf;rcases O7.mp hf with hf|hf;{exact O7.mpr (.inl (im f hf))};rw[NV.mp hf];exact O7.mpr (.inr (NV.mpr rfl))};rename_i hn;refine hJ _ ⟨fs,_,_,_,_,rfl,rfl,rfl,rfl,rfl,gd,by lia,?_⟩;rw[ts];intro f hf;rcases O7.mp hf with hf|hf;{exact im f hf};rw[NV.mp hf];exact yh.mp (Rg.mp hn)
 rintro _⟨fs,o7,o8,o9,o10,rfl,h7,h8,h9,h10,gd,fl,im⟩;show B _;rw[hB];clear hB B;rw[P4]at im;have pf:=pi.few;rfl';refine Gx (by lia) λqs pq=>?_;rfl';have cn:dW m fs:=by have c0:=Gr.zA pm (Gr.Gk pi.tr);refine(c0.MH.mono λe he=>?_).conn;obtain⟨e0,h0,rfl⟩:=NT.mp he;exact im e0 h0
 exact⟨by lia,q m qs n hm1 hm2 ⟨by lia,by lia,Gr.Good.perm pq gd,Gr.Bo pq cn⟩⟩
end PB
namespace Gr
noncomputable abbrev ds (es:Rv) (p x:Nat):Nat:=dst (cT es) p x
section
variable{m:Nat}{es:Rv}
def dW.is(cn:dW m es){p x:Nat}(hp:p<m)(hx:x<m):f9 (cT es) p x (ds es p x):=let⟨_,h⟩:=cn p hp x hx;BC h
def dW.zero(cn:dW m es){p x:Nat}(hp:p<m)(hx:x<m)(h:ds es p x=0):x=p:=by have:=(cn.is hp hx).1;rw[h]at this;cases this;rfl
theorem dW.pred(cn:dW m es)(gd:Good m es){p x:Nat}(hp:p<m)(hx:x<m)(h:x≠p):∃y,y<m/\cT es x y/\ds es p y+1=ds es p x:=by
 have hI:=cn.is hp hx;cases e:ds es p x with
 |zero=>exact absurd (cn.zero hp hx e) h
 |succ d=>rw[e]at hI;obtain⟨y,hy,a⟩:=hI.pred;exact⟨y,(gd.JE a).1,mK _ _ a,by rw[show ds es p y=d from vV hy]⟩
end
end Gr
local macro_rules | `(tactic| bv_omega) => do let ls ← (List.range 216).toArray.mapM fun k => `(Lean.Parser.Tactic.simpLemma| $(Lean.mkIdent (.str `Dv s!"rr{k}")):ident); `(tactic| dsimp only[$ls,*, Dv.dyr0, Dv.dyr1, Dv.dyr2, Dv.dyr3, Nat.reduceBEq])
namespace PB
open PySem L2 Dv Gr
noncomputable def zQ:bM:=λdd Q x=>∃m es,dd=[wD m es]/\fL m es/\Q [] (.ow false) (.list ((List.range m).map λp=>kL m es p))
def JA:∀dd Q x,zQ dd Q x->mE zw (bD [false] Q x) (ini [false] dd++List.replicate 1 none):=by
 rintro _ Q x⟨m,es,rfl,W,q⟩;have hm:=W.le;unfold mE;rfl';rw[if_pos (by lia)];refine ay rfl (qS (λp=>kL m es p) rfl (λp hp I hI=>?_) ?_ (by rw[O3];lia))
 .have hp:=OU.mp hp;rfl';refine⟨m,es,p,rfl,W,λk e hk=>?_,λz=>absurd ⟨by lia,by lia⟩ z⟩;have e:p=k:=by lia
  subst e;rfl';exact hI _ rfl
 rfl';exact q
noncomputable def iF (m:Nat)(es:Rv)(t u:Th):SN:=(List.range m).filter λp=>decide (td es p t≠td es p u)
noncomputable def Ac:bM:=λdd Q x=>∃m es t u,dd=[.list ((List.range m).map λp=>kL m es p),aH t,aH u]/\m<=60/\TV m t/\TV m u/\Q [] (.ow false) (nD (iF m es t u))
def Jl:∀dd Q x,Ac dd Q x->jR An (bD [false,false,false] Q x) (ini [false,false,false] dd++List.replicate 2 none):=by
 rintro _ Q x⟨m,es,t,u,rfl,hm,ht,hu,q⟩;unfold jR;rfl';have ez:(List.range m).zipIdx=(List.range m).map λp=>(p,p):=by refine PC λi=>?_;rw[RX,O4];rcases OY i m with h|h;{rw[OB h];simp};rw[OL (by rw[O3];exact h)];rfl
 rw[ez,Oc];refine jg (λp=>if decide (td es p t≠td es p u)=true then some (iD p)else none) rfl (λp hp I hI=>?_) ?_ (by rw[O3];lia);{simp![Function.comp];refine⟨m,es,p,t,rfl,ht,?_⟩;rfl';refine⟨m,es,p,u,rfl,hu,?_⟩;simp only[dv,dw,dx,dy,dz,Nat.reduceBEq]at hI⊢;split;{rename_i c;rw[if_pos c]at hI;exact hI _ rfl};rename_i c;rw[if_neg c]at hI;exact hI _ rfl};rw[dY];rfl';exact q
noncomputable abbrev kM (m:Nat)(es:Rv):PyData:=.list ((List.range m).map λp=>kL m es p)
noncomputable def p9 (k:Str):Prop:=k="places"\/k="ties"\/k="all"
end PB
local macro_rules | `(tactic| bv_omega) => do let ls ← (List.range 216).toArray.mapM fun k => `(Lean.Parser.Tactic.simpLemma| $(Lean.mkIdent (.str `Dv s!"rr{k}")):ident); `(tactic| dsimp only[$ls,*, Dv.dyr0, Dv.dyr1, Dv.dyr2, Dv.dyr3, Nat.reduceBEq, Dv.gM, Dv.gG, Dv.iQ, Dv.i6])
namespace PB
open PySem L2 Dv Gr
noncomputable def jP:Option Nat->PyData
 |none=>.int (-1)
 |some d=>iD d
def Fw:jP none=.int (-1):=rfl
def Et{d:Nat}:jP (some d)=iD d:=rfl
noncomputable abbrev AJ (m:Nat)(f:Nat->Option Nat):PyData:=.list ((List.range m).map λx=>jP (f x))
structure TR(es:Rv) (p r:Nat)(f:Nat->Option Nat):Prop where
 sound:∀x d,f x=some d->f9 (cT es) p x d/\d<=r
 upto:∀x d,d<=r->R (cT es) p d x->f x≠none
structure TS(es:Rv) (r i:Nat)(f g:Nat->Option Nat):Prop where
 ext:∀x d,f x=some d->g x=some d
 new:∀x d,g x=some d->f x=some d\/(f x=none/\d=r+1/\∃h,f h=some r/\cT es h x)
 B8:∀e∈es.take i,(f e.1=some r->g e.2≠none)/\(f e.2=some r->g e.1≠none)
def TR.start{p:Nat}:TR es p 0 (λx=>if x=p then some 0 else none):=by
 refine⟨λx d h=>?_,λx d hd h=>?_⟩;{by_cases c:x=p;{simp only[if_pos c,Option.some.injEq]at h;subst h c;exact⟨⟨.zero,λe he=>absurd he (P6 e)⟩,N5 _⟩};simp only[if_neg c]at h;cases h};obtain rfl:d=0:=by lia
 cases h;simp
def TS.start{r:Nat}{f:Nat->Option Nat}:TS es r 0 f f:=⟨λ_ _ h=>h,λ_ _ h=>.inl h,λe he=>by simp at he⟩
def TS.fin{p r:Nat}{f g:Nat->Option Nat}(t:TR es p r f)(h:TS es r es.length f g):TR es p (r+1) g:=by
 refine⟨λx d hx=>?_,λx d hd hr=>?_⟩;{rcases h.new x d hx with h1|⟨h1,rfl,k,h2,h3⟩;{have:=t.sound x d h1;exact⟨this.1,by lia⟩};exact⟨⟨(t.sound k r h2).1.1.step h3,λe he hr=>t.upto x e (by lia) hr h1⟩,N5 _⟩};have old:∀e,e<=r->R (cT es) p e x->g x≠none:=λe he hr z=>by obtain⟨d,hf⟩:=Rh.mp (t.upto x e he hr);rw[h.ext x d hf]at z;cases z
 cases hr with
 |zero=>exact old 0 (ON _) .zero
 |@step d y _ hy e=>obtain⟨k,hk⟩:=Rh.mp (t.upto y d (by lia) hy);obtain⟨dk,lk⟩:=t.sound y k hk;by_cases c:k=r;{subst c;rcases e with e|e;{exact(h.B8 _ (by rw[P4];exact e)).1 hk};exact(h.B8 _ (by rw[P4];exact e)).2 hk};exact old (k+1) (by lia) (dk.1.step e)
noncomputable def gn (g:Nat->Option Nat) (b v:Nat):Nat->Option Nat:=λx=>if x=b then some v else g x
def TS.one{r i a b:Nat}{f g:Nat->Option Nat}(h:TS es r i f g)(e:cT es a b)(c:g a=some r)(n:g b=none):TS es r i f (gn g b (r+1)):=by
 have fa:f a=some r:=by rcases h.new a r c with h1|⟨_,h2,_⟩;{exact h1};lia
 have fb:f b=none:=by
  cases hb:f b with
  |none=>rfl
  |some d=>rw[h.ext b d hb]at n;cases n
 have mono:∀x,g x≠none->gn g b (r+1) x≠none:=λx hx=>by unfold gn;split;{exact λz=>nomatch z};exact hx
 refine⟨λx d hx=>?_,λx d hx=>?_,λe he=>⟨λz=>mono _ ((h.B8 e he).1 z),λz=>mono _ ((h.B8 e he).2 z)⟩⟩;{unfold gn;rw[if_neg (λz=>by rw[z,fb]at hx;cases hx)];exact h.ext x d hx};unfold gn at hx;split at hx;{rename_i hb;cases hx;subst hb;exact .inr ⟨fb,rfl,a,fa,e⟩};exact h.new x d hx
def Gs{g:Nat->Option Nat}{b v x:Nat}(h:g x≠none):gn g b v x≠none:=by unfold gn;split;{exact λz=>nomatch z};exact h
def TS.next{r i:Nat}{f g:Nat->Option Nat}(h:TS es r i f g)(he:es[i]?=some e)(h1:f e.1=some r->g e.2≠none)(h2:f e.2=some r->g e.1≠none):TS es r (i+1) f g:=by
 refine⟨h.ext,h.new,λk hk=>?_⟩;rw[Qh,he]at hk;rcases O7.mp hk with hk|hk;{exact h.B8 k hk};have e1:k=e:=by simpa using hk
 rw[e1];exact⟨h1,h2⟩
def rw_set{m b:Nat}{g:Nat->Option Nat}{v:Nat}(hb:b<m):((List.range m).map λx=>jP (g x)).set b (iD v)=(List.range m).map λx=>jP (gn g b v x):=by apply PC;intro i;rw[Q8,NS,O3,O4,O4];by_cases hi:i<m;{rw[OB hi];by_cases c:b=i;{subst c;rw[if_pos rfl,if_pos hb];unfold gn;simp[jP]};rw[if_neg c];unfold gn;simp[Ne.symm c]};rw[OL (by rw[O3];lia),if_neg (by lia)];rfl
def Gw{m:Nat}:(List.replicate m [PyData.int (-1)]).flatten=(List.range m).map λx=>jP ((λ_=>none:Nat->Option Nat) x):=by
 have e:∀m:Nat,(List.replicate m [PyData.int (-1)]).flatten=List.replicate m (PyData.int (-1)):=λm=>by
  induction m with
  |zero=>rfl
  |succ m ih=>rw[P9,Pc,ih,P9];rfl
 rw[e];show _=(List.range m).map λ_=>PyData.int (-1);rw[List.map_const',O3]
noncomputable def r9:bM:=λdd Q x=>∃m es,dd=[wD m es]/\fL m es/\Q [] (.ow false) (kM m es)
def Iz:∀dd Q x,r9 dd Q x->gA (bD [false] Q x) (ini [false] dd++List.replicate 6 none):=by
 rintro _ Q x⟨m,es,rfl,W,q⟩;have h1:=W.pos;have h2:=W.le;unfold gA;refine aX λB hB=>?_;rfl';refine⟨by lia,?_⟩;rw[hB];clear hB B;refine aX λB hB=>?_;rfl';rw[if_pos ⟨by lia,by lia⟩];refine ay rfl ?_;refine jE (λi E=>rC λ(o2 o3 o4 o5 o6:Option (Kd×PyData))=>FG (E=[some (.sh,wD m es),some (.ow false,.list ((List.range i).map λp=>kL m es p)),o2,o3,o4,o5,o6]) (bG o2=true) (bG o3=true) (bG o4=true) (bG o5=true) (bG o6=true)) ⟨none,none,none,none,none,rfl,rfl,rfl,rfl,rfl,rfl⟩ ?_ ?_
 .rintro J p _ hp hJ⟨o2,o3,o4,o5,o6,rfl,z2,z3,z4,z5,z6⟩;simp![z2,z3,z4,z5,z6];rw[Gw,NS,O3];refine⟨by lia,⟨by lia,by lia,by lia⟩,jH hp ?_⟩;rw[show((List.range m).map λx=>jP ((λ_=>none:Nat->Option Nat) x)).set p (PyData.int 0)=(List.range m).map λx=>jP (gn (λ_=>none) p 0 x)from rw_set hp,if_pos ⟨by lia,by lia⟩];refine ay rfl ?_;clear z2 z3 o2 o3;refine jE (λr E=>BN λ(f:Nat->Option Nat)(o4 o5 o6:Option (Kd×PyData))=>ET (E=[some (.sh,wD m es),some (.ow false,.list ((List.range p).map λp=>kL m es p)),some (.sh,iD p),some (.ow false,AJ m f),o4,o5,o6]) (bG o4=true) (bG o5=true) (bG o6=true) (TR es p r f)) ⟨_,o4,o5,o6,rfl,z4,z5,z6,TR.start⟩ ?_ ?_
  .clear z4 z5 z6 o4 o5 o6;rintro J2 r _ hr hJ2⟨f,o4,o5,o6,rfl,z4,z5,z6,tr⟩;simp![z4];refine qD (λi E=>Eg λ(g:Nat->Option Nat)(o5 o6:Option (Kd×PyData))=>yC (E=[some (.sh,wD m es),some (.ow false,.list ((List.range p).map λp=>kL m es p)),some (.sh,iD p),some (.ow false,AJ m g),some (.sh,iD r),o5,o6]) (bG o5=true) (bG o6=true) (TS es r i f g)) ⟨f,o5,o6,rfl,z5,z6,TS.start⟩ ?_ ?_
   .clear z5 z6 o5 o6;rintro J3 i e _ hi hJ3⟨g,o5,o6,rfl,z5,z6,ts⟩;have he:=W.gd.lt e (OD hi);have hem:=OD hi;have ge:∀y,y<m->((List.range m).map λx=>jP (g x))[y]?=some (jP (g y)):=λy hy=>by rw[O4,OB hy];rfl
    simp![z5,z6];refine fE (λE=>∃(g':Nat->Option Nat),E=[some (.sh,wD m es),some (.ow false,.list ((List.range p).map λp=>kL m es p)),some (.sh,iD p),some (.ow false,AJ m g'),some (.sh,iD r),some (.sh,iD e.1),some (.sh,iD e.2)]/\TS es r i f g'/\(f e.1=some r->g' e.2≠none)) (λJ4 hJ4=>?_) λB hB=>?_
    .skip
     rfl';refine ay (OB (by lia)) ?_;rcases ea:g e.1 with _|da;{rw[Fw];rfl';rw[if_neg (by lia)];exact hJ4 _ ⟨g,rfl,ts,λz=>by rw[ts.ext _ _ z]at ea;cases ea⟩};rw[Et];rfl';split;{rename_i hd;subst hd;refine ay (OB (by lia)) ?_;rcases eb:g e.2 with _|db;{rw[Fw];rfl';rw[if_pos (by lia)];refine jH (by lia) ?_;rw[show((List.range m).map λx=>jP (g x)).set e.2 (PyData.int ((da:Int)+1))=(List.range m).map λx=>jP (gn g e.2 (da+1) x)from rw_set (by lia)];exact hJ4 _ ⟨_,rfl,ts.one (.inl hem) ea eb,λ_=>by unfold gn;rw[if_pos rfl];exact λz=>nomatch z⟩};rw[Et];rfl';rw[if_neg (by lia)];exact hJ4 _ ⟨g,rfl,ts,λz y=>by rw[eb]at y;cases y⟩};rename_i hd;exact hJ4 _ ⟨g,rfl,ts,λz=>by rw[ts.ext _ _ z]at ea;cases ea;exact absurd rfl hd⟩
    clear ts ge g;rintro _⟨g,rfl,ts,n1⟩;rw[hB];clear hB;rfl';refine ay (OB (by lia)) ?_;rcases ea:g e.2 with _|da;{rw[Fw];rfl';rw[if_neg (by lia)];exact hJ3 _ ⟨g,(some (.sh,iD e.1)),(some (.sh,iD e.2)),rfl,rfl,rfl,ts.next hi n1 λz=>by rw[ts.ext _ _ z]at ea;cases ea⟩};rw[Et];rfl';split;{rename_i hd;subst hd;refine ay (OB (by lia)) ?_;rcases eb:g e.1 with _|db;{rw[Fw];rfl';rw[if_pos (by lia)];refine jH (by lia) ?_;rw[show((List.range m).map λx=>jP (g x)).set e.1 (PyData.int ((da:Int)+1))=(List.range m).map λx=>jP (gn g e.1 (da+1) x)from rw_set (by lia)];exact hJ3 _ ⟨_,(some (.sh,iD e.1)),(some (.sh,iD e.2)),rfl,rfl,rfl,(ts.one (.inr hem) ea eb).next hi (λz=>Gs (n1 z)) λ_=>by unfold gn;rw[if_pos rfl];exact λz=>nomatch z⟩};rw[Et];rfl';rw[if_neg (by lia)];exact hJ3 _ ⟨g,(some (.sh,iD e.1)),(some (.sh,iD e.2)),rfl,rfl,rfl,ts.next hi n1 λz y=>by rw[eb]at y;cases y⟩};rename_i hd;exact hJ3 _ ⟨g,(some (.sh,iD e.1)),(some (.sh,iD e.2)),rfl,rfl,rfl,ts.next hi n1 λz=>by rw[ts.ext _ _ z]at ea;cases ea;exact absurd rfl hd⟩
   rintro _⟨g,o5,o6,rfl,z5,z6,ts⟩;exact hJ2 _ ⟨g,some (.sh,iD r),o5,o6,rfl,rfl,z5,z6,ts.fin tr⟩
  clear z4 z5 z6 o4 o5 o6;rintro _⟨f,o4,o5,o6,rfl,z4,z5,z6,tr⟩;rfl';have ef:AJ m f=kL m es p:=congrArg PyData.list (P5 λx hx=>by
   have hx:=OU.mp hx;obtain⟨d,hd⟩:=W.cn p hp x hx;have di:=BC hd;have ls:=di.small (m:=m) (λx y z=>by rcases z with z|z<;>(have:=W.gd.lt _ z;lia)) hp
   obtain⟨k,hk⟩:=Rh.mp (tr.upto x _ (by lia) di.1)
   rw[hk,(tr.sound x k hk).1.eq di];rfl)
  refine⟨by lia,hJ _ ⟨some (.sh,iD p),some (.sh,AJ m f),o4,o5,o6,?_,rfl,rfl,z4,z5,z6⟩⟩;rw[ef,Q6,OA];rfl
 rintro _⟨o2,o3,o4,o5,o6,rfl,z2,z3,z4,z5,z6⟩;show B _;rw[hB];clear hB B;rfl';exact q
end PB
local macro_rules | `(tactic| bv_omega) => do let ls ← (List.range 216).toArray.mapM fun k => `(Lean.Parser.Tactic.simpLemma| $(Lean.mkIdent (.str `Dv s!"rr{k}")):ident); `(tactic| dsimp only[$ls,*, Dv.dyr0, Dv.dyr1, Dv.dyr2, Dv.dyr3, Nat.reduceBEq, Dv.gM, Dv.gG, Dv.iQ, Dv.i6, Dv.lW])
namespace PB
open PySem L2 Dv Gr
theorem skI{c:Prop}[i:Decidable c]{α:Type}{a b:Option α}{Q:α→Prop}(h:c)(p:au a Q):au (if c then a else b) Q:=by rw[if_pos h];exact p
def rep1:(List.replicate (Int.toNat 1) l).flatten=l:=by show(List.replicate 1 l).flatten=l;simp
noncomputable def rT:bM:=λdd Q x=>∃m es k,dd=[wD m es,.str k]/\fL m es/\p9 k/\Q [] (.ow false) (.list ((bQ k m es).map aH))
def JR:∀dd Q x,rT dd Q x->fX (bD [false,false] Q x) (ini [false,false] dd++List.replicate 1 none):=by
 rintro _ Q x⟨m,es,k,rfl,W,hk,q⟩;have hm:=W.le;have hf:=W.few;unfold fX;have e1:((List.range m).map Sum.inl:List Th).map aH=(List.range m).map iD:=by rw[Oc];rfl
 have e2:(es.map Sum.inr:List Th).map aH=es.map dB:=by rw[Oc];rfl
 unfold bQ at q;rcases hk with rfl|rfl|rfl;{rw[if_neg (by decide),if_pos rfl,OV,e1]at q;rfl';rw[if_pos (by decide)];refine⟨⟨by lia,by lia⟩,⟨by decide,by decide,by show m*1<=_;lia⟩,?_⟩;rw[rep1];refine fE (λE=>E=[some (.sh,wD m es),some (.sh,.str "places"),some (.ow false,.list ((List.range m).map iD))]) (λJ hJ=>?_) λB hB=>?_;{rfl';exact hJ _ rfl};rintro _ rfl;rw[hB];rfl';exact q};{rw[if_pos rfl,if_neg (by decide),List.nil_append,e2]at q;rfl';refine⟨⟨by lia,by lia⟩,⟨by decide,by decide,by show m*0<=_;lia⟩,?_⟩;rw[show(List.replicate (Int.toNat 0) (List.map iD (List.range m))).flatten=[]from rfl];refine fE (λE=>E=[some (.sh,wD m es),some (.sh,.str "ties"),some (.ow false,.list (es.map dB))]) (λJ hJ=>?_) λB hB=>?_;{rfl';rw[if_pos (by decide)];exact⟨by lia,hJ _ rfl⟩};rintro _ rfl;rw[hB];rfl';exact q};rw[if_neg (by decide),if_neg (by decide),OA,e1,e2]at q;rfl';rw[if_pos (by decide)];refine⟨⟨by lia,by lia⟩,⟨by decide,by decide,by show m*1<=_;lia⟩,?_⟩;rw[rep1];refine fE (λE=>E=[some (.sh,wD m es),some (.sh,.str "all"),some (.ow false,.list ((List.range m).map iD++es.map dB))]) (λJ hJ=>?_) λB hB=>?_;{rfl';rw[if_pos (by decide)];exact⟨by lia,hJ _ rfl⟩};rintro _ rfl;rw[hB];rfl';exact q
noncomputable def zH:bM:=λdd Q x=>∃m es p t,dd=[kM m es,iD p,aH t]/\p<m/\TV m t/\Q [] .sh (iD (td es p t))
def Jx:∀dd Q x,zH dd Q x->iO (bD [false,false,false] Q x) (ini [false,false,false] dd++List.replicate 1 none):=by
 rintro _ Q x⟨m,es,p,t,rfl,hp,ht,q⟩;unfold iO;cases t with
 |inl y=>have hy:y<m:=ht;rw[show aH (.inl y)=iD y from rfl];rfl';refine ay (OB hp) ?_;rfl';refine ay (OB hy) ?_;rfl';exact q
 |inr e=>
  obtain⟨h1,h2⟩:e.1<m/\e.2<m:=ht;rw[show aH (.inr e)=dB e from rfl];rfl';rw[show [iD e.1,iD e.2]=[e.1,e.2].map iD from rfl];refine qS (λy=>iD (aL es p y)) rfl (λy hy I hI=>?_) ?_ (by show 2<=16777216;lia)
  .have hy:y<m:=by simp only[NY,Oa,PR]at hy;lia
   rfl';refine ay (OB hp) ?_;rfl';refine ay (OB hy) ?_;rfl';exact hI _ rfl
  rfl';refine Gz (ns:=[aL es p e.1,aL es p e.2]) (Q3 _ _) λM m1 m2=>?_;have e3:M=td es p (.inr e):=by show M=min (aL es p e.1) (aL es p e.2);have a1:=m2 (aL es p e.1) (by simp);have a2:=m2 (aL es p e.2) (by simp);simp only[NY,Oa,PR]at m1;lia
  rw[e3];exact q
noncomputable def rK:bM:=λdd Q x=>∃m es t u,dd=[kM m es,aH t,aH u]/\m<=60/\TV m t/\TV m u/\Q [] (.ow false) (nD (iF m es t u))
def Ik:∀dd Q x,rK dd Q x->eZ zH (bD [false,false,false] Q x) (ini [false,false,false] dd++List.replicate 1 none):=by rintro _ Q x⟨m,es,t,u,rfl,hm,ht,hu,q⟩;unfold eZ;rfl';rw[if_pos (by lia)];refine ay rfl ?_;refine jg (λp=>if decide (td es p t≠td es p u)=true then some (iD p)else none) rfl (λp hp I hI=>?_) ?_ (by rw[O3];lia);{have hp:=OU.mp hp;rfl';refine⟨m,es,p,t,rfl,hp,ht,?_⟩;rfl';refine⟨m,es,p,u,rfl,hp,hu,?_⟩;simp only[dv,dw,dx,dy,dz,Nat.reduceBEq]at hI⊢;split;{rename_i c;rw[if_pos c]at hI;exact hI _ rfl};rename_i c;rw[if_neg c]at hI;exact hI _ rfl};rw[dY];rfl';exact q
noncomputable def mY (T:List Th):List (Th×Th):=(List.range T.length).flatMap λk=>(T.drop (k+1)).map λu=>(T.getD k (.inl 0),u)
noncomputable abbrev fR (m:Nat)(es:Rv)(e:Th×Th):PyData:=.tuple [aH e.1,aH e.2,nD (iF m es e.1 e.2)]
noncomputable def Ak:bM:=λdd Q x=>∃m es k,dd=[wD m es,.str k]/\fL m es/\es.length<=500/\p9 k/\Q [] (.ow false) (.list ((mY (bQ k m es)).map (fR m es)))
def Js:∀dd Q x,Ak dd Q x->fZ r9 rT rK (bD [false,false] Q x) (ini [false,false] dd++List.replicate 5 none):=by
 rintro _ Q x⟨m,es,k,rfl,W,few,hk,q⟩;have hm:=W.le;unfold fZ;refine aX λB hB=>?_;rfl';refine⟨m,es,rfl,W,?_⟩;rfl';rw[hB];clear hB B;refine aX λB hB=>?_;rfl';refine⟨m,es,k,rfl,W,hk,?_⟩;rfl';have hT:=wN (k:=k) W.gd;have lT:(bQ k m es).length<=560:=by
  unfold bQ;rw[NU];have a:(if k="ties" then []else(List.range m).map Sum.inl:List Th).length<=60:=by split<;>simp;lia
  have b:(if k="places" then []else es.map Sum.inr:List Th).length<=500:=by split<;>simp;lia
  lia
 generalize bQ k m es=T at q hT lT⊢;rw[hB];clear hB B;refine aX λB hB=>?_;rfl';refine⟨by lia,?_⟩;rw[hB];clear hB B;refine aX λB hB=>?_;rfl';rw[if_pos (by lia)];refine ay rfl ?_;refine jE (λi E=>Cj λ(o5 o6:Option (Kd×PyData))=>yC (E=[some (.sh,wD m es),some (.sh,.str k),some (.ow false,kM m es),some (.ow false,.list (T.map aH)),some (.ow false,.list (((List.range i).flatMap λk=>(T.drop (k+1)).map λu=>(T.getD k (.inl 0),u)).map (fR m es))),o5,o6]) (bG o5=true) (bG o6=true) (((List.range i).flatMap λk=>(T.drop (k+1)).map λu=>(T.getD k (.inl 0),u)).length<=560*i)) ⟨none,none,rfl,rfl,rfl,by simp⟩ ?_ ?_
 .rintro J i _ hi hJ⟨o5,o6,rfl,z5,z6,fl⟩;have gi:T[i]?=some (T.getD i (.inl 0)):=by rw[OX,O5 hi];rfl
  have ti:TV m (T.getD i (.inl 0)):=hT _ (OD gi);simp![z5];rw[show((i:Int)+1)=((i+1:Nat):Int)by lia,rB,if_pos (show((T.drop (i+1)).map aH).all lf=true by rw[N7];intro d hd;obtain⟨t,_,rfl⟩:=NT.mp hd;exact nN)];refine ay rfl ?_;refine qD (λn E=>∃(o6:Option (Kd×PyData)),E=[some (.sh,wD m es),some (.sh,.str k),some (.ow false,kM m es),some (.ow false,.list (T.map aH)),some (.ow false,.list (((((List.range i).flatMap λk=>(T.drop (k+1)).map λu=>(T.getD k (.inl 0),u))++((T.drop (i+1)).take n).map λu=>(T.getD i (.inl 0),u)).map (fR m es)))),some (.sh,iD i),o6]/\bG o6=true) ⟨o6,by rw[List.take_zero,List.map_nil,OV],z6⟩ ?_ ?_;{clear z6 o6;rintro J2 n u _ hn hJ2⟨o6,rfl,z6⟩;have tu:TV m u:=hT _ (QS (OD hn));have hl2:=cQ hn;rw[OO]at hl2;simp![z6];refine ay gi ?_;rfl';refine skI nN (ay rfl ?_);rfl';refine ay gi ?_;rfl';refine skI nN (ay rfl ?_);rfl';refine⟨m,es,T.getD i (.inl 0),u,rfl,hm,ti,tu,?_⟩;rfl';refine⟨by lia,?_,hJ2 _ ⟨some (.sh,aH u),?_,rfl⟩⟩;{rw[NU,NS,OM,OO];lia};rw[Qh,hn,Option.toList_some,OA (f:=λu=>(T.getD i (Sum.inl 0),u)),<-OS,OA (l₂:=[u].map _)];rfl};rintro _⟨o6,rfl,z6⟩;refine hJ _ ⟨some (.sh,iD i),o6,?_,rfl,z6,?_⟩;{rw[P4,Q6,List.flatMap_append,List.flatMap_cons,List.flatMap_nil,OV]};rw[Q6,List.flatMap_append,NU,List.flatMap_cons,List.flatMap_nil,OV,NS,OO];lia
 rintro _⟨o5,o6,rfl,z5,z6,fl⟩;show B _;rw[hB];clear hB B;rfl';exact q
end PB
local macro_rules | `(tactic| bv_omega) => do let ls ← (List.range 216).toArray.mapM fun k => `(Lean.Parser.Tactic.simpLemma| $(Lean.mkIdent (.str `Dv s!"rr{k}")):ident); `(tactic| dsimp only[$ls,*, Dv.dyr0, Dv.dyr1, Dv.dyr2, Dv.dyr3, Nat.reduceBEq, Dv.gM, Dv.gG, Dv.iQ, Dv.i6, Dv.lW, Dv.nP])
namespace PB
open PySem L2 Dv Gr
noncomputable def TD (d:PyData):Prop:=(∃i:Int,d=.int i)\/∃a b:Nat,d=dB (a,b)
theorem TD.dl(h:TD d):dl 8 d=true:=by rcases h with⟨i,rfl⟩|⟨a,b,rfl⟩<;>rfl
theorem TD.lf(h:TD d):lf d=true:=by rcases h with⟨i,rfl⟩|⟨a,b,rfl⟩<;>rfl
noncomputable def Wt (k:Nat):Nat->PyData->Prop
 |0,_=>False
 |n+1,d=>∃a b l,d=.tuple [a,b,.tuple l]/\TD a/\TD b/\l.length<=k/\∀c∈l,Wt k n c
theorem Wt.up{k k':Nat}(h:k<=k'):∀{n n':Nat}{d:PyData},n<=n'->Wt k n d->Wt k' n' d
 |0,_,_,_,h=>h.elim
 |n+1,0,_,l,_=>absurd l (Nat.not_succ_le_zero n)
 |n+1,n'+1,d,l,⟨a,b,cs,e,ta,tb,lc,hc⟩=>⟨a,b,cs,e,ta,tb,NZ lc h,λc z=>Wt.up h (Nat.le_of_succ_le_succ l) (hc c z)⟩
structure Wk where
 m:Nat
 es:Rv
 T:List Th
 s:Nat
 k:Nat
structure wO(w:Wk):Prop where
 qQ:fL w.m w.es
 tv:∀t∈w.T,TV w.m t
 few:w.T.length<=1000
 lk:w.k<=5
 ls:w.s<=4
noncomputable def mS (P ins outs:SN):SN:=P.filter λp=>decide (p∉ins)&&decide (p∉outs)
noncomputable def hit (P ins:SN):SN:=P.filter λp=>decide (p∈ins)
noncomputable def EM (w:Wk)(f:PyData->SN->SN->Bool)(t u:Th)(l:SA)(ins outs:SN):Prop:=
 if ins.length=w.k then l=[]else l.length=(mS (iF w.m w.es t u) ins outs).length /\
  ∀j p c,(mS (iF w.m w.es t u) ins outs)[j]?=some p->l[j]?=some c->f c (ins++[p]) (outs++(mS (iF w.m w.es t u) ins outs).take j)=true
noncomputable def Hq (w:Wk)(f:PyData->SN->SN->Bool)(d:PyData)(ins outs:SN):Prop:=
 ∃t u l,d=.tuple [aH t,aH u,.tuple l]/\t∈w.T/\u∈w.T/\t≠u/\(hit (iF w.m w.es t u) ins).length<w.s/\EM w f t u l ins outs
open Classical in
noncomputable def cs (w:Wk):Nat->PyData->SN->SN->Bool
 |0,_,_,_=>false
 |n+1,d,ins,outs=>decide (Hq w (cs w n) d ins outs)
noncomputable abbrev kU (w:Wk):PyData:=.tuple [kM w.m w.es,.list (w.T.map aH),iD w.s,iD w.k]
noncomputable def tF (n:Nat):bM:=λdd Q x=>∃w d ins outs,dd=[kU w,d,nD ins,nD outs]/\wO w/\Wt 1000 n d/\ins.length<=w.k/\outs.length+60*(w.k-ins.length)<=1000/\Q [] .sh (.bool (cs w n d ins outs))
open Classical in
def kK{n:Nat}(h:∀t u,a=aH t->b=aH u->t∈w.T->u∈w.T->t≠u->(hit (iF w.m w.es t u) ins).length<w.s->False):cs w (n+1) (.tuple [a,b,.tuple l]) ins outs=false:=by show decide (Hq w (cs w n) _ ins outs)=false;refine Ol ?_;rintro⟨t,u,l',e,h1,h2,h3,h4,_⟩;simp only[Qo,PU]at e;exact h t u e.1 e.2.1 h1 h2 h3 h4
open Classical in
def CU{n:Nat}(h1:t∈w.T)(h2:u∈w.T)(h3:t≠u)(h4:(hit (iF w.m w.es t u) ins).length<w.s):cs w (n+1) (.tuple [aH t,aH u,.tuple l]) ins outs=decide (EM w (cs w n) t u l ins outs):=by show decide (Hq w (cs w n) _ ins outs)=_;refine decide_eq_decide.mpr ⟨?_,λh=>⟨t,u,l,rfl,h1,h2,h3,h4,h⟩⟩;rintro⟨t',u',l',e,_,_,_,_,h⟩;simp only[Qo,PU,gJ]at e;obtain⟨e1,e2,e3,_⟩:=e;subst e1 e2 e3;exact h
def LJ(h:P .sh (.bool (decide (t=u)))):cV [aH t,aH u] P:=by
 have e:decide (t=u)=decide (aH t=aH u):=decide_eq_decide.mpr gJ.symm;rw[e]at h;cases t with
 |inl a=>
  cases u with
  |inl b=>have e:decide (aH (.inl a)=aH (.inl b))=decide ((a:Int)=(b:Int)):=decide_eq_decide.mpr ⟨λh=>by injection h,λh=>by show PyData.int a=.int b;rw[h]⟩;rw[e]at h;exact h
  |inr b=>exact⟨⟨rfl,rfl⟩,h⟩
 |inr a=>
  cases u with
  |inl b=>exact⟨⟨rfl,rfl⟩,h⟩
  |inr b=>exact⟨⟨rfl,rfl⟩,h⟩
def cL{p:Nat}{l:SN}:iD p∈l.map iD↔p∈l:=by constructor;{intro h;obtain⟨q,hq,e⟩:=NT.mp h;rw[<-B9.mp e];exact hq};exact λh=>NT.mpr ⟨p,h,rfl⟩
def Kz(n:Nat):∀dd Q x,tF (n+1) dd Q x->gY rK (tF n) (bD [false,false,false,false] Q x) (ini [false,false,false,false] dd++List.replicate 12 none):=by
 rintro _ Q x⟨w,_,ins,outs,rfl,W,⟨a,b,l,rfl,ta,tb,ll,wl⟩,hi,ho,q⟩;unfold gY;refine aX λB hB=>?_;rfl';rw[hB];clear hB B;refine aX λB hB=>?_;rfl';rw[if_neg (by decide)];refine ay (show _=some (PyData.tuple l)from rfl) (ay rfl ?_);rw[if_neg (by decide),hB];clear hB B;refine aX λB hB=>?_;rfl';rw[hB];clear hB B;refine aX λB hB=>?_;rfl';have ad:(w.T.all λa=>dl 8 (aH a))=true:=N7.mpr λt _=>by cases t<;>rfl
 refine⟨⟨ad,ta.dl⟩,?_⟩;split;{rename_i hn;rw[kK λt u e1 _ h1 _ _ _=>hn (by rw[e1];exact NT.mpr ⟨t,h1,rfl⟩)]at q;exact q};rename_i h1;obtain⟨t,ht,rfl⟩:=NT.mp (Rg.mp h1);refine⟨⟨ad,tb.dl⟩,?_⟩;split;{rename_i hn;rw[kK λt u _ e1 _ h1 _ _=>hn (by rw[e1];exact NT.mpr ⟨u,h1,rfl⟩)]at q;exact q};rename_i h2;obtain⟨u,hu,rfl⟩:=NT.mp (Rg.mp h2);clear h1 h2;refine LJ ?_;rfl';by_cases tu:t=u;{rw[if_pos tu];rw[kK λt' u' e1 e2 _ _ h3 _=>h3 (by rw[<-gJ,<-e1,<-e2,tu])]at q;exact q};rw[if_neg tu,hB];clear hB B;refine aX λB hB=>?_;rfl';refine⟨w.m,w.es,t,u,rfl,W.qQ.le,W.tv t ht,W.tv u hu,?_⟩;rfl';rw[hB];clear hB B;refine aX λB hB=>?_;rfl';have pl:(iF w.m w.es t u).length<=60:=NZ (PV _ _) (by rw[O3];exact W.qQ.le);generalize eP:iF w.m w.es t u=P at pl⊢;refine jg (λp=>if decide (p∈ins)=true then some (iD p)else none) rfl (λp hp I hI=>?_) ?_ (by lia);{rfl';refine⟨⟨N7.mpr λ_ _=>rfl,rfl⟩,?_⟩;simp only[Oo]at hI;by_cases c:p∈ins;{rw[if_pos (cL.mpr c)];rw[if_pos c]at hI;exact hI _ rfl};rw[if_neg λz=>c (cL.mp z)];rw[if_neg c]at hI;exact hI _ rfl};rw[dY];rfl';rw[show List.filter (λp=>decide (p∈ins)) P=hit P ins from rfl];by_cases hs:w.s<=(hit P ins).length;{rw[if_pos hs];rw[kK λt' u' e1 e2 _ _ _ h4=>by rw[<-gJ.mp e1,<-gJ.mp e2,eP]at h4;lia]at q;exact q};rw[if_neg hs];rw[CU ht hu tu (by rw[eP];lia)]at q;unfold EM at q;rw[eP]at q;rw[hB];clear hB B hs;refine aX λB hB=>?_;rfl';by_cases hk:ins.length=w.k
 .rw[if_pos (by lia),if_pos hk];rw[if_pos hk]at q;refine⟨by lia,?_⟩;have e:l.isEmpty=@decide (l=[]) (Classical.propDecidable _):=by
   cases l with
   |nil=>exact(@Pw _ (Classical.propDecidable _) rfl).symm
   |cons=>exact(@Ol _ (Classical.propDecidable _) (λz=>nomatch z)).symm
  rw[e];exact q
 rw[if_neg (by lia),hB];rw[if_neg hk]at q;clear hB B;refine aX λB hB=>?_;rfl';refine jg (λp=>if(decide (p∉ins)&&decide (p∉outs))=true then some (iD p)else none) rfl (λp hp I hI=>?_) ?_ (by lia);{rfl';refine⟨⟨N7.mpr λ_ _=>rfl,rfl⟩,?_⟩;by_cases c:p∈ins;{rw[if_neg λz=>z (cL.mpr c)];rw[if_neg (by simp[c])]at hI;exact hI _ rfl};rw[if_pos λz=>c (cL.mp z)];refine⟨⟨N7.mpr λ_ _=>rfl,rfl⟩,?_⟩;by_cases c2:p∈outs;{rw[if_neg λz=>z (cL.mpr c2)];rw[if_neg (by simp[c2])]at hI;exact hI _ rfl};rw[if_pos λz=>c2 (cL.mp z)];rw[if_pos (by simp[c,c2])]at hI;exact hI _ rfl};rw[dY];rfl';rw[show P.filter (λp=>decide (p∉ins)&&decide (p∉outs))=mS P ins outs from rfl];have lF:(mS P ins outs).length<=60:=NZ (PV _ _) pl;generalize mS P ins outs=F at q lF⊢;rw[hB];clear hB B;refine aX λB hB=>?_;rfl';by_cases hl:l.length=F.length
 .rw[if_neg λz=>z hl,hB];clear hB B;refine aX λB hB=>?_;rfl';rw[if_pos (by lia)];refine ay rfl ?_;refine jE (λj E=>Cj λ(o13 o14:Option (Kd×PyData))=>yC (E=[some (.sh,kU w),some (.sh,.tuple [aH t,aH u,.tuple l]),some (.sh,nD ins),some (.sh,nD outs),some (.sh,kM w.m w.es),some (.sh,.list (w.T.map aH)),some (.sh,iD w.s),some (.sh,iD w.k),some (.sh,aH t),some (.sh,aH u),some (.sh,.tuple l),some (.sh,nD P),some (.ow false,nD F),o13,o14,none]) (bG o13=true) (bG o14=true) (∀i p c,i<j->F[i]?=some p->l[i]?=some c->cs w n c (ins++[p]) (outs++F.take i)=true)) ⟨none,none,rfl,rfl,rfl,λi p c z=>absurd z (P6 i)⟩ ?_ ?_
  .rintro J j _ hj hJ⟨o13,o14,rfl,z3,z4,hc⟩;have gF:=O5 hj;have hj2:j<l.length:=by lia
   have gl:=O5 hj2;simp![z3,z4];have lt:(F.take j).length<=60:=NZ (R8 _ _) (by lia);have ln:=W.lk;refine⟨by lia,ay (show cR l (j:Int)=some l[j]by rw[qN];exact gl) (ay gF ⟨by lia,by lia,?_⟩)⟩;refine⟨w,l[j],ins++[F[j]],outs++F.take j,by rw[<-OA,show List.map iD ins++[iD F[j]]=(ins++[F[j]]).map iD by rw[OA];rfl],W,wl _ (Pz _),by rw[NU];show ins.length+1<=_;lia,by rw[NU,NU];show _+60*(w.k-(ins.length+1))<=_;lia,?_⟩;rfl';cases ec:cs w n l[j] (ins++[F[j]]) (outs++F.take j)with
   |false=>rw[if_pos rfl];rw[@Ol _ (Classical.propDecidable _) (λz=>by rw[z.2 j _ _ gF gl]at ec;cases ec)]at q;exact q
   |true=>rw[if_neg (λz=>nomatch z)];refine hJ _ ⟨some (.sh,iD j),some (.ow false,nD (outs++F.take j)),by rw[<-OA],rfl,rfl,λi p c hi2 h1 h2=>?_⟩;by_cases ei:i=j;{subst ei;rw[gF]at h1;rw[gl]at h2;cases h1;cases h2;exact ec};exact hc i p c (by lia) h1 h2
  rintro _⟨o13,o14,rfl,z3,z4,hc⟩;show B _;rw[hB];clear hB B;rfl';rw[@Pw _ (Classical.propDecidable _) ⟨hl,λj p c h1 h2=>hc j p c (cQ h1) h1 h2⟩]at q;exact q
 rw[if_pos hl];rw[@Ol _ (Classical.propDecidable _) (λz=>hl z.1)]at q;exact q
noncomputable def qy (n:Nat):bM:=λdd Q x=>∃w L p ins outs,dd=[kU w,.list (L.map (fR w.m w.es)),nD [p],nD ins,nD outs]/\wO w/\L≠[]/\L.length<=100000/\ins.length<=w.k/\w.k-ins.length<n/\outs.length+60*(w.k-ins.length)<=1000/\∀d p',Wt 60 n d->Q [nD [p']] .sh d
def BE{m:Nat}{M:List (Th×Th)}:dl 8 (.list (M.map (fR m es)))=true:=by
 show((M.map (fR m es)).all (dl 7))=true;rw[N7];intro d hd;obtain⟨e,_,rfl⟩:=NT.mp hd;have h1:∀t:Th,dl 6 (aH t)=true:=λt=>by cases t<;>rfl
 have h2:dl 6 (nD (iF m es e.1 e.2))=true:=by show(((iF m es e.1 e.2).map iD).all (dl 5))=true;rw[N7];intro d hd;obtain⟨c,_,rfl⟩:=NT.mp hd;rfl
 show([aH e.1,aH e.2,nD (iF m es e.1 e.2)].all (dl 6))=true;rw[NW,NW,NW,h1,h1,h2];rfl
def rF:TD (aH t):=by
 cases t with
 |inl a=>exact .inl ⟨_,rfl⟩
 |inr e=>exact .inr ⟨_,_,rfl⟩
def Lv(n:Nat):∀dd Q x,qy (n+1) dd Q x->ie jB (qy n) (bD [false,false,true,false,false] Q x) (ini [false,false,true,false,false] dd++List.replicate 14 none):=by
 rintro _ Q x⟨w,L,p,ins,outs,rfl,W,ne,few,hi,hn,ho,q⟩;unfold ie;refine aX λB hB=>?_;rfl';rw[hB];clear hB B;refine aX λB hB=>?_;rfl';refine⟨by lia,?_⟩;rw[hB];clear hB B;refine aX λB hB=>?_;rfl';refine qD (λi E=>BN λ(M:List (Th×Th))(oa ob oc:Option (Kd×PyData))=>ET (E=[some (.sh,kU w),some (.sh,.list (L.map (fR w.m w.es))),some (.ow true,nD [p]),some (.sh,nD ins),some (.sh,nD outs),some (.sh,kM w.m w.es),some (.sh,.list (w.T.map aH)),some (.sh,iD w.s),some (.sh,iD w.k),some (.ow false,.list (M.map (fR w.m w.es))),oa,ob,oc,none,none,none,none,none,none]) (bG oa=true) (bG ob=true) (bG oc=true) (M.length<=i)) ⟨[],none,none,none,rfl,rfl,rfl,rfl,N5 _⟩ ?_ ?_;{rintro J i e _ hi2 hJ⟨M,oa,ob,oc,rfl,za,zb,zc,lm⟩;have li:=cQ hi2;have pl:(iF w.m w.es e.1 e.2).length<=60:=NZ (PV _ _) (by rw[O3];exact W.qQ.le);simp![za,zb,zc];generalize eP:iF w.m w.es e.1 e.2=P at pl⊢;refine jg (λp=>if decide (p∈ins)=true then some (iD p)else none) rfl (λp hp I hI=>?_) ?_ (by lia);{rfl';refine⟨⟨N7.mpr λ_ _=>rfl,rfl⟩,?_⟩;simp only[Oo]at hI;by_cases c:p∈ins;{rw[if_pos (cL.mpr c)];rw[if_pos c]at hI;exact hI _ rfl};rw[if_neg λz=>c (cL.mp z)];rw[if_neg c]at hI;exact hI _ rfl};rw[dY];rfl';split;{refine⟨by lia,by lia,hJ _ ⟨M++[e],some (.sh,aH e.1),some (.sh,aH e.2),some (.sh,nD P),?_,rfl,rfl,rfl,by rw[NU];simp;lia⟩⟩;rw[OA,<-eP];rfl};exact hJ _ ⟨M,some (.sh,aH e.1),some (.sh,aH e.2),some (.sh,nD P),rfl,rfl,rfl,rfl,by lia⟩};rintro _⟨M,oa,ob,oc,rfl,za,zb,zc,lm⟩;show B _;rw[hB];clear hB B;refine fE (λE=>Cj λ(M:List (Th×Th))(k9:Kd)=>yC (E=[some (.sh,kU w),some (.sh,.list (L.map (fR w.m w.es))),some (.ow true,nD [p]),some (.sh,nD ins),some (.sh,nD outs),some (.sh,kM w.m w.es),some (.sh,.list (w.T.map aH)),some (.sh,iD w.s),some (.sh,iD w.k),some (k9,.list (M.map (fR w.m w.es))),oa,ob,oc,none,none,none,none,none,none]) ((k9=.ow false\/k9=.sh)) (M≠[]) (M.length<=100000)) (λJ hJ=>?_) λB hB=>?_;{rfl';refine⟨by lia,⟨BE,rfl⟩,?_⟩;split;{exact hJ _ ⟨L,.sh,rfl,.inr rfl,ne,few⟩};rename_i hm;exact hJ _ ⟨M,.ow false,rfl,.inl rfl,λz=>hm (by rw[z];rfl),by lia⟩};clear lm M;rintro _⟨M,k9,rfl,hk9,nM,lM⟩;rw[hB];clear hB B;refine aX λB hB=>?_;have pM:0<M.length:=PM.mpr nM;have rest:∀(p:Nat)(t u:Th)(P:SN),P.length<=60->B [some (.sh,kU w),some (.sh,.list (L.map (fR w.m w.es))),some (.ow true,nD [p]),some (.sh,nD ins),some (.sh,nD outs),some (.sh,kM w.m w.es),some (.sh,.list (w.T.map aH)),some (.sh,iD w.s),some (.sh,iD w.k),some (.sh,.list (M.map (fR w.m w.es))),some (.sh,aH t),some (.sh,aH u),some (.sh,nD P),none,none,none,none,none,none]:=by
  intro p t u P pl;rw[hB];clear hB B za zb zc oa ob oc;refine aX λB hB=>?_;rfl';refine⟨by lia,?_⟩;rw[hB];clear hB B;refine fE (λE=>Mr λ(p:Nat)(l:SA)(o14 o15 o16 o17:Option (Kd×PyData))=>AD (E=[some (.sh,kU w),some (.sh,.list (L.map (fR w.m w.es))),some (.ow true,nD [p]),some (.sh,nD ins),some (.sh,nD outs),some (.sh,kM w.m w.es),some (.sh,.list (w.T.map aH)),some (.sh,iD w.s),some (.sh,iD w.k),some (.sh,.list (M.map (fR w.m w.es))),some (.sh,aH t),some (.sh,aH u),some (.sh,nD P),some (.ow false,.list l),o14,o15,o16,o17,none]) (l.length<=60) (∀c∈l,Wt 60 n c)) (λJ hJ=>?_) λB hB=>?_
  .rfl';split
   .rename_i hk;refine jg (λp=>if(decide (p∉ins)&&decide (p∉outs))=true then some (iD p)else none) rfl (λp hp I hI=>?_) ?_ (by lia);{rfl';refine⟨⟨N7.mpr λ_ _=>rfl,rfl⟩,?_⟩;by_cases c:p∈ins;{rw[if_neg λz=>z (cL.mpr c)];rw[if_neg (by simp[c])]at hI;exact hI _ rfl};rw[if_pos λz=>c (cL.mp z)];refine⟨⟨N7.mpr λ_ _=>rfl,rfl⟩,?_⟩;by_cases c2:p∈outs;{rw[if_neg λz=>z (cL.mpr c2)];rw[if_neg (by simp[c2])]at hI;exact hI _ rfl};rw[if_pos λz=>c2 (cL.mp z)];rw[if_pos (by simp[c,c2])]at hI;exact hI _ rfl};rw[dY];rfl';rw[show P.filter (λp=>decide (p∉ins)&&decide (p∉outs))=mS P ins outs from rfl];have lF:(mS P ins outs).length<=60:=NZ (PV _ _) pl;generalize mS P ins outs=F at lF⊢;rw[if_pos (by lia)];refine ay rfl ?_;refine jE (λj E=>rC λ(p:Nat)(l:SA)(o15 o16 o17:Option (Kd×PyData))=>FG (E=[some (.sh,kU w),some (.sh,.list (L.map (fR w.m w.es))),some (.ow true,nD [p]),some (.sh,nD ins),some (.sh,nD outs),some (.sh,kM w.m w.es),some (.sh,.list (w.T.map aH)),some (.sh,iD w.s),some (.sh,iD w.k),some (.sh,.list (M.map (fR w.m w.es))),some (.sh,aH t),some (.sh,aH u),some (.sh,nD P),some (.ow false,.list l),some (.ow false,nD F),o15,o16,o17,none]) (bG o15=true) (bG o16=true) (bG o17=true) (l.length<=j) (∀c∈l,Wt 60 n c)) ⟨p,[],none,none,none,rfl,rfl,rfl,rfl,N5 _,λc z=>nomatch z⟩ ?_ ?_
    .rintro J2 j _ hj hJ2⟨p,l,o15,o16,o17,rfl,z5,z6,z7,ll,wl⟩;have gF:=O5 hj;have lt:(F.take j).length<=60:=NZ (R8 _ _) (by lia);simp![z5,z6,z7];have lk:=W.lk;refine⟨by lia,ay gF ⟨by lia,by lia,?_⟩⟩;refine⟨w,L,p,ins++[F[j]],outs++F.take j,by rw[<-OA,show List.map iD ins++[iD F[j]]=(ins++[F[j]]).map iD by rw[OA];rfl],W,ne,few,by rw[NU];show ins.length+1<=_;lia,by rw[NU];show w.k-(ins.length+1)<_;lia,by rw[NU,NU];show _+60*(w.k-(ins.length+1))<=_;lia,λd p wd=>?_⟩;rfl';have dn:∀c∈l++[d],Wt 60 n c:=λc hc=>by rcases O7.mp hc with hc|hc;{exact wl c hc};rw[NV.mp hc];exact wd
     have le:(l++[d]).length<=j+1:=by rw[NU];show l.length+1<=_;lia
     by_cases c:(lf d&&true)=true;{rw[if_pos c];refine ay rfl ?_;rfl';exact⟨by lia,hJ2 _ ⟨p,l++[d],_,_,_,rfl,rfl,rfl,rfl,le,dn⟩⟩};rw[if_neg c];refine ay rfl ?_;rfl';exact⟨by lia,hJ2 _ ⟨p,l++[d],_,_,_,rfl,rfl,rfl,rfl,le,dn⟩⟩
    rintro _⟨p,l,o15,o16,o17,rfl,z5,z6,z7,ll,wl⟩;exact hJ _ ⟨p,l,some (.ow false,nD F),o15,o16,o17,rfl,by lia,wl⟩
   exact hJ _ ⟨p,[],none,none,none,none,rfl,by simp,λc z=>nomatch z⟩
  rintro _⟨p,l,o14,o15,o16,o17,rfl,ll,wl⟩;rw[hB];clear hB B;refine fE (λE=>∃(p:Nat)(t u:Th),E=[some (.sh,kU w),some (.sh,.list (L.map (fR w.m w.es))),some (.ow true,nD [p]),some (.sh,nD ins),some (.sh,nD outs),some (.sh,kM w.m w.es),some (.sh,.list (w.T.map aH)),some (.sh,iD w.s),some (.sh,iD w.k),some (.sh,.list (M.map (fR w.m w.es))),some (.sh,aH t),some (.sh,aH u),some (.sh,nD P),some (.ow false,.list l),o14,o15,o16,o17,none]) (λJ hJ=>?_) λB hB=>?_;{rfl';refine⟨p,2,rfl,by lia,by lia,λr p hr=>?_⟩;rfl';split;{exact⟨by lia,hJ _ ⟨p,u,t,rfl⟩⟩};exact hJ _ ⟨p,t,u,rfl⟩};rintro _⟨p,t,u,rfl⟩;rw[hB];clear hB B;rfl';by_cases c:l.all lf=true;{rw[if_pos c];refine ay rfl ?_;rfl';exact⟨by lia,q _ p ⟨aH t,aH u,l,rfl,rF,rF,by lia,wl⟩⟩};rw[if_neg c];refine ay rfl ?_;rfl';exact⟨by lia,q _ p ⟨aH t,aH u,l,rfl,rF,rF,by lia,wl⟩⟩
 rcases hk9 with rfl|rfl;{simp![za,zb,zc];refine⟨p,M.length,rfl,pM,by lia,λr p hr=>?_⟩;simp![za,zb,zc];refine ay (O5 hr) ?_;simp![za,zb,zc];rw[if_neg (by rw[nN,nN];decide)];refine ay rfl ?_;simp![za,zb,zc];exact rest p _ _ _ (NZ (PV _ _) (by rw[O3];exact W.qQ.le))};simp![za,zb,zc];refine⟨p,M.length,rfl,pM,by lia,λr p hr=>?_⟩;simp![za,zb,zc];refine ay (O5 hr) ?_;simp![za,zb,zc];exact rest p _ _ _ (NZ (PV _ _) (by rw[O3];exact W.qQ.le))
noncomputable def BL:bM:=λdd Q x=>∃k n d T v p,dd=[d,.list (T.map aH),iD v,nD [p]]/\Wt k n d/\k<=999/\T≠[]/\T.length<=100000/\v<=8/\∀d' p',Wt (k+1) (n+1) d'->Q [nD [p']] .sh d'
noncomputable def tG (n:Nat):bM:=λdd Q x=>∃k d T v p,dd=[d,.list (T.map aH),iD v,nD [p]]/\Wt k n d/\k<=999/\T≠[]/\T.length<=100000/\v<=8/\∀d' p',Wt (k+1) (n+1) d'->Q [nD [p']] .sh d'
theorem Wt.lf{k:Nat}:∀{n:Nat}{d:PyData},Wt k n d->lf d=true
 |0,_,h=>h.elim
 |n+1,_,⟨a,b,l,e,ta,tb,_,h⟩=>by subst e;show lf.lfs [a,b,.tuple l]=true;rw[lZ,NW,NW,NW,ta.lf,tb.lf];show(lf.lfs l&&true)=true;rw[Bool.and_true,lZ,N7];exact λc hc=>Wt.lf (h c hc)
def LM(n:Nat):∀dd Q x,tG (n+1) dd Q x->fu jB BL (tG n) (bD [false,false,false,true] Q x) (ini [false,false,false,true] dd++List.replicate 2 none):=by
 rintro _ Q x⟨k,d,T,v,p,rfl,wt,hk,ne,few,hv,q⟩;obtain⟨a,b,l,rfl,ta,tb,ll,wl⟩:=id wt;have g2:cR [a,b,PyData.tuple l] 2=some (.tuple l):=rfl;unfold fu;refine aX λB hB=>?_;simp![g2];have turn:∀p,BL [PyData.tuple [a,b,PyData.tuple l],PyData.list (List.map aH T),iD v,nD [p]] (λus k v_2=>au (iY [true] [Arg.pk 3] us [some (Kd.sh,PyData.tuple [a,b,PyData.tuple l]),some (Kd.sh,PyData.list (List.map aH T)),some (Kd.sh,iD v),some (Kd.ow true,nD [p]),none,none]) λE2=>au (oB [false,false,false,true] [Arg.pk 0,Arg.pk 1,Arg.pk 2,Arg.pk 3] us E2 k v_2) λE3=>(bD [false,false,false,true] Q x).rt E3 k v_2) x:=λp=>by refine⟨k,n+1,_,T,v,p,rfl,wt,hk,ne,few,hv,λd' p' wd=>?_⟩;rfl';exact q d' p' wd
 refine⟨by lia,?_⟩;rw[nP];by_cases le:l.isEmpty=true;{rw[le];rfl';exact turn p};rw[Bool.eq_false_iff.mpr le];rfl';refine⟨p,3,rfl,by lia,by lia,λr p hr=>?_⟩;rfl';split;{exact turn p};rw[hB];clear hB B turn;have pl:0<l.length:=by
  cases l with
  |nil=>exact absurd rfl le
  |cons=>simp
 refine aX λB hB=>?_;simp![g2];refine⟨p,l.length,rfl,pl,by lia,λr p hr=>?_⟩;rfl';rw[hB];clear hB B;refine aX λB hB=>?_;simp![g2];rw[hB];clear hB B;refine aX λB hB=>?_;simp![g2];have gl:=O5 hr;have wr:=wl _ (Pz hr);refine ay (show cR l (r:Int)=some l[r]by rw[qN];exact gl) ?_;rw[if_pos wr.lf];refine ay rfl ?_;rfl';refine⟨k,l[r],T,v,p,rfl,wr,hk,ne,few,hv,λd' p' wd=>?_⟩;rfl';refine jH hr ?_;rw[hB];clear hB B;have ws:∀c∈l.set r d',Wt (k+1) (n+1) c:=λc hc=>by rcases List.mem_or_eq_of_mem_set hc with z|z;{exact Wt.up (by lia) (by lia) (wl c z)};rw[z];exact wd
 have lall:(l.set r d').all lf=true:=N7.mpr λc hc=>(ws c hc).lf;simp![ta.lf,tb.lf,lall];refine⟨by lia,q _ _ ⟨a,b,l.set r d',rfl,ta,tb,by rw[OR];lia,ws⟩⟩
end PB
local macro_rules | `(tactic| bv_omega) => do let ls ← (List.range 216).toArray.mapM fun k => `(Lean.Parser.Tactic.simpLemma| $(Lean.mkIdent (.str `Dv s!"rr{k}")):ident); `(tactic| dsimp only[$ls,*, Dv.dyr0, Dv.dyr1, Dv.dyr2, Dv.dyr3, Nat.reduceBEq, Dv.gM, Dv.gG, Dv.iQ, Dv.i6, Dv.lW, Dv.nP, Dv.sI])
namespace PB
open PySem L2 Dv Gr
def J5{a:Nat}:cutD l (some (a:Int)) none=l.drop a:=by have h:=rB (l:=l) (f:=id) (a:=a);rwa[Pk,Pk]at h
def ER{a:Nat}:cutD l none (some (a:Int))=l.take a:=by have h:=vp (l:=l) (f:=id) (b:=a);rwa[Pk,Pk]at h
def Nd{a b:Nat}:cutD l (some (a:Int)) (some (b:Int))=(l.take b).drop a:=by have h:=wG (l:=l) (f:=id) (a:=a) (b:=b);rwa[Pk,Pk]at h
def zd{a:Int}:fD true false [.tuple l,.int a] P=P .sh (.tuple (cutD l (some a) none)):=rfl
def Ju{a b:Int}:fD true true [.tuple l,.int a,.int b] P=P .sh (.tuple (cutD l (some a) (some b))):=rfl
def LU:∀dd Q x,BL dd Q x->f7 jB (bD [false,false,false,true] Q x) (ini [false,false,false,true] dd++List.replicate 5 none):=by
 rintro _ Q x⟨k,n,d,T,v,p,rfl,wt,hk,ne,few,hv,q⟩;cases n with
 |zero=>exact wt.elim
 |succ n=>
 obtain⟨a,b,l,rfl,ta,tb,ll,wl⟩:=wt;have put:∀(a' b':PyData)(l':SA) (p:Nat),TD a'->TD b'->l'.length<=k+1->(∀c∈l',c∈l\/c=.tuple [a,b,.tuple []])->Q [nD [p]] .sh (.tuple [a',b',.tuple l']):=λa' b' l' p ha hb hl hc=>q _ p ⟨a',b',l',rfl,ha,hb,hl,λc z=>by
  rcases hc c z with z|z
  .exact Wt.up (by lia) (by lia) (wl c z)
  .rw[z];exact⟨a,b,[],rfl,ta,tb,ON _,λ_ z=>nomatch z⟩⟩
 have pT:0<T.length:=PM.mpr ne;unfold f7;refine aX λB hB=>?_;rfl';rw[hB];clear hB B;refine aX λB hB=>?_;rfl';refine⟨p,T.length,rfl,pT,by lia,λr p hr=>?_⟩;rfl';refine ay (O5 hr) ?_;rfl';rw[hB];clear hB B;refine aX λB hB=>?_;rfl';refine⟨p,l.length+1,rfl,by lia,by lia,λj p hj=>?_⟩;rfl';rw[hB];clear hB B;refine aX λB hB=>?_;rfl';split;{exact⟨by lia,put _ _ _ _ rF tb (by lia) λ_=>.inl⟩};rw[hB];clear hB B;refine aX λB hB=>?_;rfl';split;{exact⟨by lia,put _ _ _ _ ta ta (by lia) λ_=>.inl⟩};rw[hB];clear hB B;refine aX λB hB=>?_;rfl';split;{refine⟨by lia,by lia,by lia,by lia,?_⟩;rcases(show j%4=0\/j%4=1\/j%4=2\/j%4=3 by lia)with e|e|e|e;{rw[show(j:Int)%4=0 by lia];exact ay rfl ⟨by lia,put _ _ _ _ (.inl ⟨_,rfl⟩) tb (by lia) λ_=>.inl⟩};{rw[show(j:Int)%4=1 by lia];exact ay rfl ⟨by lia,put _ _ _ _ (.inr ⟨0,60,rfl⟩) tb (by lia) λ_=>.inl⟩};{rw[show(j:Int)%4=2 by lia];exact ay rfl ⟨by lia,put _ _ _ _ (.inr ⟨1,0,rfl⟩) tb (by lia) λ_=>.inl⟩};rw[show(j:Int)%4=3 by lia];exact ay rfl ⟨by lia,put _ _ _ _ (.inl ⟨_,rfl⟩) tb (by lia) λ_=>.inl⟩};rw[hB];clear hB B;refine aX λB hB=>?_;rfl';split;{refine⟨by lia,by lia,?_⟩;have tb':=tb;rcases tb' with⟨i,rfl⟩|⟨i,i',rfl⟩;{exact⟨by lia,put _ _ _ _ (.inr ⟨0,1,rfl⟩) tb (by lia) λ_=>.inl⟩};exact⟨by lia,put _ _ _ _ (.inl ⟨_,rfl⟩) tb (by lia) λ_=>.inl⟩};rw[hB];clear hB B;refine aX λB hB=>?_;rfl';split;{rw[zd,ER,show(j:Int)+1=((j+1:Nat):Int)by lia,J5];refine⟨rfl,⟨?_,rfl,by lia,put _ _ _ _ ta tb ?_ λc hc=>.inl ?_⟩⟩;{rw[OM,OO];exact NZ (show _<=1000 by lia) (by decide)};{rw[NU,OM,OO];lia};rcases O7.mp hc with h|h;{exact Q5 h};exact QS h};rw[hB];clear hB B;refine aX λB hB=>?_;rfl';split;{rw[Ju,ER,show(j:Int)+1=((j+1:Nat):Int)by lia,Nd];refine⟨rfl,⟨?_,rfl,?_⟩⟩;{rw[OM,OO,OM];exact NZ (show _<=2000 by lia) (by decide)};rw[zd,J5];refine⟨rfl,⟨?_,rfl,by lia,put _ _ _ _ ta tb ?_ λc hc=>.inl ?_⟩⟩;{rw[NU,OM,OO,OM,OO];exact NZ (show _<=3000 by lia) (by decide)};{rw[NU,NU,OM,OO,OM,OO];lia};rcases O7.mp hc with h|h;{rcases O7.mp h with h|h;{exact Q5 h};exact Q5 (QS h)};exact QS h};rw[hB];clear hB B;refine aX λB hB=>?_;rfl';split;{rw[zd,show(1:Int)=((1:Nat):Int)by rfl,J5,ER];refine⟨rfl,⟨?_,rfl,by lia,put _ _ _ _ ta tb ?_ λc hc=>.inl ?_⟩⟩;{rw[OM,OO];exact NZ (show _<=2000 by lia) (by decide)};{rw[NU,OM,OO];lia};rcases O7.mp hc with h|h;{exact QS h};exact Q5 h};rw[hB];clear hB B;refine aX λB hB=>?_;rfl';split;{exact⟨by lia,by lia,put _ _ _ _ ta tb (ON _) λ_ z=>nomatch z⟩};rw[hB];clear hB B;rfl';exact⟨by lia,by lia,by lia,by lia,by lia,put _ _ _ _ ta tb (by rw[NU];simp;lia) λc hc=>by
  rcases O7.mp hc with h|h
  .exact .inl h
  .exact .inr (NV.mp h)⟩
end PB
local macro_rules | `(tactic| bv_omega) => do let ls ← (List.range 216).toArray.mapM fun k => `(Lean.Parser.Tactic.simpLemma| $(Lean.mkIdent (.str `Dv s!"rr{k}")):ident); `(tactic| dsimp only[$ls,*, Dv.dyr0, Dv.dyr1, Dv.dyr2, Dv.dyr3, Nat.reduceBEq, Dv.gM, Dv.gG, Dv.iQ, Dv.i6, Dv.lW, Dv.nP, Dv.sI, Dv.Fe, Dv.Ej, Dv.yj, Dv.ye])
namespace PB
open PySem L2 Dv Gr
def KU(ta:TD a)(tb:TD b)(h:P .sh (.bool (decide (a=b)))):cV [a,b] P:=by rcases ta with⟨i,rfl⟩|⟨a1,a2,rfl⟩;{rcases tb with⟨j,rfl⟩|⟨b1,b2,rfl⟩;{have e:decide (PyData.int i=.int j)=decide (i=j):=decide_eq_decide.mpr ⟨λh=>by injection h,λh=>by rw[h]⟩;rw[e]at h;exact h};exact⟨⟨rfl,rfl⟩,h⟩};rcases tb with⟨j,rfl⟩|⟨b1,b2,rfl⟩;{exact⟨⟨rfl,rfl⟩,h⟩};exact⟨⟨rfl,rfl⟩,h⟩
def Il{F:SN}{l:SA}(h:l.length=F.length):d8 (qd (F.map iD) l)=(List.range F.length).map λj:Nat=>PyData.tuple [.int j,.tuple [iD (F.getD j 0),l.getD j .none]]:=by
 refine PC λi=>?_;unfold d8 qd;rw[O4,RX,O4,O4];rcases OY i F.length with c|c
 .have c2:i<l.length:=by lia
  rw[OB c];have:((F.map iD).zip l)[i]?=some (iD F[i],l[i]):=by rw[List.getElem?_zip_eq_some];exact⟨by rw[O4,O5 c];rfl,O5 c2⟩
  rw[this];simp[OX,O5 c,O5 c2]
 rw[OL (l:=List.range _) (by rw[O3];exact c),OL (by rw[List.length_zip,NS];lia)];rfl
noncomputable abbrev Mu (w:Wk):PyData:=.list ((List.range w.m).map λp=>kL w.m w.es p)
noncomputable def tK (n:Nat):bM:=λdd Q x=>∃w d ins outs,dd=[Mu w,.list (w.T.map aH),iD w.s,iD w.k,d,nD ins,nD outs]/\wO w/\Wt 1000 n d/\ins.length<=w.k/\outs.length+60*(w.k-ins.length)<=1000/\Q [] .sh (.bool (cs w n d ins outs))
def Lo(n:Nat):∀dd Q x,tK (n+1) dd Q x->jY Ac (tK n) (bD [false,false,false,false,false,false,false] Q x) (ini [false,false,false,false,false,false,false] dd++List.replicate 8 none):=by
 rintro _ Q x⟨w,_,ins,outs,rfl,W,⟨a,b,l,rfl,ta,tb,ll,wl⟩,hi,ho,q⟩;unfold jY;refine aX λB hB=>?_;rfl';rw[hB];clear hB B;refine aX λB hB=>?_;rfl';have ad:(w.T.all λa=>dl 8 (aH a))=true:=N7.mpr λt _=>by cases t<;>rfl
 refine KU ta tb ?_;rfl';by_cases ab:a=b;{rw[if_pos ab];rw[kK λt u e1 e2 _ _ h3 _=>h3 (by rw[<-gJ,<-e1,<-e2,ab])]at q;exact q};rw[if_neg ab];refine⟨⟨ad,ta.dl⟩,?_⟩;by_cases h1:a∈w.T.map aH
 .obtain⟨t,ht,rfl⟩:=NT.mp h1;rw[if_neg λz=>z h1];refine⟨⟨ad,tb.dl⟩,?_⟩;by_cases h2:b∈w.T.map aH
  .obtain⟨u,hu,rfl⟩:=NT.mp h2;rw[if_neg λz=>z h2];clear h1 h2;have tu:t≠u:=λz=>ab (by rw[z]);clear ab;rw[hB];clear hB B;refine aX λB hB=>?_;rfl';refine⟨w.m,w.es,t,u,rfl,W.qQ.le,W.tv t ht,W.tv u hu,?_⟩;rfl';rw[hB];clear hB B;refine aX λB hB=>?_;rfl';have pl:(iF w.m w.es t u).length<=60:=NZ (PV _ _) (by rw[O3];exact W.qQ.le);generalize eP:iF w.m w.es t u=P at pl⊢;refine jg (λp=>if decide (p∈ins)=true then some (iD p)else none) rfl (λp hp I hI=>?_) ?_ (by lia);{rfl';refine⟨⟨N7.mpr λ_ _=>rfl,rfl⟩,?_⟩;simp only[Oo]at hI;by_cases c:p∈ins;{rw[if_pos (cL.mpr c)];rw[if_pos c]at hI;exact hI _ rfl};rw[if_neg λz=>c (cL.mp z)];rw[if_neg c]at hI;exact hI _ rfl};rw[dY];rfl';rw[show List.filter (λp=>decide (p∈ins)) P=hit P ins from rfl];by_cases hs:w.s<=(hit P ins).length;{rw[if_pos hs];rw[kK λt' u' e1 e2 _ _ _ h4=>by rw[<-gJ.mp e1,<-gJ.mp e2,eP]at h4;lia]at q;exact q};rw[if_neg hs];rw[CU ht hu tu (by rw[eP];lia)]at q;unfold EM at q;rw[eP]at q;rw[hB];clear hB B hs;refine aX λB hB=>?_;rfl';by_cases hk:ins.length=w.k
   .rw[if_pos (by lia)];rw[if_pos hk]at q;have e:l.isEmpty=@decide (l=[]) (Classical.propDecidable _):=by
     cases l with
     |nil=>exact(@Pw _ (Classical.propDecidable _) rfl).symm
     |cons=>exact(@Ol _ (Classical.propDecidable _) (λz=>nomatch z)).symm
    rw[e];exact⟨by lia,q⟩
   rw[if_neg (by lia),hB];rw[if_neg hk]at q;clear hB B;refine aX λB hB=>?_;rfl';refine jg (λp=>if(decide (p∉ins)&&decide (p∉outs))=true then some (iD p)else none) rfl (λp hp I hI=>?_) ?_ (by lia);{rfl';refine⟨⟨N7.mpr λ_ _=>rfl,rfl⟩,?_⟩;by_cases c:p∈ins;{rw[if_neg λz=>z (cL.mpr c)];rw[if_neg (by simp[c])]at hI;exact hI _ rfl};rw[if_pos λz=>c (cL.mp z)];refine⟨⟨N7.mpr λ_ _=>rfl,rfl⟩,?_⟩;by_cases c2:p∈outs;{rw[if_neg λz=>z (cL.mpr c2)];rw[if_neg (by simp[c2])]at hI;exact hI _ rfl};rw[if_pos λz=>c2 (cL.mp z)];rw[if_pos (by simp[c,c2])]at hI;exact hI _ rfl};rw[dY];rfl';rw[show P.filter (λp=>decide (p∉ins)&&decide (p∉outs))=mS P ins outs from rfl];have lF:(mS P ins outs).length<=60:=NZ (PV _ _) pl;generalize mS P ins outs=F at q lF⊢;rw[hB];clear hB B;refine aX λB hB=>?_;rfl';by_cases hl:l.length=F.length
   .rw[if_neg λz=>z hl,hB];clear hB B;rfl';refine⟨hl.symm,?_⟩;rw[Il hl];refine qS (λj=>.bool (cs w n (l.getD j .none) (ins++[F.getD j 0]) (outs++F.take j))) rfl (λj hj I hI=>?_) ?_ (by rw[O3];lia)
    .have hj:=OU.mp hj;rfl';have hj2:j<l.length:=by lia
     have gl:l.getD j .none=l[j]:=by rw[OX,O5 hj2];rfl
     have lt:(F.take j).length<=60:=NZ (R8 _ _) (by lia);have lk:=W.lk;generalize F.getD j 0=p at hI⊢;refine⟨by lia,by lia,by lia,w,l.getD j .none,ins++[p],outs++F.take j,by rw[<-OA,show List.map iD ins++[iD p]=(ins++[p]).map iD by rw[OA];rfl],W,wl _ (by rw[gl];exact Pz _),by rw[NU];show ins.length+1<=_;lia,by rw[NU,NU];show _+60*(w.k-(ins.length+1))<=_;lia,?_⟩;rfl';exact hI _ rfl
    rfl';rw[show List.map (λj=>PyData.bool (cs w n (l.getD j .none) (ins++[F.getD j 0]) (outs++F.take j))) (List.range F.length)=((List.range F.length).map λj=>cs w n (l.getD j .none) (ins++[F.getD j 0]) (outs++F.take j)).map .bool by rw[Oc];rfl];refine JU ?_;have e:(((List.range F.length).map λj=>cs w n (l.getD j .none) (ins++[F.getD j 0]) (outs++F.take j)).all id)=@decide _ (Classical.propDecidable (l.length=F.length/\∀(j p:Nat)(c:PyData),F[j]?=some p->l[j]?=some c->cs w n c (ins++[p]) (outs++F.take j)=true)):=by
     refine Ov.mpr ⟨λh=>@Pw _ (Classical.propDecidable _) ⟨hl,λj p c h1 h2=>?_⟩,λh=>?_⟩;{have h3:=N7.mp h _ (NT.mpr ⟨j,OU.mpr (cQ h1),rfl⟩);rw[OX,OX,h1,h2]at h3;exact h3};have h3:=(@Oq _ (Classical.propDecidable _) h).2;refine N7.mpr λb hb=>?_;obtain⟨j,hj,rfl⟩:=NT.mp hb;have hj:=OU.mp hj;have hj2:j<l.length:=by lia
     have g1:=O5 hj;have g2:=O5 hj2;rw[OX,OX,g1,g2];exact h3 j _ _ g1 g2
    rw[e];exact q
   rw[if_pos hl];rw[@Ol _ (Classical.propDecidable _) (λz=>hl z.1)]at q;exact q
  rw[if_pos h2];rw[kK λt u _ e1 _ h1 _ _=>h2 (by rw[e1];exact NT.mpr ⟨u,h1,rfl⟩)]at q;exact q
 rw[if_pos h1];rw[kK λt u e1 _ h2 _ _ _=>h1 (by rw[e1];exact NT.mpr ⟨t,h2,rfl⟩)]at q;exact q
noncomputable def zL:bM:=λdd Q x=>∃w k d,dd=[wD w.m w.es,.str k,iD w.s,iD w.k,d]/\wO w/\w.T=bQ k w.m w.es/\Wt 1000 7 d/\Q [] .sh (.bool (cs w 7 d [] []))
def HG:∀dd Q x,zL dd Q x->kg (tK 7) zQ Ae (bD [false,false,false,false,false] Q x) (ini [false,false,false,false,false] dd++List.replicate 0 none):=by rintro _ Q x⟨w,k,d,rfl,W,eT,wt,q⟩;obtain⟨a,b,l,rfl,_⟩:=id wt;unfold kg;refine aX λB hB=>?_;rfl';rw[hB];clear hB B;rfl';refine⟨w.m,w.es,rfl,W.qQ,?_⟩;rfl';refine⟨w.m,w.es,k,rfl,W.qQ,?_⟩;rfl';have lk:=W.lk;refine⟨by lia,by lia,w,_,[],[],by rw[eT];rfl,W,wt,ON _,by show 0+60*(w.k-0)<=_;lia,?_⟩;rfl';exact q
def Dz{m:Nat}(W:fL m es)(hm:3<=m):2<=es.length:=by
 have nb:∀x,x<3->∃y,cT es x y:=λx hx=>by have h:∃p,p<m/\x≠p:=⟨if x=0 then 1 else 0,by split<;>lia,by split<;>lia⟩;obtain⟨p,hp,ne⟩:=h;obtain⟨y,_,a,_⟩:=dW.pred W.cn W.gd hp (show x<m by lia) ne;exact⟨y,a⟩
 rcases es with _|⟨⟨a,b⟩,_|⟨f,es⟩⟩;{obtain⟨y,h⟩:=nb 0 (by lia);rcases h with h|h<;>cases h}
 .have ab:∀x,x<3->x=a\/x=b:=λx hx=>by obtain⟨y,h⟩:=nb x hx;rcases h with h|h;{have:=NV.mp h;exact .inl (congrArg Prod.fst this)};have:=NV.mp h;exact .inr (congrArg Prod.snd this)
  have h0:=ab 0 (by lia);have h1:=ab 1 (by lia);have h2:=ab 2 (by lia);lia
 simp
def FZ:(mY T).length<=T.length*T.length:=by
 unfold mY;rw[List.length_flatMap];have h:∀(n:Nat),((List.range n).map λk=>((T.drop (k+1)).map λu=>(T.getD k (.inl 0),u)).length).sum<=n*T.length:=λn=>by
  induction n with
  |zero=>exact ON _
  |succ n ih=>rw[Q6,OA,List.sum_append,Nat.succ_mul];refine Nat.add_le_add ih ?_;simp
 exact h _
def IT(h:2<=T.length):mY T≠[]:=by
 rcases T with _|⟨a,_|⟨b,T⟩⟩;{cases h};{cases Nat.le_of_succ_le_succ h};intro z;have:(a,b)∈mY (a::b::T):=by unfold mY;refine OG.mpr ⟨0,OU.mpr (by simp),NT.mpr ⟨b,by simp,rfl⟩⟩
 rw[z]at this;cases this
def kd_len{m:Nat}(W:fL m es)(hm:m<=12):(bQ k m es).length<=84:=by
 have h:=qa W.gd;have h2:=R7 hm hm;unfold bQ;rw[NU];have a:(if k="ties" then []else(List.range m).map Sum.inl:List Th).length<=12:=by split<;>simp;lia
 have b:(if k="places" then []else es.map Sum.inr:List Th).length<=72:=by split<;>simp;lia
 lia
def Hy{m:Nat}(hk:p9 k)(W:fL m es)(hm:2<=m)(h3:k="ties"->3<=m):2<=(bQ k m es).length:=by unfold bQ;rcases hk with rfl|rfl|rfl;{rw[if_neg (by decide),if_pos rfl];simp;lia};{rw[if_pos rfl,if_neg (by decide)];simp;exact Dz W (h3 rfl)};rw[if_neg (by decide),if_neg (by decide)];simp;lia
end PB
local macro_rules | `(tactic| bv_omega) => do let ls ← (List.range 216).toArray.mapM fun k => `(Lean.Parser.Tactic.simpLemma| $(Lean.mkIdent (.str `Dv s!"rr{k}")):ident); `(tactic| dsimp only[$ls,*, Dv.dyr0, Dv.dyr1, Dv.dyr2, Dv.dyr3, Nat.reduceBEq, Dv.gM, Dv.gG, Dv.iQ, Dv.i6, Dv.lW, Dv.nP, Dv.sI, Dv.Fe, Dv.Ej, Dv.yj, Dv.ye, Dv.CV, Dv.Lz, Dv.HE])
namespace PB
open PySem L2 Dv Gr
def M8{r:Nat}(h:r<3):∃k:Str,p9 k/\cR [PyData.str "places",.str "ties",.str "all"] (r:Int)=some (.str k):=by rcases(show r=0\/r=1\/r=2 by lia)with rfl|rfl|rfl;{exact⟨_,.inl rfl,rfl⟩};{exact⟨_,.inr (.inl rfl),rfl⟩};exact⟨_,.inr (.inr rfl),rfl⟩
def uy(h:p9 k):dl 8 (.str k)=true:=by rcases h with rfl|rfl|rfl<;>decide+kernel
def NF(h:p9 k):∃(j:Nat) (ni:Str),p9 ni/\[PyData.str "places",.str "ties",.str "all"][j]?=some (.str k)/\(∀(m:Nat) e,m<j->[PyData.str "places",.str "ties",.str "all"][m]?=some e->e≠.str k)/\cR [PyData.str "ties",.str "places",.str "places"] (j:Int)=some (.str ni):=by have ne:∀a b:Str,a≠b->PyData.str a≠.str b:=λa b h z=>h (by injection z);rcases h with rfl|rfl|rfl;{exact⟨0,_,.inr (.inl rfl),rfl,λm e h=>absurd h (P6 m),rfl⟩};{refine⟨1,_,.inl rfl,rfl,λm e h1 h2=>?_,rfl⟩;cases (show m=0 by lia);cases h2;exact ne _ _ (by decide)};refine⟨2,_,.inl rfl,rfl,λm e h1 h2=>?_,rfl⟩;rcases(show m=0\/m=1 by lia)with rfl|rfl<;>cases h2<;>exact ne _ _ (by decide)
def Mv{r a b:Nat}(h:r<2):∃c:Nat,(c=a\/c=b)/\cR [PyData.int a,.int b] (r:Int)=some (.int c):=by rcases(show r=0\/r=1 by lia)with rfl|rfl;{exact⟨_,.inl rfl,rfl⟩};exact⟨_,.inr rfl,rfl⟩
def D0:∀ds Q x,sJ ds Q x->mH zj jB Ab Ak rT r9 (qy 6) (tG 6) (tF 7) zL (bD [false] Q x) (ini [false] ds++List.replicate 18 none):=by
 rintro _ Q x⟨ns,rfl,hn,q⟩;unfold mH;refine aX λB hB=>?_;rfl';refine⟨ns,0,rfl,by lia,λn=>?_⟩;rfl';rw[hB];clear hB B;refine aX λB hB=>?_;rfl';refine⟨by lia,n,3,rfl,by lia,by lia,λr p hr=>?_⟩;rfl';obtain⟨k,hk,ek⟩:=M8 hr;refine ay ek ?_;rfl';rw[hB];clear hB B ek hr r n;refine aX λB hB=>?_;rfl';refine⟨by lia,p,2,rfl,by lia,by lia,λr p hr=>?_⟩;rfl';obtain⟨c,hc,ec⟩:=Mv (a:=1) (b:=4) hr;refine ay ec ?_;rfl';refine⟨p,c,rfl,by lia,by lia,λs p hs=>?_⟩;rfl';rw[hB];clear hB B ec hr r;refine aX λB hB=>?_;rfl';refine⟨p,6,rfl,by lia,by lia,λmn p hm=>?_⟩;rfl';rw[hB];clear hB B;refine aX λB hB=>?_;rfl';refine⟨by lia,p,4,rfl,by lia,by lia,λr p hr=>?_⟩;rfl';have fin:∀mo:Nat,mo<=12/\6<=mo->B [some (.sh,inD ns),some (.ow false,nD [p]),some (.sh,.str k),some (.sh,iD (1+s)),some (.sh,iD mn),some (.sh,iD mo),none,none,none,none,none,none,none,none,none,none,none,none,none]:=λmo hmo=>by
  rw[hB];clear hB B;refine aX λB hB=>?_;rfl';refine⟨ns,1,rfl,by lia,λn=>?_⟩;rfl';have ea:(2+if k=Str.ofString "ties" then(1:Int)else 0)=((2+if k=Str.ofString "ties" then 1 else 0:Nat):Int):=by split<;>rfl
  have a2:2<=2+(if k=Str.ofString "ties" then 1 else 0:Nat):=by lia
  have a3:2+(if k=Str.ofString "ties" then 1 else 0:Nat)<=3:=by split<;>lia
  have at3:k=Str.ofString "ties"->2+(if k=Str.ofString "ties" then 1 else 0:Nat)=3:=λh=>by rw[if_pos h]
  rw[ea];generalize 2+(if k=Str.ofString "ties" then 1 else 0:Nat)=lo at a2 a3 at3⊢;refine⟨n,lo,mo,rfl,by lia,by lia,by lia,λm es n' m1 m2 W=>?_⟩;rfl';clear ea;rw[hB];clear hB B n n';have m12:m<=12:=by lia
  have two:=Hy hk W (by lia) λh=>by have:=at3 h;lia
  have lT:=kd_len (k:=k) W m12;have few:es.length<=500:=by have h:=qa W.gd;have h2:=R7 m12 m12;lia
  refine aX λB hB=>?_;rfl';refine⟨m,es,k,rfl,W,few,hk,?_⟩;rfl';rw[hB];clear hB B;refine aX λB hB=>?_;rfl';refine⟨m,es,k,rfl,W,hk,?_⟩;rfl';rw[hB];clear hB B;refine aX λB hB=>?_;rfl';refine⟨m,es,rfl,W,?_⟩;rfl';refine⟨by lia,?_⟩;obtain⟨w,ew⟩:∃w:Wk,w=⟨m,es,bQ k m es,1+s,mn⟩:=⟨_,rfl⟩;have Wo:wO w:=by subst ew;exact⟨W,wN W.gd,by show(bQ k m es).length<=1000;lia,by show mn<=5;lia,by show 1+s<=4;lia⟩
  have ne:bQ k m es≠[]:=λz=>by rw[z]at two;cases two
  rw[show PyData.tuple [kM m es,.list ((bQ k m es).map aH),iD (1+s),iD mn]=kU w by rw[ew]];rw[hB];clear hB B;have made:∀(kd:Str),mY (bQ kd m es)≠[]->∀n Q x,(∀d p',Wt 60 6 d->Q [nD [p']] .sh d)->qy 6 [kU w,.list ((mY (bQ kd m es)).map (fR m es)),nD [n],nD [],nD []] Q x:=λkd hp n Q x hQ=>by have lk:=Wo.lk;refine⟨w,mY (bQ kd m es),n,[],[],by rw[ew],Wo,hp,?_,ON _,by show w.k-0<6;lia,by show 0+60*(w.k-0)<=_;lia,hQ⟩;have h1:=kd_len (k:=kd) W m12;have h2:=R7 h1 h1;exact NZ (FZ (T:=bQ kd m es)) (by lia)
  refine aX λB hB=>?_;rfl';refine⟨ns,2,rfl,by lia,λn=>?_⟩;rfl';refine⟨by lia,by lia,made k (IT two) n _ _ λd p' wd=>?_⟩;have ld:=wd.lf;simp![ld];refine⟨by lia,?_⟩;rw[hB];clear hB B p';refine aX λB hB=>?_;rfl';rw[if_pos (by decide)];refine ay rfl ?_;rw[show jh 3 (6-3:Int).toNat=(List.range 3).map λi:Nat=>PyData.int (3+i)from rfl];refine jE (λj E=>BN λ(l:SA)(o11 o12 o13:Option (Kd×PyData))=>FG (E=[some (.sh,inD ns),some (.ow false,nD [p]),some (.sh,.str k),some (.sh,iD (1+s)),some (.sh,iD mn),some (.sh,iD mo),some (.sh,wD m es),some (.ow false,.list ((mY (bQ k m es)).map (fR m es))),some (.sh,.list ((bQ k m es).map aH)),some (.sh,kU w),some (.ow false,.list (d::l)),o11,o12,o13,none,none,none,none,none]) (bG o11=true) (bG o12=true) (bG o13=true) (l.length=j) (∀c∈l,Wt 1000 7 c)) ⟨[],none,none,none,rfl,rfl,rfl,rfl,rfl,λc z=>nomatch z⟩ ?_ ?_;{rintro J j _ hj hJ⟨l,o11,o12,o13,rfl,z1,z2,z3,ll,wl⟩;simp![z1,z2,z3];refine⟨ns,3+j,rfl,by lia,λn=>?_⟩;simp![z1,z2,z3];refine⟨n,9,rfl,by lia,by lia,λv p2 hv=>?_⟩;simp![z1,z2,z3];rw[if_pos ld];refine ay rfl ?_;simp![z1,z2,z3];refine⟨60,d,bQ k m es,v,p2,rfl,wd,by lia,ne,by lia,by lia,λd' p' wd'=>?_⟩;have ld':=wd'.lf;simp![z1,z2,z3,ld'];refine⟨by lia,hJ _ ⟨l++[d'],_,_,_,rfl,rfl,rfl,rfl,by rw[NU,ll];rfl,λc hc=>?_⟩⟩;rcases O7.mp hc with hc|hc;{exact wl c hc};rw[NV.mp hc];exact Wt.up (by lia) (by lia) wd'};rintro _⟨l,o11,o12,o13,rfl,z1,z2,z3,ll,wl⟩;show B _;rw[hB];clear hB B;refine aX λB hB=>?_;rfl';obtain⟨j,ni,hin,g1,g2,g3⟩:=NF hk;refine⟨by lia,by lia,_,_,j,rfl,rfl,by rw[uy (.inl rfl),uy (.inr (.inl rfl)),uy (.inr (.inr rfl))];rfl,uy hk,g1,g2,ay g3 ?_⟩;rfl';rw[hB];clear hB B g1 g2 g3 j;refine aX λB hB=>?_;simp![z1,z2,z3];refine⟨m,es,ni,rfl,W,few,hin,?_⟩;simp![z1,z2,z3];rw[hB];clear hB B;refine fE (λE=>rC λ(l:SA)(o11 o12 o13 o15:Option (Kd×PyData))=>AD (E=[some (.sh,inD ns),some (.ow false,nD [p]),some (.sh,.str k),some (.sh,iD (1+s)),some (.sh,iD mn),some (.sh,iD mo),some (.sh,wD m es),some (.ow false,.list ((mY (bQ k m es)).map (fR m es))),some (.sh,.list ((bQ k m es).map aH)),some (.sh,kU w),some (.ow false,.list l),o11,o12,o13,some (.sh,.str ni),o15,none,none,none]) (l.length<=10) (∀c∈l,Wt 1000 7 c)) (λJ hJ=>?_) λB hB=>?_
  .have wl1:∀c∈d::l,Wt 1000 7 c:=λc hc=>by rcases NY.mp hc with hc|hc;{rw[hc];exact Wt.up (by lia) (by lia) wd};exact wl c hc
   have ll1:(d::l).length=4:=by rw[OF,ll]
   simp![z1,z2,z3];refine⟨by lia,⟨BE,rfl⟩,?_⟩;split;{rename_i hp;refine⟨ns,6,rfl,by lia,λn=>?_⟩;simp![z1,z2,z3];refine⟨by lia,by lia,made ni (λz=>hp (by rw[z];rfl)) n _ _ λd' p' wd'=>?_⟩;have ld':=wd'.lf;simp![z1,z2,z3,ld'];refine⟨by lia,hJ _ ⟨d::(l++[d']),_,_,_,_,rfl,by rw[OF,NU,List.length_singleton];lia,λc hc=>?_⟩⟩;rw[<-List.cons_append]at hc;rcases O7.mp hc with hc|hc;{exact wl1 c hc};rw[NV.mp hc];exact Wt.up (by lia) (by lia) wd'};exact hJ _ ⟨d::l,_,_,_,_,rfl,by lia,wl1⟩
  rintro _⟨l,o11,o12,o13,o15,rfl,ll,wl⟩;rw[hB];clear hB B;refine aX λB hB=>?_;rfl';rw[show cutD l none (some 1)=l.take 1 from ER (a:=1)];have wt1:∀c∈l.take 1,Wt 1000 7 c:=λc hc=>wl c (Q5 hc);rw[if_pos (show(l.take 1).all lf=true from N7.mpr λc hc=>(wt1 c hc).lf)];refine ay rfl ?_;have lt1:(l.take 1).length<=1:=R8 _ _;rfl';refine⟨by lia,?_⟩;rw[if_pos (show(l.all lf&&(l.take 1).all lf)=true by rw[N9,N7,N7];exact⟨λc hc=>(wl c hc).lf,λc hc=>(wt1 c hc).lf⟩)];refine ay rfl ?_;have wL:∀c∈l++l.take 1,Wt 1000 7 c:=λc hc=>(O7.mp hc).elim (wl c) (wt1 c);generalize l++l.take 1=L at wL⊢;rw[show L=L.map id from(Pk _).symm];have lk:=Wo.lk;refine qD (λ_ E=>∃(o16 o17 o18:Option (Kd×PyData)),E=[some (.sh,inD ns),some (.ow false,nD [p]),some (.sh,.str k),some (.sh,iD (1+s)),some (.sh,iD mn),some (.sh,iD mo),some (.sh,wD m es),some (.ow false,.list ((mY (bQ k m es)).map (fR m es))),some (.sh,.list ((bQ k m es).map aH)),some (.sh,kU w),some (.ow false,.list l),o11,o12,o13,some (.sh,.str ni),o15,o16,o17,o18]/\bG o16=true/\bG o17=true/\bG o18=true) ⟨none,none,none,rfl,rfl,rfl,rfl⟩ ?_ ?_;{rintro J j c _ hj hJ⟨o16,o17,o18,rfl,y1,y2,y3⟩;have wc:=wL c (OD hj);simp![y1,y2,y3,id];refine⟨by lia,by lia,w,c,[],[],rfl,Wo,wc,ON _,by show 0+60*(w.k-0)<=_;lia,?_⟩;simp![y1,y2,y3];refine⟨w,k,c,by rw[ew],Wo,by rw[ew],wc,?_⟩;simp![y1,y2,y3];rw[if_neg (by decide)];generalize cs w 7 c [] []=b;rw[show ∀{a b:Bool}{P:Kd->PyData->Prop},iy [.bool a,.bool b] P=P .sh (.bool !(decide (a=b)))from rfl,Pw rfl];rfl';exact hJ _ ⟨_,_,_,rfl,rfl,rfl,rfl⟩};rintro _⟨o16,o17,o18,rfl,y1,y2,y3⟩;show B _;rw[hB];rfl';exact q
 rw[show(1:Int)+s=((1+s:Nat):Int)by lia];split;{by_cases h:(mn:Int)<3;{rw[if_pos h];exact fin 12 (by lia)};rw[if_neg h];exact fin 6 (by lia)};exact fin 6 (by lia)
def LL:∀dd Q x,¬tF 0 dd Q x:=λ_ _ _ ⟨_,_,_,_,_,_,h,_⟩=>h
def LP:∀dd Q x,¬tK 0 dd Q x:=λ_ _ _ ⟨_,_,_,_,_,_,h,_⟩=>h
def KG:∀dd Q x,¬qy 0 dd Q x:=λ_ _ _ ⟨_,_,_,_,_,_,_,_,_,_,h,_⟩=>absurd h (P6 _)
def KJ:∀dd Q x,¬tG 0 dd Q x:=λ_ _ _ ⟨_,_,_,_,_,_,h,_⟩=>h
end PB
namespace Dv
open PySem L2 PySem.W
def oO{k:Nat}(no:∀dd Q x,¬sp dd Q x)(N:∃h:Heap,K.In h/\h.Ns mainGlobals mg)(r:Rec K x st)(b:∀(kV doc pm:Value)(an:SD)(cdv ct:Value)(us:SG),us.length=ps.length->bindArgs (fnOf x x (iN st) (fK st) (aq st) .none kV doc pm an cdv ct) ⟨us,[]⟩=pure (ps.zip us)) : bU P w K mg base k x ps (b9 mg K ms sp):=by refine bL N r b λF=>⟨λvs H Q E h=>?_,λA outer s H args us vs Q E hr _ _ _ h=>?_⟩;{obtain⟨_,_,_,_,_,_,_,h,_⟩:=h;exact(no _ _ _ h).elim};obtain⟨_,_,_,_,_,_,_,h,_⟩:=h;exact(no _ _ _ h).elim
end Dv
namespace L2
open PySem PySem.Spec PyProof.Rows
section
variable{X:Cx}
noncomputable def KD (K:Rx) (i j:Nat)(te:TE):TS:=λD U H=>te U H λv H1=>∃a v1 v2,v=.ref a/\aU K H1 a [v1,v2]/\D.nx ((U.set j (some v2)).set i (some v1)) H1
def Gn{k:Nat}{i j:Nat}(hc:X.calm=true)(hN:X.N.Nodup)(hi:X.N[i]?=some x)(hj:X.N[j]?=some y)(hx:Loc X.env.scope x)(hy:Loc X.env.scope y)(hfx:X.fn x=true\/X.env.scope.names.lookup x=some .local)(hfy:X.fn y=true\/X.env.scope.names.lookup y=some .local)(he:PE X e te)(hs:swapsWithSole [.Tuple ts k p] e pos.line X.env=pure false)(hw:swappedStores [.Tuple ts k p] e X.env=pure (some [x,y])):PS X (.Assign [.Tuple ts k p] e pos) (KD X.K i j te):=by intro pins s U H D I h;refine PyProof.Rows.Assign_Tuple_swapped (aQ (he pins s U H _ I h) λv s1 ⟨z,H1,I1,r1,q1⟩=>?_) hs hw;obtain⟨a,v1,v2,rfl,hq,q⟩:=q1;cases r1;obtain⟨its,rv,ht,_⟩:=I1.tuple hq;obtain⟨u1,u2,rfl,ru1,ru2⟩:=rv.two;show wpAny _ _ (unpackItems (.ref a) 2 none) _ _ s1;refine unpackItems_tuple (items:=#[u1,u2]) (I1.ok.hd hc) ht λh' hx'=>?_;show wpAny _ _ (assignInOrder [bindName X.env y,bindName X.env x] [u2,u1]) _ _ _;have I2:Inv X pins U H1 { s1 with heap:=h' }:=I1.kept (t':=s1.toks) λb o e=>hx' b o (O6 (N8 e)) e;refine RA (wpAny_bindName (mR I2 hN hj hy ru2 (λs3 I3=>?_) hfy));refine RA (wpAny_bindName (mR I3 hN hi hx ru1 (λs4 I4=>?_) hfx));exact assignInOrder_nil ⟨_,H1,I4,q⟩
end
end L2
namespace Dv
open PySem L2 PySem.W
section
variable{X:Cx}{Ex:XK}
def Kc{k i j:Nat}(hc:X.calm=true)(hN:X.N.Nodup)(hi:X.N[i]?=some x)(hj:X.N[j]?=some y)(hx:Loc X.env.scope x)(hy:Loc X.env.scope y)(hfx:X.fn x=true\/X.env.scope.names.lookup x=some .local)(hfy:X.fn y=true\/X.env.scope.names.lookup y=some .local)(ne:i≠j)(hs:swapsWithSole [.Tuple [.Name x p1,.Name y p2] k p] e pos.line X.env=pure false)(hw:swappedStores [.Tuple [.Name x p1,.Name y p2] k p] e X.env=pure (some [x,y]))(h:SE X Ex (aW X) e d):S1 X Ex (.Assign [.Tuple [.Name x p1,.Name y p2] k p] e pos) (g8 [i,j] d):=by
 intro g D' E U H Hm F D hx' R pp nx rt;refine WS.of (Gn hc hN hi hj hx hy hfx hfy bC hs hw) (h g D'.xc E U H Hm F _ _ hx' R pp λE' k v u H' Hm' F' fp p' R' s' T=>?_);replace p':bK k.fz _:=p';rw[cZ]at p';obtain⟨hk,p'⟩:=p';unfold Bx at p';split at p'
 rotate_left
 .exact p'.elim
 rename_i ds;rw[<-aY,vA]at p';obtain⟨E2,e2,p'⟩:=p';obtain⟨Hm2,s2,R2,r2⟩:=T.dZ R' hk;obtain⟨a,xs,rfl,ha,r⟩:=we r2;rcases ds with _|⟨d1,_|⟨d2,_|⟨d3,ds⟩⟩⟩;{cases e2};{replace e2:(if bg E' i then bu [j] [] (E'.set i (some (.sh,d1)))else none)=some E2:=e2;split at e2<;>cases e2}
 .replace e2:(if bg E' i then(if bg (E'.set i (some (.sh,d1))) j then some ((E'.set i (some (.sh,d1))).set j (some (.sh,d2)))else none)else none)=some E2:=e2;split at e2
  .rename_i o1;split at e2
   .rename_i o2;cases e2;obtain⟨v1,v2,rfl,r1,r2⟩:=eV r;have o2:bg E' j=true:=by unfold bg at o2⊢;rwa[aj ne]at o2
    have R3:=R2.put (Tm.sh r2) o2;have o1:bg (E'.set j (some (.sh,d2))) i=true:=by unfold bg at o1⊢;rwa[aj (Ne.symm ne)]
    have R4:=R3.put (Tm.sh r1) o1;rw[List.set_comm _ _ (Ne.symm ne)]at R4;have lj:j<U.length:=by rw[<-R2.len];exact eX o2
    have li:i<(U.set j (some v2)).length:=by rw[<-R3.len];exact eX o1
    refine⟨a,v1,v2,rfl,aU.of (R2.sub _ _ ha),?_⟩;rw[gI PN (iG (bR hj)) lj,gI PN (iG (bR hi)) li];exact nx _ _ _ _ _ p' R4 (s'.trans s2)
   cases e2
  cases e2
 replace e2:(if bg E' i then(if bg (E'.set i (some (.sh,d1))) j then bu [] (d3::ds) ((E'.set i (some (.sh,d1))).set j (some (.sh,d2)))else none)else none)=some E2:=e2;split at e2;{split at e2<;>cases e2};cases e2
def K4(i j:Nat){k:Nat}(hN:X.N.Nodup)(h:SE X Ex (aW X) e d)(hi:X.N[i]?=some x:=by rfl)(hj:X.N[j]?=some y:=by rfl)(hx:Loc X.env.scope x:=by first|exact Or.inl rfl|exact Or.inr rfl)(hy:Loc X.env.scope y:=by first|exact Or.inl rfl|exact Or.inr rfl)(hfx:X.fn x=true\/X.env.scope.names.lookup x=some .local:=by first|exact Or.inl rfl|exact Or.inr rfl)(hfy:X.fn y=true\/X.env.scope.names.lookup y=some .local:=by first|exact Or.inl rfl|exact Or.inr rfl)(ne:i≠j:=by decide)(hs:swapsWithSole [.Tuple [.Name x p1,.Name y p2] k p] e pos.line X.env=pure false:=by rfl)(hw:swappedStores [.Tuple [.Name x p1,.Name y p2] k p] e X.env=pure (some [x,y]):=by rfl)(hc:X.calm=true:=by rfl):S1 X Ex (.Assign [.Tuple [.Name x p1,.Name y p2] k p] e pos) (g8 [i,j] d):=Kc hc hN hi hj hx hy hfx hfy ne hs hw h
def MD(hu:X.A.units+64<cLine)(S:aM X Ex Y [a,b] as):aS X Ex Y (.Compare a [.Eq] [b] pos) (aa nG as):=fO (BH hu) (ff _) x9 S
end
end Dv
namespace HZ
open PySem L2 PySem.W Dv PB
noncomputable def top (i:Nat):Stmt:=PySem.Challenge.pw_farhail_k37_trees_of_pairs_judged.main.body.getD i (.Pass ⟨0,0,0,0⟩)
structure Txt(K:Frag)(mg:Rr):Prop where
 all:mg "all"=none
 bool:mg "bool"=none
 enumerate:mg "enumerate"=none
 int:mg "int"=none
 isinstance:mg "isinstance"=none
 len:mg "len"=none
 list:mg "list"=none
 max:mg "max"=none
 min:mg "min"=none
 range:mg "range"=none
 sorted:mg "sorted"=none
 tuple:mg "tuple"=none
 zip:mg "zip"=none
 GV:∃C,mg "NoPlace"=some (.ref C)/\jN K C AA "ValueError.__new__" none=true
 kit:u7 K ["bool","int","tuple"]=true
 ns:∃h:Heap,K.In h/\h.Ns mainGlobals mg
def uc{us:SG}{n:Nat}(h:us.length=n+1):∃a t,t.length=n/\us=a::t:=by
 cases us with
 |nil=>cases h
 |cons a t=>exact⟨a,t,Nat.succ.inj h,rfl⟩
def Nv{us:SG}(h0:us.length=1):∃a0,us=[a0]:=by obtain⟨a0,t0,h1,rfl⟩:=uc h0;cases Q7 h1;exact⟨a0,rfl⟩
def Nq{us:SG}(h0:us.length=2):∃a0 a1,us=[a0,a1]:=by obtain⟨a0,t0,h1,rfl⟩:=uc h0;obtain⟨a1,t1,h2,rfl⟩:=uc h1;cases Q7 h2;exact⟨a0,a1,rfl⟩
def NN{us:SG}(h0:us.length=3):∃a0 a1 a2,us=[a0,a1,a2]:=by obtain⟨a0,t0,h1,rfl⟩:=uc h0;obtain⟨a1,t1,h2,rfl⟩:=uc h1;obtain⟨a2,t2,h3,rfl⟩:=uc h2;cases Q7 h3;exact⟨a0,a1,a2,rfl⟩
def NH{us:SG}(h0:us.length=4):∃a0 a1 a2 a3,us=[a0,a1,a2,a3]:=by obtain⟨a0,t0,h1,rfl⟩:=uc h0;obtain⟨a1,t1,h2,rfl⟩:=uc h1;obtain⟨a2,t2,h3,rfl⟩:=uc h2;obtain⟨a3,t3,h4,rfl⟩:=uc h3;cases Q7 h4;exact⟨a0,a1,a2,a3,rfl⟩
def Nm{us:SG}(h0:us.length=5):∃a0 a1 a2 a3 a4,us=[a0,a1,a2,a3,a4]:=by obtain⟨a0,t0,h1,rfl⟩:=uc h0;obtain⟨a1,t1,h2,rfl⟩:=uc h1;obtain⟨a2,t2,h3,rfl⟩:=uc h2;obtain⟨a3,t3,h4,rfl⟩:=uc h3;obtain⟨a4,t4,h5,rfl⟩:=uc h4;cases Q7 h5;exact⟨a0,a1,a2,a3,a4,rfl⟩
def Nj{us:SG}(h0:us.length=7):∃a0 a1 a2 a3 a4 a5 a6,us=[a0,a1,a2,a3,a4,a5,a6]:=by obtain⟨a0,t0,h1,rfl⟩:=uc h0;obtain⟨a1,t1,h2,rfl⟩:=uc h1;obtain⟨a2,t2,h3,rfl⟩:=uc h2;obtain⟨a3,t3,h4,rfl⟩:=uc h3;obtain⟨a4,t4,h5,rfl⟩:=uc h4;obtain⟨a5,t5,h6,rfl⟩:=uc h5;obtain⟨a6,t6,h7,rfl⟩:=uc h6;cases Q7 h7;exact⟨a0,a1,a2,a3,a4,a5,a6,rfl⟩
local macro_rules | `(tactic| ac_nf) => `(tactic| (intro _ _ _ _ _ _ us hl; first | (obtain⟨_, e⟩ := Nv hl; subst e; rfl) | (obtain⟨_, _, e⟩ := Nq hl; subst e; rfl) | (obtain⟨_, _, _, e⟩ := NN hl; subst e; rfl) | (obtain⟨_, _, _, _, e⟩ := NH hl; subst e; rfl) | (obtain⟨_, _, _, _, _, e⟩ := Nm hl; subst e; rfl) | (obtain⟨_, _, _, _, _, _, _, e⟩ := Nj hl; subst e; rfl)))
section
variable(P:Program)(w:World)(K:Frag)(mg:Rr)(base:Heap)
noncomputable abbrev n5:Prop:=bU P w K mg base 1 "_law_purse" ["_law_script","_law_k"] (b9 mg K [false,false] zj)
noncomputable abbrev cA:Prop:=bU P w K mg base 1 "_law_take" ["_law_purse_here","_law_many"] (b9 mg K [true,false] jB)
noncomputable abbrev nq:Prop:=bU P w K mg base 2 "_law_pairs" ["_law_purse_here","_law_many","_law_way"] (b9 mg K [true,false,false] Aj)
noncomputable abbrev ny:Prop:=bU P w K mg base 2 "_law_order" ["_law_purse_here","_law_many"] (b9 mg K [true,false] FF)
noncomputable abbrev rq:Prop:=bU P w K mg base 3 "_law_web" ["_law_purse_here","_law_least","_law_most"] (b9 mg K [true,false,false] Ab)
noncomputable abbrev jQ:Prop:=bU P w K mg base 1 "_law_table" ["_law_web_here"] (b9 mg K [false] r9)
noncomputable abbrev jo:Prop:=bU P w K mg base 1 "_law_things" ["_law_web_here","_law_kind"] (b9 mg K [false,false] rT)
noncomputable abbrev qx:Prop:=bU P w K mg base 1 "_law_far" ["_law_fars","_law_look","_law_thing"] (b9 mg K [false,false,false] zH)
noncomputable abbrev fM:Prop:=bU P w K mg base 2 "_law_parters" ["_law_fars","_law_one","_law_other"] (b9 mg K [false,false,false] rK)
noncomputable abbrev m7:Prop:=bU P w K mg base 3 "_law_parted" ["_law_web_here","_law_kind"] (b9 mg K [false,false] Ak)
noncomputable abbrev j4 (n:Nat):Prop:=bU P w K mg base (2+n) "_law_made" ["_law_all","_law_pairs_here","_law_purse_here","_law_within","_law_without"] (b9 mg K [false,false,true,false,false] (qy n))
noncomputable abbrev pF:Prop:=bU P w K mg base 8 "_law_made" ["_law_all","_law_pairs_here","_law_purse_here","_law_within","_law_without"] (b9 mg K [false,false,true,false,false] (qy 6))
noncomputable abbrev kq (n:Nat):Prop:=bU P w K mg base (3+n) "_law_case" ["_law_all","_law_tree","_law_within","_law_without"] (b9 mg K [false,false,false,false] (tF n))
noncomputable abbrev oW:Prop:=bU P w K mg base 10 "_law_case" ["_law_all","_law_tree","_law_within","_law_without"] (b9 mg K [false,false,false,false] (tF 7))
noncomputable abbrev mT:Prop:=bU P w K mg base 1 "nearer_end" ["fars","tie"] (b9 mg K [false,false] zT)
noncomputable abbrev nB:Prop:=bU P w K mg base 2 "thing_far" ["fars","thing"] (b9 mg K [false,false] An)
noncomputable abbrev jz:Prop:=bU P w K mg base 3 "parters_by" ["rows","one","other"] (b9 mg K [false,false,false] Ac)
noncomputable abbrev iZ (n:Nat):Prop:=bU P w K mg base (4+n) "case_shown" ["rows","things","strength","many","tree","ins","outs"] (b9 mg K [false,false,false,false,false,false,false] (tK n))
noncomputable abbrev ng:Prop:=bU P w K mg base 11 "case_shown" ["rows","things","strength","many","tree","ins","outs"] (b9 mg K [false,false,false,false,false,false,false] (tK 7))
noncomputable abbrev jd:Prop:=bU P w K mg base 1 "refuse_no_place" ["web","place"] (b9 mg K [false,false] zS)
noncomputable abbrev jl:Prop:=bU P w K mg base 1 "neighbour_lists" ["web"] (b9 mg K [false] Ah)
noncomputable abbrev kT:Prop:=bU P w K mg base 2 "fars_or_none" ["web","place"] (b9 mg K [false,false] zh)
noncomputable abbrev oj:Prop:=bU P w K mg base 3 "fars_from" ["web","place"] (b9 mg K [false,false] zw)
noncomputable abbrev pG:Prop:=bU P w K mg base 4 "far_rows" ["web"] (b9 mg K [false] zQ)
noncomputable abbrev nC:Prop:=bU P w K mg base 1 "things_of" ["web","kind"] (b9 mg K [false,false] Ae)
noncomputable abbrev nh:Prop:=bU P w K mg base 12 "tree_shows" ["web","kind","strength","many","tree"] (b9 mg K [false,false,false,false,false] zL)
noncomputable abbrev jw:Prop:=bU P w K mg base 2 "_law_turned" ["_law_tree","_law_some","_law_way","_law_purse_here"] (b9 mg K [false,false,false,true] BL)
noncomputable abbrev gX (n:Nat):Prop:=bU P w K mg base (3+n) "_law_changed" ["_law_tree","_law_some","_law_way","_law_purse_here"] (b9 mg K [false,false,false,true] (tG n))
noncomputable abbrev lY:Prop:=bU P w K mg base 9 "_law_changed" ["_law_tree","_law_some","_law_way","_law_purse_here"] (b9 mg K [false,false,false,true] (tG 6))
end
section
variable{P:Program}{w:World}{K:Frag}{mg:Rr}{base:Heap}
noncomputable abbrev kD:Stmt:=top 18
def fh:aT ["_law_script","_law_k","_law_cell","_law_number"] ["_law_script","_law_k"] (aq kD):=by ac_rfl
def vX(T:Txt K mg)(r:Rec K "_law_purse" kD):n5 P w K mg base:=
 bL T.ns r (by ac_nf) λF=>bZ (m:=2) F fh rfl (by decide) (d:=gw) (λcdv A outer s H Ex hr=>have hu:=hr.units;af (aN 2 fh.nd (xI)) (gW (cz (aS.st (Bf (aP 1 (aE (dH T.len (aP 0 a0)) a0)))) (ai (aN 2 fh.nd (bJ hu (aP 0 (aP 1 a0))))) (ai (cz (aS.st (qX hu (aP 0 (aE (bH a0) a0)))) (ai (aN 2 fh.nd (cH (aE (pX (aE (bJ hu (aP 0 (aE (pX (aP 1 (aE (dH T.len (aP 0 a0)) a0))) a0))) (aE (xI) a0))) (aE (pS (aE (xI) (aP 1 a0))) a0))))) (aJ)))) (af (cz (aS.st (EK (aP 2 (aE (zP (aE (xI) (aE (xI) a0))) a0)))) (ai (bF (bH (aP 2 a0)))) (aJ)) (af (aN 3 fh.nd (pX (aE (LI (aE (cH (aE (cH (aE (pX (aP 2 (aE (cH (aE (zP (aE (xI) (aE (xI) a0))) (aE (xI) a0))) a0))) (aE (pS (aE (xI) (aP 1 a0))) a0))) (aE (xI) a0))) (aE (xI) a0))) (aE (cH (aE (zP (aE (xI) (aE (xI) a0))) (aE (xI) a0))) a0)))) (ai (bF (bH (aE (pX (aE (Lq (aE (cH (aE (cH (aP 3 (aE (pS (aE (xI) (aP 1 a0))) a0))) (aE (xI) a0))) (aE (xI) a0))) (aE (cH (aE (zP (aE (xI) (aE (xI) a0))) (aE (xI) a0))) a0))) a0)))))))) PB.HX
noncomputable abbrev lq:Stmt:=top 19
def oU:aT ["_law_purse_here","_law_many","_law_found"] ["_law_purse_here","_law_many"] (aq lq):=by ac_rfl
def w6(T:Txt K mg)(r:Rec K "_law_take" lq):cA P w K mg base:=
 bL T.ns r (by ac_nf) λF=>bZ (m:=1) F oU rfl (by decide) (d:=gS) (λcdv A outer s H Ex hr=>have hu:=hr.units;af (aN 2 oU.nd (pX (aE (bJ hu (aP 0 (aE (xI) a0))) (aP 1 a0)))) (af (qc 0 hu (MB (aE (bJ hu (aP 0 (aE (xI) a0))) (aP 1 a0))) (xI)) (ai (kP 2)))) PB.KI
noncomputable abbrev kr:Stmt:=top 21
def dg:aT ["_law_purse_here","_law_many","_law_way","_law_found","_law_k","_law_near","_law_one","_law_other"] ["_law_purse_here","_law_many","_law_way"] (aq kr):=by ac_rfl
def wU(T:Txt K mg)(h0:cA P w K mg base)(r:Rec K "_law_pairs" kr):nq P w K mg base:=
 bL T.ns r (by ac_nf) λF=>bZ (m:=6) F dg rfl (by decide) (d:=gr jB) (λcdv A outer s H Ex hr=>have hu:=hr.units;af (aN 3 dg.nd (bH a0)) (af (fc OQ dg.nd (L1 T.range (aE (xI) (aP 1 a0))) (gN 4) (af (aN 5 dg.nd (aB h0 aF hr (aP 0 (aP 4 a0)))) (af (dO (xM 3 cG b8 Oi Oj (eC (b7 (aE (bJ hu (aE (bH (aE (zE (aP 4 (aE (xI) a0))) (aE (zE (aP 4 (aE (xI) a0))) (aE (xI) (aP 5 a0))))) (aE (II T.min (aP 2 (aE (xI) a0))) a0))) (aP 4 a0))) e0))) (ai (cz (aS.st (gD hu (aP 2 (aE (xI) a0)))) (ai (dO (xM 3 qJ rm Ri Rj (eC (lg (vs:=["_law_one"]) (NB:=["_law_one","_law_k"]) (ix:=[4]) (by rfl) (oi T.range (aP 4 a0)) (λ_ _ _ _=>gN 0) (λ_ _ _ _=>.nil) (λ_ _ _ _ _=>gh (b7 (aP 0 (aP 1 a0))))) e0)))) (aJ)))))) (gW (cz (aS.st (iC.lI (jL (gD hu (aP 2 (aE (xI) a0))) (eL (Mt (aP 1 (aE (xI) a0))))))) (ai (dO (xM 3 cG b8 Oi Oj (eC (b7 (aE (xI) (aE (zE (aP 1 (aE (xI) a0))) a0))) e0)))) (aJ)) (gW (cz (aS.st (Mt (aP 2 (aE (xI) a0)))) (ai (fc OQ dg.nd (oi T.range (aE (aB h0 aF hr (aP 0 (aE (xI) a0))) a0)) (gN 4) (af (aN 6 dg.nd (aB h0 aF hr (aP 0 (aP 1 a0)))) (af (aN 7 dg.nd (aB h0 aF hr (aP 0 (aP 1 a0)))) (ai (dO (xM 3 qJ rm Ri Rj (eC (pS (aE (bH (aE (b7 (aP 6 (aP 7 a0))) a0)) (aE (wY T.int (aE (L0 hu (aP 6 (aP 7 a0))) a0)) a0))) e0)))))))) (aJ)) (ai (kP 3)))))) PB.Ii
noncomputable abbrev ku:Stmt:=top 20
def kC:aT ["_law_purse_here","_law_many","_law_found","_law_k"] ["_law_purse_here","_law_many"] (aq ku):=by ac_rfl
def u5(T:Txt K mg)(h0:cA P w K mg base)(r:Rec K "_law_order" ku):ny P w K mg base:=
 bL T.ns r (by ac_nf) λF=>bZ (m:=2) F kC rfl (by decide) (d:=gx jB) (λcdv A outer s H Ex hr=>af (aN 2 kC.nd (bH a0)) (af (fc OQ kC.nd (oi T.range (aP 1 a0)) (gN 3) (ai (dO (xM 2 Be yW PySem.F.slot_list_insert PySem.F.type_list_insert (eC (aB h0 aF hr (aP 0 (aE (cH (aP 3 (aE (xI) a0))) a0))) (eC (xV 3) e0)))))) (ai (kP 2)))) PB.La
noncomputable abbrev mC:Stmt:=top 22
def dP:aT ["_law_purse_here","_law_least","_law_most","_law_many","_law_found","_law_some","_law_places","_law_one","_law_other","_law_ends","_law_tie"] ["_law_purse_here","_law_least","_law_most"] (aq mC):=by ac_rfl
def zJ(T:Txt K mg)(h0:cA P w K mg base)(h1:nq P w K mg base)(h2:ny P w K mg base)(r:Rec K "_law_web" mC):rq P w K mg base:=
 bL T.ns r (by ac_nf) λF=>bZ (m:=8) F dP rfl (by decide) (d:=gP jB Aj FF) (λcdv A outer s H Ex hr=>have hu:=hr.units;af (aN 3 dP.nd (cH (aP 1 (aE (aB h0 aF hr (aP 0 (aE (zE (aE (cH (aP 2 (aE (xI) a0))) (aP 1 a0))) a0))) a0)))) (af (aN 4 dP.nd (bH a0)) (af (aN 5 dP.nd (aB h1 aF hr (aP 0 (aP 3 (aE (aB h0 aF hr (aP 0 (aE (xI) a0))) a0))))) (af (aN 6 dP.nd (aB h2 aF hr (aP 0 (aP 3 a0)))) (af (fc OQ dP.nd (gp (xV 5)) (gT (gC 7 (gC 8 g0))) (af (aN 9 dP.nd (b7 (aE (bJ hu (aP 6 (aP 7 a0))) (aE (bJ hu (aP 6 (aP 8 a0))) a0)))) (af (aN 10 dP.nd (b7 (aE (Ll T.min (aP 9 a0)) (aE (Lj T.max (aP 9 a0)) a0)))) (ai (cz (aS.st (jZ hu (aP 10 (aP 4 a0)))) (ai (dO (xM 4 cG b8 Oi Oj (eC (xV 10) e0)))) (aJ)))))) (ai (bF (b7 (aP 3 (aE (wJ T.tuple (aE (JI T.sorted (aP 4 a0)) a0)) a0)))))))))) PB.I0
noncomputable abbrev j6:Stmt:=top 23
def eK:aT ["_law_web_here","_law_found","_law_place","_law_row","_law_step","_law_one","_law_other"] ["_law_web_here"] (aq j6):=by ac_rfl
def vc(T:Txt K mg)(r:Rec K "_law_table" j6):jQ P w K mg base:=
 bL T.ns r (by ac_nf) λF=>bZ (m:=6) F eK rfl (by decide) (d:=gA) (λcdv A outer s H Ex hr=>have hu:=hr.units;af (aN 1 eK.nd (bH a0)) (af (fc OQ eK.nd (oi T.range (aE (bJ hu (aP 0 (aE (xI) a0))) a0)) (gN 2) (af (aN 3 eK.nd (pS (aE (bH (aE (Ia (aE (xI) a0)) a0)) (aE (bJ hu (aP 0 (aE (xI) a0))) a0)))) (af (qc 3 hu (xI) (xV 2)) (af (fc OQ eK.nd (oi T.range (aE (bJ hu (aP 0 (aE (xI) a0))) a0)) (gN 4) (ai (fc OQ eK.nd (gp (bJ hu (aP 0 (aE (xI) a0)))) (gT (gC 5 (gC 6 g0))) (gW (cz (aS.st (iC.lI (jL (gD hu (aE (bJ hu (aP 3 (aP 5 a0))) (aP 4 a0))) (eL (Bf (aE (bJ hu (aP 3 (aP 6 a0))) (aE (xI) a0))))))) (ai (qc 3 hu (cH (aP 4 (aE (xI) a0))) (xV 6))) (aJ)) (ai (cz (aS.st (iC.lI (jL (gD hu (aE (bJ hu (aP 3 (aP 6 a0))) (aP 4 a0))) (eL (Bf (aE (bJ hu (aP 3 (aP 5 a0))) (aE (xI) a0))))))) (ai (qc 3 hu (cH (aP 4 (aE (xI) a0))) (xV 5))) (aJ))))))) (ai (dO (xM 1 cG b8 Oi Oj (eC (xV 3) e0)))))))) (ai (kP 1)))) PB.Iz
noncomputable abbrev jm:Stmt:=top 24
def m9:aT ["_law_web_here","_law_kind","_law_found"] ["_law_web_here","_law_kind"] (aq jm):=by ac_rfl
def ue(T:Txt K mg)(r:Rec K "_law_things" jm):jo P w K mg base:=
 bL T.ns r (by ac_nf) λF=>bZ (m:=1) F m9 rfl (by decide) (d:=fX) (λcdv A outer s H Ex hr=>have hu:=hr.units;af (aN 2 m9.nd (pS (aE (BP T.list T.range (aE (bJ hu (aP 0 (aE (xI) a0))) a0)) (aE (wY T.int (aE (L0 hu (aP 1 (aE (xS) a0))) a0)) a0)))) (gW (cz (aS.st (qX hu (aP 1 (aE (xS) a0)))) (ai (dO (xM 2 zZ C7 Ri Rj (eC (bJ hu (aP 0 (aE (xI) a0))) e0)))) (aJ)) (ai (kP 2)))) PB.JR
noncomputable abbrev mF:Stmt:=top 25
def zK:aT ["_law_fars","_law_look","_law_thing"] ["_law_fars","_law_look","_law_thing"] (aq mF):=by ac_rfl
def Al(T:Txt K mg)(r:Rec K "_law_far" mF):qx P w K mg base:=
 bL T.ns r (by ac_nf) λF=>bZ (m:=1) F zK rfl (by decide) (d:=iO) (λcdv A outer s H Ex hr=>have hu:=hr.units;af (cz (aS.st (yl (sD T.kit T.isinstance T.int Qs (aP 2 a0)))) (ai (bF (bJ hu (aE (bJ hu (aP 0 (aP 1 a0))) (aP 2 a0))))) (aJ)) (ai (bF (K7 T.min (aE (lg (vs:=["_law_end"]) (NB:=["_law_end","_law_fars","_law_look"]) (ix:=[0,1]) (by rfl) (gp (xV 2)) (λ_ _ _ _=>gN 0) (λ_ _ _ _=>.nil) (λ_ _ _ _ _=>gh (bJ hu (aE (bJ hu (aP 1 (aP 2 a0))) (aP 0 a0))))) a0))))) PB.Jx
noncomputable abbrev iH:Stmt:=top 26
def sA:aT ["_law_fars","_law_one","_law_other"] ["_law_fars","_law_one","_law_other"] (aq iH):=by ac_rfl
def rY(T:Txt K mg)(h0:qx P w K mg base)(r:Rec K "_law_parters" iH):fM P w K mg base:=
 bL T.ns r (by ac_nf) λF=>bZ (m:=1) F sA rfl (by decide) (d:=eZ zH) (λcdv A outer s H Ex hr=>have hu:=hr.units;ai (bF (lg (vs:=["_law_look"]) (NB:=["_law_look","_law_fars","_law_one","_law_other"]) (ix:=[0,1,2]) (by rfl) (oi T.range (aE (dH T.len (aP 0 a0)) a0)) (λ_ _ _ _=>gN 0) (λ_ _ _ _=>.one (aS.st (qX hu (aE (aB h0 oN hr (aP 1 (aP 0 (aP 2 a0)))) (aE (aB h0 oN hr (aP 1 (aP 0 (aP 3 a0)))) a0))))) (λ_ _ _ _ _=>gh (xV 0))))) PB.Ik
noncomputable abbrev jy:Stmt:=top 27
def dI:aT ["_law_web_here","_law_kind","_law_fars","_law_some","_law_found","_law_k","_law_other"] ["_law_web_here","_law_kind"] (aq jy):=by ac_rfl
def uo(T:Txt K mg)(h0:jQ P w K mg base)(h1:jo P w K mg base)(h2:fM P w K mg base)(r:Rec K "_law_parted" jy):m7 P w K mg base:=
 bL T.ns r (by ac_nf) λF=>bZ (m:=5) F dI rfl (by decide) (d:=fZ r9 rT rK) (λcdv A outer s H Ex hr=>have hu:=hr.units;af (aN 2 dI.nd (aB h0 aF hr (aP 0 a0))) (af (aN 3 dI.nd (aB h1 aF hr (aP 0 (aP 1 a0)))) (af (aN 4 dI.nd (bH a0)) (af (fc OQ dI.nd (oi T.range (aE (dH T.len (aP 3 a0)) a0)) (gN 5) (ai (fc OQ dI.nd (gp (qC (aP 3 (aE (cH (aP 5 (aE (xI) a0))) a0)))) (gN 6) (ai (dO (xM 4 cG b8 Oi Oj (eC (b7 (aE (bJ hu (aP 3 (aP 5 a0))) (aP 6 (aE (aB h2 aF hr (aP 2 (aE (bJ hu (aP 3 (aP 5 a0))) (aP 6 a0)))) a0)))) e0))))))) (ai (kP 4)))))) PB.Js
noncomputable abbrev i7:Stmt:=top 29
def bV:aT ["_law_all","_law_pairs_here","_law_purse_here","_law_within","_law_without","_law_fars","_law_some","_law_strength","_law_many","_law_here","_law_one","_law_other","_law_places","_law_trees","_law_left","_law_k","_law_out","_law_in"] ["_law_all","_law_pairs_here","_law_purse_here","_law_within","_law_without"] (aq i7):=by ac_rfl
def uq{n:Nat}(T:Txt K mg)(h0:cA P w K mg base)(h1:j4 P w K mg base n)(r:Rec K "_law_made" i7):j4 P w K mg base (n+1):=
 bL T.ns r (by ac_nf) λF=>bZ (k:=2+n) (m:=14) F bV rfl (by decide) (d:=ie jB (qy n)) (λcdv A outer s H Ex hr=>have hu:=hr.units;af (nS bV.nd (gC 5 (gC 6 (gC 7 (gC 8 g0)))) (xV 0)) (af (aN 9 bV.nd (bH a0)) (af (fc OQ bV.nd (gp (xV 1)) (gT (gC 10 (gC 11 (gC 12 g0)))) (ai (cz (aS.st (Bf (aE (dH T.len (aE (lg (vs:=["_law_place"]) (NB:=["_law_place","_law_within"]) (ix:=[3]) (by rfl) (gp (xV 12)) (λ_ _ _ _=>gN 0) (λ_ _ _ _=>.one (aS.st (JH hu (aP 0 (aP 1 a0))))) (λ_ _ _ _ _=>gh (xV 0))) a0)) (aP 7 a0)))) (ai (dO (xM 9 cG b8 Oi Oj (eC (b7 (aP 10 (aP 11 (aP 12 a0)))) e0)))) (aJ)))) (gW (cz (aS.st (gD hu (aP 9 (aE (bH a0) a0)))) (ai (aN 9 bV.nd (xV 1))) (aJ)) (af (nS bV.nd (gC 10 (gC 11 (gC 12 g0))) (bJ hu (aP 9 (aE (aB (hk:=by lia) h0 aF hr (aP 2 (aE (dH T.len (aP 9 a0)) a0))) a0)))) (af (aN 13 bV.nd (bH a0)) (gW (cz (aS.st (Bf (aE (dH T.len (aP 3 a0)) (aP 8 a0)))) (af (IC (j:=14) bV.nd (vs:=["_law_place"]) (NB:=["_law_place","_law_within","_law_without"]) (ix:=[3,4]) (by rfl) (gp (xV 12)) (λ_ _ _ _=>gN 0) (λ_ _ _ _=>.one (aS.st (iC.lI (jL (jZ hu (aP 0 (aP 1 a0))) (eL (jZ hu (aP 0 (aP 2 a0)))))))) (λ_ _ _ _ _=>gh (xV 0))) (ai (fc OQ bV.nd (oi T.range (aE (dH T.len (aP 14 a0)) a0)) (gN 15) (af (aN 16 bV.nd (cH (aP 4 (aE (jO (aP 14 (aP 15 a0))) a0)))) (af (aN 17 bV.nd (cH (aP 3 (aE (bH (aE (bJ hu (aP 14 (aP 15 a0))) a0)) a0)))) (ai (dO (xM 13 cG b8 Oi Oj (eC (aB (hk:=by lia) h1 aF hr (aP 0 (aP 1 (aP 2 (aP 17 (aP 16 a0)))))) e0))))))))) (aJ)) (gW (cz (aS.st (gD hu (aE (aB (hk:=by lia) h0 aF hr (aP 2 (aE (xI) a0))) (aE (xI) a0)))) (ai (K4 10 11 bV.nd (b7 (aP 11 (aP 10 a0))))) (aJ)) (ai (bF (b7 (aP 10 (aP 11 (aE (wJ T.tuple (aP 13 a0)) a0)))))))))))))) (PB.Lv n)
def xh(T:Txt K mg)(h0:cA P w K mg base)(r:Rec K "_law_made" i7):pF P w K mg base:=by
 have h:∀n,j4 P w K mg base n:=λn=>by
  induction n with
  |zero=>exact oO PB.KG T.ns r (by ac_nf)
  |succ n ih=>exact uq T h0 ih r
 exact h 6
noncomputable abbrev ja:Stmt:=top 28
def dQ:aT ["_law_all","_law_tree","_law_within","_law_without","_law_fars","_law_some","_law_strength","_law_many","_law_one","_law_other","_law_trees","_law_places","_law_left","_law_k","_law_out"] ["_law_all","_law_tree","_law_within","_law_without"] (aq ja):=by ac_rfl
def uh{n:Nat}(T:Txt K mg)(h0:fM P w K mg base)(h1:kq P w K mg base n)(r:Rec K "_law_case" ja):kq P w K mg base (n+1):=
 bL T.ns r (by ac_nf) λF=>bZ (k:=3+n) (m:=12) F dQ rfl (by decide) (d:=gY rK (tF n)) (λcdv A outer s H Ex hr=>have hu:=hr.units;af (nS dQ.nd (gC 4 (gC 5 (gC 6 (gC 7 g0)))) (xV 0)) (af (cz (aS.st (iC.lI (je (rR (yl (sD T.kit T.isinstance T.tuple RZ (aP 1 a0)))) (je (qX hu (aE (dH T.len (aP 1 a0)) (aE (xI) a0))) (eL (rR (yl (sD T.kit T.isinstance T.tuple RZ (aE (bJ hu (aP 1 (aE (xI) a0))) a0))))))))) (ai (bF (xB))) (aJ)) (af (nS dQ.nd (gC 8 (gC 9 (gC 10 g0))) (xV 1)) (af (cz (aS.st (iC.lI (je (jZ hu (aP 8 (aP 5 a0))) (je (jZ hu (aP 9 (aP 5 a0))) (eL (gD hu (aP 8 (aP 9 a0)))))))) (ai (bF (xB))) (aJ)) (af (aN 11 dQ.nd (aB (hk:=by lia) h0 aF hr (aP 4 (aP 8 (aP 9 a0))))) (af (cz (aS.st (EK (aE (dH T.len (aE (lg (vs:=["_law_place"]) (NB:=["_law_place","_law_within"]) (ix:=[2]) (by rfl) (gp (xV 11)) (λ_ _ _ _=>gN 0) (λ_ _ _ _=>.one (aS.st (JH hu (aP 0 (aP 1 a0))))) (λ_ _ _ _ _=>gh (xV 0))) a0)) (aP 6 a0)))) (ai (bF (xB))) (aJ)) (af (cz (aS.st (EK (aE (dH T.len (aP 2 a0)) (aP 7 a0)))) (ai (bF (BQ (Hu hu (aE (dH T.len (aP 2 a0)) (aP 7 a0))) (Cw (Jb hu (aP 10 (aE (b7 a0) a0))))))) (aJ)) (af (IC (j:=12) dQ.nd (vs:=["_law_place"]) (NB:=["_law_place","_law_within","_law_without"]) (ix:=[2,3]) (by rfl) (gp (xV 11)) (λ_ _ _ _=>gN 0) (λ_ _ _ _=>.one (aS.st (iC.lI (jL (jZ hu (aP 0 (aP 1 a0))) (eL (jZ hu (aP 0 (aP 2 a0)))))))) (λ_ _ _ _ _=>gh (xV 0))) (af (cz (aS.st (qX hu (aE (dH T.len (aP 10 a0)) (aE (dH T.len (aP 12 a0)) a0)))) (ai (bF (xB))) (aJ)) (af (fc OQ dQ.nd (oi T.range (aE (dH T.len (aP 12 a0)) a0)) (gN 13) (af (aN 14 dQ.nd (cH (aP 3 (aE (jO (aP 12 (aP 13 a0))) a0)))) (ai (cz (IA (aS.st (yl (aB (hk:=by lia) h1 aF hr (aP 0 (aE (bJ hu (aP 10 (aP 13 a0))) (aE (cH (aP 2 (aE (bH (aE (bJ hu (aP 12 (aP 13 a0))) a0)) a0))) (aP 14 a0)))))))) (ai (bF (xB))) (aJ))))) (ai (bF (xB))))))))))))) (PB.Kz n)
def xr(T:Txt K mg)(h0:fM P w K mg base)(r:Rec K "_law_case" ja):oW P w K mg base:=by
 have h:∀n,kq P w K mg base n:=λn=>by
  induction n with
  |zero=>exact oO PB.LL T.ns r (by ac_nf)
  |succ n ih=>exact uh T h0 ih r
 exact h 7
noncomputable abbrev jr:Stmt:=top 8
def uf:aT ["fars","tie"] ["fars","tie"] (aq jr):=by ac_rfl
def ud(T:Txt K mg)(r:Rec K "nearer_end" jr):mT P w K mg base:=
 bL T.ns r (by ac_nf) λF=>bZ (m:=0) F uf rfl (by decide) (d:=jT) (λcdv A outer s H Ex hr=>have hu:=hr.units;ai (bF (II T.min (aE (bJ hu (aP 0 (aE (bJ hu (aP 1 (aE (xI) a0))) a0))) (aE (bJ hu (aP 0 (aE (bJ hu (aP 1 (aE (xI) a0))) a0))) a0))))) PB.J6
noncomputable abbrev j9:Stmt:=top 11
def uI:aT ["fars","thing"] ["fars","thing"] (aq j9):=by ac_rfl
def ve(T:Txt K mg)(h0:mT P w K mg base)(r:Rec K "thing_far" j9):nB P w K mg base:=
 bL T.ns r (by ac_nf) λF=>bZ (m:=0) F uI rfl (by decide) (d:=kW zT) (λcdv A outer s H Ex hr=>have hu:=hr.units;af (cz (aS.st (yl (sD T.kit T.isinstance T.int Qs (aP 1 a0)))) (ai (bF (bJ hu (aP 0 (aP 1 a0))))) (aJ)) (ai (bF (aB h0 aF hr (aP 0 (aP 1 a0)))))) PB.IF
noncomputable abbrev jv:Stmt:=top 13
def uu:aT ["rows","one","other"] ["rows","one","other"] (aq jv):=by ac_rfl
def uw(T:Txt K mg)(h0:nB P w K mg base)(r:Rec K "parters_by" jv):jz P w K mg base:=
 bL T.ns r (by ac_nf) λF=>bZ (m:=2) F uu rfl (by decide) (d:=jR An) (λcdv A outer s H Ex hr=>have hu:=hr.units;ai (bF (lg (vs:=["place","fars"]) (NB:=["place","fars","one","other"]) (ix:=[1,2]) (by rfl) (Mw T.enumerate (xV 0)) (λ_ _ _ _=>gT (gC 0 (gC 1 g0))) (λ_ _ _ _=>.one (aS.st (qX hu (aE (aB h0 oN hr (aP 1 (aP 2 a0))) (aE (aB h0 oN hr (aP 1 (aP 3 a0))) a0))))) (λ_ _ _ _ _=>gh (xV 0))))) PB.Jl
noncomputable abbrev gg:Stmt:=top 16
def gc:aT ["rows","things","strength","many","tree","ins","outs","one","other","trees","parters","free"] ["rows","things","strength","many","tree","ins","outs"] (aq gg):=by ac_rfl
def qP{n:Nat}(T:Txt K mg)(h0:jz P w K mg base)(h1:iZ P w K mg base n)(r:Rec K "case_shown" gg):iZ P w K mg base (n+1):=
 bL T.ns r (by ac_nf) λF=>bZ (k:=4+n) (m:=8) F gc rfl (by decide) (d:=jY Ac (tK n)) (λcdv A outer s H Ex hr=>have hu:=hr.units;af (nS gc.nd (gC 7 (gC 8 (gC 9 g0))) (xV 4)) (af (cz (aS.st (iC.lI (je (gD hu (aP 7 (aP 8 a0))) (je (jZ hu (aP 7 (aP 1 a0))) (eL (jZ hu (aP 8 (aP 1 a0)))))))) (ai (bF (xB))) (aJ)) (af (aN 10 gc.nd (aB (hk:=by lia) h0 aF hr (aP 0 (aP 7 (aP 8 a0))))) (af (cz (aS.st (EK (aE (dH T.len (aE (lg (vs:=["place"]) (NB:=["place","ins"]) (ix:=[5]) (by rfl) (gp (xV 10)) (λ_ _ _ _=>gN 0) (λ_ _ _ _=>.one (aS.st (JH hu (aP 0 (aP 1 a0))))) (λ_ _ _ _ _=>gh (xV 0))) a0)) (aP 2 a0)))) (ai (bF (xB))) (aJ)) (af (cz (aS.st (gD hu (aE (dH T.len (aP 5 a0)) (aP 3 a0)))) (ai (bF (Jb hu (aP 9 (aE (b7 a0) a0))))) (aJ)) (af (aN 11 gc.nd (lg (vs:=["place"]) (NB:=["place","ins","outs"]) (ix:=[5,6]) (by rfl) (gp (xV 10)) (λ_ _ _ _=>gN 0) (λ_ _ _ _=>.one (aS.st (iC.lI (jL (jZ hu (aP 0 (aP 1 a0))) (eL (jZ hu (aP 0 (aP 2 a0)))))))) (λ_ _ _ _ _=>gh (xV 0)))) (af (cz (aS.st (qX hu (aE (dH T.len (aP 9 a0)) (aE (dH T.len (aP 11 a0)) a0)))) (ai (bF (xB))) (aJ)) (ai (bF (MR T.all (aE (lg (vs:=["at","place","branch"]) (NB:=["at","place","branch","rows","things","strength","many","ins","outs","free"]) (ix:=[0,1,2,3,5,6,11]) (by rfl) (JV T.enumerate T.zip (xV 11) (xV 9)) (λ_ _ _ _=>Na 0 (gC 1 (gC 2 g0))) (λ_ _ _ _=>.nil) (λ_ _ _ _ _=>gh (aB (hk:=by lia) h1 oN hr (aP 3 (aP 4 (aP 5 (aP 6 (aP 2 (aE (cH (aP 7 (aE (bH (aP 1 a0)) a0))) (aE (cH (aP 8 (aE (jO (aP 9 (aP 0 a0))) a0))) a0)))))))))) a0))))))))))) (PB.Lo n)
def t8(T:Txt K mg)(h0:jz P w K mg base)(r:Rec K "case_shown" gg):ng P w K mg base:=by
 have h:∀n,iZ P w K mg base n:=λn=>by
  induction n with
  |zero=>exact oO PB.LP T.ns r (by ac_nf)
  |succ n ih=>exact qP T h0 ih r
 exact h 7
noncomputable abbrev fm:Stmt:=top 6
def nE:aT ["web","place"] ["web","place"] (aq fm):=by ac_rfl
def nI(T:Txt K mg)(r:Rec K "refuse_no_place" fm):jd P w K mg base:=
 bL T.ns r (by ac_nf) λF=>bZ (m:=0) F nE rfl (by decide) (d:=fV) (λcdv A outer s H Ex hr=>have hu:=hr.units;ai (cz (IA (aS.st (Br K8 Af rfl (xI) (xV 1) (bJ hu (aP 0 (aE (xI) a0)))))) (ai (GH T.GV)) (aJ))) PB.JN
noncomputable abbrev eY:Stmt:=top 4
def dJ:aT ["web","many","ties","lists","one","other"] ["web"] (aq eY):=by ac_rfl
def nJ(T:Txt K mg)(r:Rec K "neighbour_lists" eY):jl P w K mg base:=
 bL T.ns r (by ac_nf) λF=>bZ (m:=6) F dJ rfl (by decide) (d:=fY) (λcdv A outer s H Ex hr=>af (nS dJ.nd (gC 1 (gC 2 g0)) (xV 0)) (af (MJ (j:=3) dJ.nd (vs:=["place"]) (NB:=["place"]) (ix:=[]) (by rfl) (oi T.range (aP 1 a0)) (λ_ _ _ _=>gN 0) (λ_ _ _ _=>.nil) (λ_ _ _ _=>bH a0)) (af (fc OQ dJ.nd (gp (xV 2)) (gT (gC 4 (gC 5 g0))) (af (dO (Ms 3 5 cG b8 Oi Oj (xV 4))) (ai (dO (Ms 3 4 cG b8 Oi Oj (xV 5)))))) (ai (kP 3))))) PB.Jy
noncomputable abbrev gU:Stmt:=top 5
def bY:aT ["web","place","lists","fars","edge","reached","here","there"] ["web","place"] (aq gU):=by ac_rfl
def qE(T:Txt K mg)(h0:jl P w K mg base)(r:Rec K "fars_or_none" gU):kT P w K mg base:=
 bL T.ns r (by ac_nf) λF=>bZ (m:=6) F bY rfl (by decide) (d:=iP Ah) (λcdv A outer s H Ex hr=>have hu:=hr.units;af (aN 2 bY.nd (aB h0 aF hr (aP 0 a0))) (af (aN 3 bY.nd (pS (aE (bH (aE (xN) a0)) (aE (bJ hu (aP 0 (aE (xI) a0))) a0)))) (af (qc 3 hu (xI) (xV 1)) (af (aN 4 bY.nd (bH (aP 1 a0))) (af (HS OQ (tV 4) (af (aN 5 bY.nd (bH a0)) (af (fc OQ bY.nd (gp (xV 4)) (gN 6) (ai (fc OQ bY.nd (gp (bJ hu (aP 2 (aP 6 a0)))) (gN 7) (ai (cz (aS.st (Mq (aE (bJ hu (aP 3 (aP 7 a0))) (aE (xN) a0)))) (af (qc 3 hu (cH (aE (bJ hu (aP 3 (aP 6 a0))) (aE (xI) a0))) (xV 7)) (ai (dO (xM 5 cG b8 Oi Oj (eC (xV 7) e0))))) (aJ)))))) (ai (aN 4 bY.nd (xV 5)))))) (ai (kP 3))))))) PB.HB
noncomputable abbrev kc:Stmt:=top 7
def vQ:aT ["web","place"] ["web","place"] (aq kc):=by ac_rfl
def vL(T:Txt K mg)(h0:jd P w K mg base)(h1:kT P w K mg base)(r:Rec K "fars_from" kc):oj P w K mg base:=
 bL T.ns r (by ac_nf) λF=>bZ (m:=0) F vQ rfl (by decide) (d:=lC zS zh) (λcdv A outer s H Ex hr=>af (dO (aB h0 aF hr (aP 0 (aP 1 a0)))) (ai (bF (aB h1 aF hr (aP 0 (aP 1 a0)))))) PB.HP
noncomputable abbrev lu:Stmt:=top 12
def w5:aT ["web"] ["web"] (aq lu):=by ac_rfl
def xm(T:Txt K mg)(h0:oj P w K mg base)(r:Rec K "far_rows" lu):pG P w K mg base:=
 bL T.ns r (by ac_nf) λF=>bZ (m:=1) F w5 rfl (by decide) (d:=mE zw) (λcdv A outer s H Ex hr=>have hu:=hr.units;ai (bF (lg (vs:=["place"]) (NB:=["place","web"]) (ix:=[0]) (by rfl) (oi T.range (aE (bJ hu (aP 0 (aE (xI) a0))) a0)) (λ_ _ _ _=>gN 0) (λ_ _ _ _=>.nil) (λ_ _ _ _ _=>gh (aB h0 oN hr (aP 1 (aP 0 a0))))))) PB.JA
noncomputable abbrev jV:Stmt:=top 10
def iw:aT ["web","kind","many","ties","places","joins"] ["web","kind"] (aq jV):=by ac_rfl
def v8(T:Txt K mg)(r:Rec K "things_of" jV):nC P w K mg base:=
 bL T.ns r (by ac_nf) λF=>bZ (m:=4) F iw rfl (by decide) (d:=kY) (λcdv A outer s H Ex hr=>have hu:=hr.units;af (nS iw.nd (gC 2 (gC 3 g0)) (xV 0)) (af (aN 4 iw.nd (Fd (aS.st (gD hu (aP 1 (aE (xS) a0)))) (bH a0) (BP T.list T.range (aP 2 a0)))) (af (aN 5 iw.nd (Fd (aS.st (gD hu (aP 1 (aE (xS) a0)))) (bH a0) (Ft T.list (aP 3 a0)))) (ai (bF (cH (aP 4 (aP 5 a0)))))))) PB.Iu
noncomputable abbrev jt:Stmt:=top 15
def uv:aT ["web","kind","strength","many","tree"] ["web","kind","strength","many","tree"] (aq jt):=by ac_rfl
def um(T:Txt K mg)(h0:ng P w K mg base)(h1:pG P w K mg base)(h2:nC P w K mg base)(r:Rec K "tree_shows" jt):nh P w K mg base:=
 bL T.ns r (by ac_nf) λF=>bZ (m:=0) F uv rfl (by decide) (d:=kg (tK 7) zQ Ae) (λcdv A outer s H Ex hr=>af (cz (aS.st (Mq (aP 4 (aE (xN) a0)))) (ai (bF (xB))) (aJ)) (ai (bF (aB h0 aF hr (aE (aB h1 aF hr (aP 0 a0)) (aE (aB h2 aF hr (aP 0 (aP 1 a0))) (aP 2 (aP 3 (aP 4 (aE (bH a0) (aE (bH a0) a0))))))))))) PB.HG
noncomputable abbrev jA:Stmt:=top 30
def gf:aT ["_law_tree","_law_some","_law_way","_law_purse_here","_law_one","_law_other","_law_trees","_law_thing","_law_k"] ["_law_tree","_law_some","_law_way","_law_purse_here"] (aq jA):=by ac_rfl
def t9(T:Txt K mg)(h0:cA P w K mg base)(r:Rec K "_law_turned" jA):jw P w K mg base:=
 bL T.ns r (by ac_nf) λF=>bZ (m:=5) F gf rfl (by decide) (d:=f7 jB) (λcdv A outer s H Ex hr=>have hu:=hr.units;af (nS gf.nd (gC 4 (gC 5 (gC 6 g0))) (xV 0)) (af (aN 7 gf.nd (bJ hu (aP 1 (aE (aB h0 aF hr (aP 3 (aE (dH T.len (aP 1 a0)) a0))) a0)))) (af (aN 8 gf.nd (aB h0 aF hr (aP 3 (aE (cH (aE (dH T.len (aP 6 a0)) (aE (xI) a0))) a0)))) (af (cz (aS.st (gD hu (aP 2 (aE (xI) a0)))) (ai (bF (b7 (aP 7 (aP 5 (aP 6 a0)))))) (aJ)) (af (cz (aS.st (gD hu (aP 2 (aE (xI) a0)))) (ai (bF (b7 (aP 4 (aP 4 (aP 6 a0)))))) (aJ)) (af (cz (aS.st (gD hu (aP 2 (aE (xI) a0)))) (ai (bF (b7 (aE (bJ hu (aE (bH (aE (xI) (aE (b7 (aE (xI) (aE (xI) a0))) (aE (b7 (aE (xI) (aE (xI) a0))) (aE (Ia (aE (xI) a0)) a0))))) (aE (pX (aP 8 (aE (xI) a0))) a0))) (aP 5 (aP 6 a0)))))) (aJ)) (af (cz (aS.st (gD hu (aP 2 (aE (xI) a0)))) (ai (bF (b7 (aE (bJ hu (aE (bH (aE (xI) (aE (b7 (aE (xI) (aE (xI) a0))) a0))) (aE (wY T.int (aE (sD T.kit T.isinstance T.int Qs (aP 5 a0)) a0)) a0))) (aP 5 (aP 6 a0)))))) (aJ)) (af (cz (aS.st (gD hu (aP 2 (aE (xI) a0)))) (ai (bF (b7 (aP 4 (aP 5 (aE (qY (aE (jO (aP 6 (aP 8 a0))) (aE (qC (aP 6 (aE (cH (aP 8 (aE (xI) a0))) a0))) a0))) a0)))))) (aJ)) (af (cz (aS.st (gD hu (aP 2 (aE (xI) a0)))) (ai (bF (b7 (aP 4 (aP 5 (aE (qY (aE (qY (aE (jO (aP 6 (aP 8 a0))) (aE (Iw (aP 6 (aP 8 (aE (cH (aP 8 (aE (xI) a0))) a0)))) a0))) (aE (qC (aP 6 (aP 8 a0))) a0))) a0)))))) (aJ)) (af (cz (aS.st (gD hu (aP 2 (aE (xI) a0)))) (ai (bF (b7 (aP 4 (aP 5 (aE (qY (aE (qC (aP 6 (aE (xI) a0))) (aE (jO (aP 6 (aE (xI) a0))) a0))) a0)))))) (aJ)) (af (cz (aS.st (gD hu (aP 2 (aE (xI) a0)))) (ai (bF (b7 (aP 4 (aP 5 (aE (b7 a0) a0)))))) (aJ)) (ai (bF (b7 (aP 4 (aP 5 (aE (qY (aP 6 (aE (b7 (aE (b7 (aP 4 (aP 5 (aE (b7 a0) a0)))) a0)) a0))) a0))))))))))))))))) PB.LU
noncomputable abbrev fH:Stmt:=top 31
def iM:aT ["_law_tree","_law_some","_law_way","_law_purse_here","_law_k","_law_trees"] ["_law_tree","_law_some","_law_way","_law_purse_here"] (aq fH):=by ac_rfl
def pQ{n:Nat}(T:Txt K mg)(h0:cA P w K mg base)(h1:jw P w K mg base)(h2:gX P w K mg base n)(r:Rec K "_law_changed" fH):gX P w K mg base (n+1):=
 bL T.ns r (by ac_nf) λF=>bZ (k:=3+n) (m:=2) F iM rfl (by decide) (d:=fu jB BL (tG n)) (λcdv A outer s H Ex hr=>have hu:=hr.units;af (cz (aS.st (iC.lI (je (MD hu (aE (bJ hu (aP 0 (aE (xI) a0))) (aE (b7 a0) a0))) (eL (gD hu (aE (aB (hk:=by lia) h0 aF hr (aP 3 (aE (xI) a0))) (aE (xI) a0))))))) (ai (bF (aB (hk:=by lia) h1 aF hr (aP 0 (aP 1 (aP 2 (aP 3 a0))))))) (aJ)) (af (aN 4 iM.nd (aB (hk:=by lia) h0 aF hr (aP 3 (aE (dH T.len (aE (bJ hu (aP 0 (aE (xI) a0))) a0)) a0)))) (af (aN 5 iM.nd (Ft T.list (aE (bJ hu (aP 0 (aE (xI) a0))) a0))) (af (qc 5 hu (aB (hk:=by lia) h2 aF hr (aE (bJ hu (aP 5 (aP 4 a0))) (aP 1 (aP 2 (aP 3 a0))))) (xV 4)) (ai (bF (b7 (aE (bJ hu (aP 0 (aE (xI) a0))) (aE (bJ hu (aP 0 (aE (xI) a0))) (aE (wJ T.tuple (aP 5 a0)) a0)))))))))) (PB.LM n)
def sr(T:Txt K mg)(h0:cA P w K mg base)(h1:jw P w K mg base)(r:Rec K "_law_changed" fH):lY P w K mg base:=by
 have h:∀n,gX P w K mg base n:=λn=>by
  induction n with
  |zero=>exact oO PB.KJ T.ns r (by ac_nf)
  |succ n ih=>exact pQ T h0 h1 ih r
 exact h 6
noncomputable abbrev vg:Stmt:=top 32
def cB:aT ["_law_script","_law_purse_here","_law_kind","_law_strength","_law_many","_law_most","_law_web_here","_law_pairs_here","_law_some","_law_all","_law_trees","_law_k","_law_own_purse","_law_way","_law_kin","_law_strange","_law_tree","_law_due","_law_told"] ["_law_script"] (aq vg):=by ac_rfl
def JX(T:Txt K mg)(h0:n5 P w K mg base)(h1:cA P w K mg base)(h2:rq P w K mg base)(h3:m7 P w K mg base)(h4:jo P w K mg base)(h5:jQ P w K mg base)(h6:pF P w K mg base)(h7:lY P w K mg base)(h8:oW P w K mg base)(h9:nh P w K mg base){f:Addr}{fd:FuncData}(F:qv K "law" "law" vg f fd):fW P w K mg base (eN P w) 13 f fd ["_law_script"] (b9 mg K [false] sJ):=
 bZ (m:=18) F cB rfl (by decide) (d:=mH zj jB Ab Ak rT r9 (qy 6) (tG 6) (tF 7) zL) (λcdv A outer s H Ex hr=>have hu:=hr.units;af (aN 1 cB.nd (aB h0 aF hr (aP 0 (aE (xI) a0)))) (af (aN 2 cB.nd (bJ hu (aE (bH (aE (xS) (aE (xS) (aE (xS) a0)))) (aE (aB h1 aF hr (aP 1 (aE (xI) a0))) a0)))) (af (aN 3 cB.nd (cH (aE (xI) (aE (aB h1 aF hr (aP 1 (aE (bJ hu (aE (bH (aE (xI) (aE (xI) a0))) (aE (aB h1 aF hr (aP 1 (aE (xI) a0))) a0))) a0))) a0)))) (af (aN 4 cB.nd (aB h1 aF hr (aP 1 (aE (xI) a0)))) (af (aN 5 cB.nd (bJ hu (aE (bH (aE (xI) (aE (xI) a0))) (aE (wY T.int (aE (BQ (Hu hu (aE (aB h1 aF hr (aP 1 (aE (xI) a0))) (aE (xI) a0))) (Cw (Nl (aP 4 (aE (xI) a0))))) a0)) a0)))) (af (aN 6 cB.nd (vD h2 aF hr (a0) (aB h0 aF hr (aP 0 (aE (xI) a0))) (aE (cH (aE (xI) (aE (wY T.int (aE (Hu hu (aP 2 (aE (xS) a0))) a0)) a0))) (aP 5 a0)))) (af (aN 7 cB.nd (aB h3 aF hr (aP 6 (aP 2 a0)))) (af (aN 8 cB.nd (aB h4 aF hr (aP 6 (aP 2 a0)))) (af (aN 9 cB.nd (b7 (aE (aB h5 aF hr (aP 6 a0)) (aP 8 (aP 3 (aP 4 a0)))))) (af (aN 10 cB.nd (bH (aE (vD h6 aF hr (aP 9 (aP 7 a0)) (aB h0 aF hr (aP 0 (aE (xI) a0))) (aE (bH a0) (aE (bH a0) a0))) a0))) (af (fc OQ cB.nd (L1 T.range (aE (xI) (aE (xI) a0))) (gN 11) (af (aN 12 cB.nd (aB h0 aF hr (aP 0 (aP 11 a0)))) (af (aN 13 cB.nd (aB h1 aF hr (aP 12 (aE (xI) a0)))) (ai (dO (xM 10 cG b8 Oi Oj (eC (aB h7 aF hr (aE (bJ hu (aP 10 (aE (xI) a0))) (aP 8 (aP 13 (aP 12 a0))))) e0))))))) (af (aN 14 cB.nd (bJ hu (aE (bH (aE (xS) (aE (xS) (aE (xS) a0)))) (aE (LA 2 hu (bH (aE (xS) (aE (xS) (aE (xS) a0))))) a0)))) (af (aN 15 cB.nd (aB h3 aF hr (aP 6 (aP 14 a0)))) (gW (cz (aS.st (qX hu (aP 15 (aE (bH a0) a0)))) (ai (dO (xM 10 cG b8 Oi Oj (eC (vD h6 aF hr (aP 9 (aP 15 a0)) (aB h0 aF hr (aP 0 (aE (xI) a0))) (aE (bH a0) (aE (bH a0) a0))) e0)))) (aJ)) (af (fc OQ cB.nd (gp (cH (aP 10 (aE (jO (aP 10 (aE (xI) a0))) a0)))) (gN 16) (af (aN 17 cB.nd (aB h8 aF hr (aP 9 (aP 16 (aE (bH a0) (aE (bH a0) a0)))))) (af (aN 18 cB.nd (aB h9 aF hr (aP 6 (aP 2 (aP 3 (aP 4 (aP 16 a0))))))) (ai (cz (aS.st (iC.lI (je (rR (yl (sD T.kit T.isinstance T.bool PyProof.Rows.boot_bool (aP 18 a0)))) (eL (qX hu (aP 18 (aP 17 a0))))))) (ai (bF (xB))) (aJ)))))) (ai (bF (xB)))))))))))))))))) PB.D0
end
def all_mk{l:OpenLaw}{w:World}{K:Frag}{h:Heap}{mg:Rr}{fa:Addr}(X:K.In h)(G:h.Ns mainGlobals mg)(hfa:mg "law"=some (.ref fa))(qd00:Rec K "_law_purse" kD)(qd01:Rec K "_law_take" lq)(qd02:Rec K "_law_pairs" kr)(qd03:Rec K "_law_order" ku)(qd04:Rec K "_law_web" mC)(qd05:Rec K "_law_table" j6)(qd06:Rec K "_law_things" jm)(qd07:Rec K "_law_far" mF)(qd08:Rec K "_law_parters" iH)(qd09:Rec K "_law_parted" jy)(qd10:Rec K "_law_made" i7)(qd11:Rec K "_law_case" ja)(qd12:Rec K "nearer_end" jr)(qd13:Rec K "thing_far" j9)(qd14:Rec K "parters_by" jv)(qd15:Rec K "case_shown" gg)(qd16:Rec K "refuse_no_place" fm)(qd17:Rec K "neighbour_lists" eY)(qd18:Rec K "fars_or_none" gU)(qd19:Rec K "fars_from" kc)(qd20:Rec K "far_rows" lu)(qd21:Rec K "things_of" jV)(qd22:Rec K "tree_shows" jt)(qd23:Rec K "_law_turned" jA)(qd24:Rec K "_law_changed" fH)(qd25:Rec K "law" vg)(zall:nsIn K mainGlobals "all"=some none)(zbool:nsIn K mainGlobals "bool"=some none)(zenumerate:nsIn K mainGlobals "enumerate"=some none)(zint:nsIn K mainGlobals "int"=some none)(zisinstance:nsIn K mainGlobals "isinstance"=some none)(zlen:nsIn K mainGlobals "len"=some none)(zlist:nsIn K mainGlobals "list"=some none)(zmax:nsIn K mainGlobals "max"=some none)(zmin:nsIn K mainGlobals "min"=some none)(zrange:nsIn K mainGlobals "range"=some none)(zsorted:nsIn K mainGlobals "sorted"=some none)(ztuple:nsIn K mainGlobals "tuple"=some none)(zzip:nsIn K mainGlobals "zip"=some none)(xNoPlace:Jf K "NoPlace")(kit:u7 K ["bool","int","tuple"]=true) : ∃fd:FuncData,(∀(s:Shared)(v:Value),BindsTo s fd ⟨[v],[]⟩ [("_law_script",v)])/\∀base:Heap,K.In base->base.Ns mainGlobals mg->fW l.prog w K mg base (eN l.prog w) 13 fa fd ["_law_script"] (b9 mg K [false] sJ):=by have T:Txt K mg:=⟨Of X G zall,Of X G zbool,Of X G zenumerate,Of X G zint,Of X G zisinstance,Of X G zlen,Of X G zlist,Of X G zmax,Of X G zmin,Of X G zrange,Of X G zsorted,Of X G ztuple,Of X G zzip,(let⟨C,h1,h2⟩:=xNoPlace;⟨C,mg_of X G h1,h2⟩),kit,⟨h,X,G⟩⟩;obtain⟨fl,fdl,nl,Fl⟩:=qd25;have e:=hfa.symm.trans (mg_of X G nl);cases e;refine⟨fdl,?_,λbase _ _=>?_⟩;{obtain⟨_,_,_,_,_,_,_,_,_,rfl,_,_⟩:=Fl.ex;exact λs v=>.of_eq rfl};have Hd00:=vX (P:=l.prog) (w:=w) (base:=base) T qd00;have Hd01:=w6 (P:=l.prog) (w:=w) (base:=base) T qd01;have Hd02:=wU T Hd01 qd02;have Hd03:=u5 T Hd01 qd03;have Hd04:=zJ T Hd01 Hd02 Hd03 qd04;have Hd05:=vc (P:=l.prog) (w:=w) (base:=base) T qd05;have Hd06:=ue (P:=l.prog) (w:=w) (base:=base) T qd06;have Hd07:=Al (P:=l.prog) (w:=w) (base:=base) T qd07;have Hd08:=rY T Hd07 qd08;have Hd09:=uo T Hd05 Hd06 Hd08 qd09;have Hd10:=xh T Hd01 qd10;have Hd11:=xr T Hd08 qd11;have Hd12:=ud (P:=l.prog) (w:=w) (base:=base) T qd12;have Hd13:=ve T Hd12 qd13;have Hd14:=uw T Hd13 qd14;have Hd15:=t8 T Hd14 qd15;have Hd16:=nI (P:=l.prog) (w:=w) (base:=base) T qd16;have Hd17:=nJ (P:=l.prog) (w:=w) (base:=base) T qd17;have Hd18:=qE T Hd17 qd18;have Hd19:=vL T Hd16 Hd18 qd19;have Hd20:=xm T Hd19 qd20;have Hd21:=v8 (P:=l.prog) (w:=w) (base:=base) T qd21;have Hd22:=um T Hd15 Hd20 Hd21 qd22;have Hd23:=t9 T Hd01 qd23;have Hd24:=sr T Hd01 Hd23 qd24;exact JX T Hd00 Hd01 Hd04 Hd09 Hd06 Hd05 Hd10 Hd24 Hd11 Hd22 Fl
def walk{l:OpenLaw}{q:Program}{loose:SQ}{XP:(Rr)->Heap->Prop}{YP:World->Heap->Prop}{d:DefRec}{K:Params->Frag}(hn:l.most=some 63)(hdf:d.params.defaults=[])(hY:∀(w:World)(h:Heap),YP w h->(K w.params).In h)(F:∀(w:World)(mg:Rr)(fa:Addr)(h:Heap),(K w.params).In h->h.Ns mainGlobals mg->mg d.name=some (.ref fa)-> ∃fd:FuncData,(∀(s:Shared)(u:Value),BindsTo s fd ⟨[u],[]⟩ [("_law_script",u)])/\∀base:Heap,(K w.params).In base->base.Ns mainGlobals mg->fW l.prog w (K w.params) mg base (eN l.prog w) 13 fa fd ["_law_script"] (b9 mg (K w.params) [false] sJ)) : WalkO q loose XP YP l.row.toRowW d [] (λf vs=>PySem.call f vs):=AG hn hdf ⟨rfl,by decide,by decide⟩ hY F
end HZ
open PySem PySem.W PyProof.Rows Dv
set_option maxRecDepth 100000 in
set_option maxHeartbeats 0 in
theorem PySem.Challenge.cw_farhail_k37_trees_of_pairs_judged_holds : PySem.Challenge.rw_farhail_k37_trees_of_pairs_judged.Holds := by
 w_on;o_law;k_head;(case hw=>w_witness2)
 k_fill
 refine HZ.walk (l:=PySem.Challenge.rw_farhail_k37_trees_of_pairs_judged) rfl rfl (λw h SV=>PySem.W.kIn_of SV) ?F
 case F=>
  intro w mg fa h KX G hmg
  refine' HZ.all_mk KX G hmg ?_ ?_ ?_ ?_ ?_ ?_ ?_ ?_ ?_ ?_ ?_ ?_ ?_ ?_ ?_ ?_ ?_ ?_ ?_ ?_ ?_ ?_ ?_ ?_ ?_ ?_ ?_ ?_ ?_ ?_ ?_ ?_ ?_ ?_ ?_ ?_ ?_ ?_ ?_ ?_ ?_
  iterate 26
   apply Jg
   iterate 4 (first|k_is|kernel_rfl)
  iterate 13
   first|k_is|kernel_rfl|(apply Exists.intro;first|k_is|kernel_rfl)
  iterate 1
   apply FQ
   iterate 2 (first|k_is|kernel_rfl)
  all_goals first|kernel_rfl|k_is
