import PyProof.Rows.All
import PySem.PyData
import Wide.All
import OpenK.AllK
import Wide.FinOn
import Lean
import PyProof.EqAt
import PyProof.EqKinds
import PyProof.TupleCall
import PyProof.SetKind
import PyProof.TupleKey
import PyProof.IsRules
import PyProof.SetRoads
import PyProof.RaisesMany
import PyProof.RulesTry
import PyProof.ExcClass2
import KE.KTryMore
import PyProof.RulesAs
import PyProof.NsDelKeeps
import KE.KDictList
import PyProof.P3In
import PyProof.Rows.SortShellK
import PyProof.TupleOfSeq
import PyProof.WalkInts
import PyProof.SeqI3
import PyProof.SumAnyB
import PyProof.Rows.SeqWords
import PyProof.ListRange
import PyProof.DictValues
import PyProof.DictWalks
import PyProof.NeKinds
import PyProof.FactsAll.list_2
import PySem.Challenge.RW_farhail_k18_trees_and_pieces
set_option linter.all false
local macro_rules | `(tactic| ac_rfl) => `(tactic| exact⟨rfl,rfl,rfl,by decide +kernel,rfl,by decide +kernel,by decide +kernel⟩)
set_option genSizeOf false
set_option genInjectivity false
section
open PySem
abbrev QA:=List (PyData×PyData)
abbrev QB:=Array (Option Value)
abbrev QC:=Value->Shared->Prop
abbrev QD:=List Comprehension
abbrev QE:=Str->Option Value
abbrev QF:=List (Addr×Obj)
abbrev QG:=Int->Int->Bool
abbrev QH:=List (Nat×Nat)
abbrev QI:=List (Int×Int)
abbrev QJ:=PySem.W.Frag
abbrev QK:=Option Value
abbrev QL:=Array Value
abbrev QM:=List PyData
abbrev QN:=Option Addr
abbrev QO:=List Value
abbrev QS:=List Addr
abbrev QT:=List Bool
abbrev QU:=List Expr
abbrev QV:=List Stmt
abbrev QW:=List Nat
abbrev QX:=List Int
abbrev QY:=List Str
end
section
open PySem PySem.Spec PyProof.Rows PySem.W
def L8:=@wpS_bind
def M0:=@wpS_pure
def M1:=@wpAny_bind
def M5:=@Nat.le_refl
def M7:=@List.mem_cons_self
def M8:=@wpAny_pure
def M9:=@List.length_map
def MA:=@Bool.and_eq_true
def MB:=@Heap.lt_size
def MC:=@List.mem_cons_of_mem
def MD:=@wpS_mono
def ME:=@wpS_forRange
def MF:=@List.mem_append
def MG:=@List.all_cons
def MH:=@List.mem_cons
def MI:=@List.all_eq_true
def MJ:=@Bool.false_ne_true
def MK:=@List.size_toArray
def ML:=@Heap.get?_push_of_some
def MM:=@Array.toList_append
def MN:=@Nat.lt_of_lt_of_le
def MO:=@Nat.ne_of_lt
def MP:=@List.getElem?_eq_getElem
def MQ:=@List.getElem?_map
def MR:=@List.mem_singleton
def MS:=@List.mem_map
def MT:=@List.length_range
def MU:=@of_decide_eq_true
def MV:=@List.length_append
def MW:=@List.length_cons
def MX:=@wpS_modify
def MY:=@List.length_set
def MZ:=@Nat.le_trans
def Ma:=@List.mem_of_getElem?
def Mb:=@List.map_cons
def Mc:=@List.append_assoc
def Me:=@wpAny_mono
def Mf:=@Array.getElem?_toList
def Mh:=@Array.length_toList
def Mi:=@List.lookup_cons
def Mj:=@List.mem_flatMap
def Mk:=@List.getElem?_eq_none
def Ml:=@wpAny_rule
def Mm:=@Nat.lt_irrefl
def Mn:=@Heap.get?_push_size
def Mp:=@wpS_lift
def Mq:=@Nat.zero_le
def Mr:=@List.map_append
def Ms:=@decide_eq_false
def Mt:=@List.mem_append_right
def Mu:=@List.map_map
def Mv:=@Nat.lt_or_ge
def Mw:=@Heap.get?_update_other
def Mx:=@wpAny_holding
def Mz:=@List.length_take
def N1:=@mg_none_of
def N2:=@List.getElem?_eq_some_iff
def N3:=@PySem.W.kia_one
def N4:=@List.nodup_cons
def N5:=@List.length_replicate
def N6:=@List.getD_eq_getElem?_getD
def N7:=@List.pairwise_append
def N8:=@Nat.le_of_eq
def N9:=@Array.getElem?_eq_getElem
def NC:=@Array.toList_reverse
def ND:=@decide_eq_true_eq
def NF:=@List.nodup_range
def NG:=@PassesOwn.leaving
def NH:=@List.mem_range
def NI:=@List.append_nil
def NJ:=@List.getElem?_append_right
def NK:=@List.not_mem_nil
def NL:=@List.Perm.append_left
def NN:=@List.getElem?_range
def NO:=@True.intro
def NP:=@wpAny_field
def NQ:=@List.any_cons
def NR:=@Array.getElem?_eq_some_iff
def NS:=@List.getElem?_of_mem
def NT:=@List.take_length
def NU:=@Nat.zero_add
def NV:=@Bool.eq_iff_iff
def NW:=@List.getElem?_append_left
def NX:=@List.perm_append_comm
def NY:=@Array.toList_push
def NZ:=@List.mem_reverse
def Na:=@List.getElem_mem
def Nb:=@Bool.or_eq_true
def Nc:=@List.ext_getElem?
def Nd:=@List.getElem?_set
def Nf:=@List.filterMap_cons
def Ng:=@List.getElem?_set_self
def Nh:=@List.getElem?_set_ne
def Ni:=@wpAny_passesOwn
def Nj:=@eq_of_beq
def Nk:=@wpAny_newObj_type
def Nl:=@List.replicate_succ
def Nm:=@call_meets
def Nn:=@decide_eq_true
def Np:=@Option.map_eq_some_iff
def Nq:=@listItems_at
def Nr:=@Int.ofNat_lt
def Nt:=@Nat.le_of_lt
def Nu:=@Nat.ne_of_gt
def Nv:=@List.length_drop
def Ny:=@List.flatten_cons
def Nz:=@Nat.le_succ
def O0:=@List.find?_cons
def O1:=@List.take_of_length_le
def O3:=@List.drop_of_length_le
def O4:=@Array.perm_iff_toList_perm
def O5:=@Array.getElem?_extract
def O6:=@intKind_is
def O7:=@listUpdate_at
def O8:=@seqEpoch_at
def O9:=@Nat.lt_succ_of_lt
def OA:=@List.pairwise_iff_getElem
def OB:=@Nat.not_lt_zero
def OC:=@List.map_congr_left
def OD:=@PySem.F.plainAttrs_list
def OF:=@PySem.F.slot_list_append
def OG:=@PySem.F.type_list_append
def OH:=@Nat.min_eq_left
def OI:=@Nat.min_eq_right
def OJ:=@List.contains_eq_mem
def OL:=@List.mem_filter
def OM:=@wpAny_execs_nil
def ON:=@wpAny_truthy_bool
def OO:=@codeAny_mono
def OP:=@List.of_mem_zip
def OQ:=@PySem.mem_of_lookup
def OR:=@wpAny_typeOf
def OS:=@Heap.get?_update_self
def OT:=@List.Perm.append_right
def OU:=@Nat.add_sub_cancel_left
def OV:=@List.drop_zero
def OW:=@Array.toList_zip
def OX:=@List.Perm.swap
def OY:=@Heap.size_push
def OZ:=@List.pairwise_map
def Oa:=@List.Pairwise.imp_of_mem
def Ob:=@Bool.not_eq_true'
def Oc:=@List.contains_iff_mem
def Od:=@Nat.le_total
def Oe:=@Int.emod_nonneg
def Of:=@Int.emod_lt_of_pos
def Og:=@List.eq_nil_of_length_eq_zero
def Oi:=@Heap.get?_none_of_le
def Oj:=@PyProof.Rows.callWith_type1
def Ol:=@wpAny_Call_Name_kw
def Oo:=@PyProof.Rows.slot_tuple_getitem
def Oq:=@wpAny_call_entry
def Ot:=@List.map_nil
def Ou:=@List.eraseIdx_cons_succ
def Ov:=@tupleKind_room_in1
def Ow:=@wpAny_attempt
def Ox:=@wpAny_setField
def Oz:=@Array.toList_setIfInBounds
def P0:=@Array.size_extract
def P1:=@Nat.add_zero
def P4:=@Array.toList_modify
def P5:=@wpAny_newList
def P6:=@List.map_snd_zip
def P7:=@bne_self_eq_false
def P8:=@Bool.false_eq_true
def P9:=@Nat.lt_succ_self
def PC:=@List.pairwise_reverse
def PD:=@decide_eq_false_iff_not
def PF:=@List.find?_cons_of_pos
def PJ:=@List.find?_cons_of_neg
def PK:=@List.drop_length
def PM:=@List.cons.injEq
def PN:=@List.Sublist.nodup
def PR:=@List.nodup_append
def PU:=@List.pairwise_cons
def PV:=@List.contains_cons
def PX:=@wpAny_pyIter_list
def PY:=@List.mem_filterMap
def PZ:=@Array.find?_toList
def Pa:=@PySem.W.kitx_list
def Pc:=@Option.isSome_iff_exists
def Pd:=@List.getElem?_replicate
def Pe:=@Nat.min_le_right
def Pf:=@Option.isSome_map
def Pg:=@beq_self_eq_true
def Ph:=@Option.bind_some
def Pj:=@Obj.data_mapFields
def Pk:=@Obj.isFreed_of_fields
def Pn:=@Array.toList_extract
def Po:=@List.extract_eq_take_drop
def Pp:=@List.take_append_drop
def Pq:=@List.reverse_perm
def Pu:=@Array.toList_eraseIdxIfInBounds
def Pw:=@Array.toList_map
def Px:=@List.getElem?_drop
def Py:=@PyProof.Rows.boot_list
def Pz:=@wpAny_comprehension_free
def Q0:=@PyProof.Rows.boot_sorted
def Q2:=@PyProof.Rows.boot_isinstance
def Q3:=@List.filterMap_append
def Q4:=@Nat.lt_trichotomy
def Q5:=@List.filter_sublist
def Q6:=@PyProof.Rows.slot_tuple_getitem.lookup
def Q7:=@List.eraseIdxIfInBounds_toArray
end
noncomputable section
namespace PySem.W.Fast
def tw5497191294544926816:=Nat
def tw2170563290720611237:=Nat
def tw11462776902835665701:=Nat
def tw16294751863501297835:=Nat
def tw7397933612162839214:=Nat
def tw5123001652121807131:=Nat
def tw1163361359835107998:=Nat
def tw219231053661200293:=Nat
def tw2568854701700427765:=Nat
def tw10176348918371288035:=Nat
def tw9373451508370795086:=Nat
def tw1238495629315947148:=Nat
def tw83841990833028383:=Nat
def tw6316946976714547084:=Nat
def tw12257193714723011032:=Nat
def tw13406728853009043989:=Nat
def tw4094173294280714997:=Nat
def tw8612269657520714236:=Nat
def tw6558609667597604669:=Nat
def tw600608752529753712:=Nat
def tw6288888323624031959:=Nat
def tw11185761669994336687:=Nat
def tw12726672779016003666:=Nat
def tw17869499834776730569:=Nat
def tw11456657479020673955:=Nat
def tw9117598120363814466:=Nat
def tw13050203178416365534:=Nat
def tw17199884819219678747:=Nat
def tw10060020499323112366:=Nat
def tw5876723338228153766:=Nat
def tw5553811465989968467:=Nat
def tw6240797035125222733:=Nat
def tw15547095948147345922:=Nat
def tw1618083107771614549:=Nat
def tw7279017395268231422:=Nat
def tw6969318617897305609:=Nat
def tw8945871975878248173:=Nat
def tw923077073544901995:=Nat
def tw5791245078104999487:=Nat
def tw18400733835026936862:=Nat
def tw13715529337683407383:=Nat
def tw18197102435543436553:=Nat
def tw15277963392216161565:=Nat
def tw3454608788685320915:=Nat
def tw509262388243586435:=Nat
def tw12783668429066504129:=Nat
def tw17292503567811740163:=Nat
def tw9556338696122826372:=Nat
def tw8370509481521437373:=Nat
def tw13885950610382412858:=Nat
def tw9043693649022228358:=Nat
def tw17518662912362077865:=Nat
def tw11223928279074569838:=Nat
def tw5648467417043903839:=Nat
def tw8609804556801595618:=Nat
def tw14930552580526219920:=Nat
def tw3387603145678482909:=Nat
def tw11922522757624869684:=Nat
def tw724168716813779528:=Nat
def tw10793443702837978832:=Nat
def tw7120560948285662102:=Nat
def tw15676254223634262558:=Nat
def tw17988301108010823524:=Nat
def tw8941028395002118455:=Nat
def tw13100804198356412316:=Nat
def tw15772696535484179472:=Nat
def tw17820945481199806787:=Nat
def tw2402070007809221340:=Nat
def tw8803052179923394691:=Nat
def tw17738447218845580309:=Nat
def tw5177095727909515882:=Nat
def tw8484315073236514159:=Nat
def tw6440370677480186755:=Nat
def tw12435763483413795518:=Nat
def tw14188100620917231217:=Nat
def tw7779708826180424705:=Nat
def tw13760102130978678937:=Nat
def tw14389933780003637660:=Nat
def tw5012637877331168069:=Nat
def tw1029546153877365669:=Nat
def tw10642421968038665493:=Nat
def tw2931449075211824435:=Nat
def tw14347686755102394416:=Nat
def tw14464160933640840533:=Nat
def tw5985998462703092041:=Nat
def tw2034804796347382164:=Nat
def tw16676826805223123136:=Nat
def tw8818047671997176716:=Nat
def tw17799393424793632561:=Nat
def tw8330072078021156427:=Nat
def tw4110296516835054065:=Nat
def tw8394560129102034722:=Nat
def tw11863253061409216271:=Nat
def tw9690489330235857000:=Nat
def tw9418823905018009816:=Nat
def tw14638629413977663191:=Nat
def tw5880542282185949632:=Nat
def tw1655022001804102087:=Nat
def tw12288335521869138169:=Nat
def tw17024937020479452403:=Nat
def tw12741334635495717858:=Nat
def tw8313942948605386426:=Nat
def tw8910274527471998410:=Nat
def tw8332260482943242940:=Nat
def tw10317981239786884557:=Nat
def tw7531759200175964663:=Nat
def tw17751308291689254460:=Nat
def tw7270237515186191863:=Nat
def tw17552068634063595814:=Nat
def tw7303908260345917572:=Nat
def tw8704544130950980784:=Nat
def tw13119205796134277479:=Nat
def tw6422922827485914834:=Nat
def tw14122910290754840376:=Nat
def tw14989159484957613037:=Nat
def tw3399371161389650107:=Nat
def tw4069489980146836033:=Nat
def tw14341879796655491163:=Nat
def tw9734575326221431576:=Nat
def tw17206781088181613706:=Nat
def tw13246208010224809345:=Nat
def tw18274866957450922064:=Nat
def tw13686537859298433709:=Nat
def tw1100308933109669874:=Nat
def tw16609242155552308614:=Nat
def tw4584442304506980203:=Nat
def tw5284824994318719660:=Nat
def tw6975575253406791605:=Nat
def tw8988186412929055432:=Nat
def tw9247417146935459885:=Nat
def tw4069995537593129376:=Nat
def tw6888450076241237148:=Nat
def tw5796843163452237450:=Nat
def tw8437692810269512288:=Nat
def tw18041618596235707690:=Nat
def tw403502292013651299:=Nat
def tw11916767499278413268:=Nat
def tw12002911363031894022:=Nat
def tw17762804581875704782:=Nat
def tw2813983896197055503:=Nat
def tw3990438839300583621:=Nat
def tw4231309826028175698:=Nat
def tw4456023639317862580:=Nat
def tw6554651869105108710:=Nat
def tw10972475721269558749:=Nat
def tw11616578630866322067:=Nat
def tw13767066563622766362:=Nat
def tw14670747415205160802:=Nat
def tw1689096007449728212:=Nat
def tw5038088680118581973:=Nat
def tw7802364037897327584:=Nat
def tw3917347120391125096:=Nat
def tw10841599485081598811:=Nat
def tw16970186188204675080:=Nat
def tw2160425459805071533:=Nat
def tw5358901902463373917:=Nat
def tw7232998654583069651:=Nat
def tw9878718571900944724:=Nat
def tw10462027540326854285:=Nat
def tw15166184069746298574:=Nat
end PySem.W.Fast
set_option Elab.async false
set_option linter.all false
set_option maxHeartbeats 4000000
set_option maxRecDepth 100000
namespace Dv
open PySem
inductive Kd where
 |sh|ow (p:Bool)|dp (p:Bool)|dk (p:Bool)|dt (p:Bool)|st (p:Bool)
 deriving DecidableEq
def jm(n:Nat) (i:Int):Option Nat:=if 0<=i then(if i<n then some i.toNat else none)else if-(n:Int)<=i then some (i+n).toNat else none
def lF:PyData->Bool
 |.int _ | .str _=>true
 |_=>false
instance L7:DecidableEq PyData:=λa b=>Classical.propDecidable (a=b)
def cJ(kvs:QA)(k:PyData):Option PyData:=(kvs.find? λkv=>decide (kv.1=k)).map (·.2)
def putD(kvs:QA)(k v:PyData):QA:=if(kvs.any λkv=>decide (kv.1=k))=true then kvs.map (λkv=>if kv.1=k then(kv.1,v)else kv)else kvs++[(k,v)]
def hi0:Nat:=0
def hi1:Nat:=hi0
def hi2:Nat:=hi1
def LX:Nat:=hi2
def LY:Nat:=LX
def L5:Nat:=LY
def LK:Nat:=L5
def Ly:Nat:=LK
def LD:Nat:=Ly
def LO:Nat:=LD
def KW:Nat:=LO
def K5:Nat:=KW
def iK:Nat:=K5
abbrev En:=List (Option (Kd×PyData))
abbrev QZ:=En->Kd->PyData->Prop
abbrev Qa:=List (Option PyData)
abbrev Qc:=Option (Kd×PyData)
abbrev Qd:=Kd->PyData->Prop
abbrev Qg:=En->Bool->Prop
abbrev Qh:=En->Prop
abbrev XC:=Str->PyData->Prop
abbrev xF:XC:=λ_ _=>False
abbrev DE:=XC->En->(QZ)->Prop
abbrev DT:=XC->En->(Qg)->Prop
abbrev DI:=XC->En->(En->QM->Prop)->Prop
structure eB where
 nx:Qh
 rt:QZ
 xc:XC
abbrev DS:=eB->En->Prop
abbrev cy:=QM->(QM->Kd->PyData->Prop)->XC->Prop
def lf:PyData->Bool
 |.none | .bool _ | .int _ | .str _=>true
 |.tuple ds=>lfs ds
 |.list _ | .dict _=>false
where lfs:QM->Bool
 |[]=>true
 |d::ds=>lf d&&lfs ds
theorem qO:∀ds:QM,lf.lfs ds=ds.all lf
 |[]=>by rw[lf.lfs];rfl
 |d::ds=>by rw[lf.lfs,qO ds];rfl
def vM:PyData->Bool
 |.list _=>true
 |_=>false
def flat:Kd->PyData->Bool
 |.sh,d=>lf d
 |.ow _,.list ds=>ds.all lf
 |.dp _,.list ds=>ds.all λd=>match d with | .list es=>es.all lf|d=>lf d
 |.dk _,.dict kvs=>kvs.all λkv=>lf kv.2
 |.dt _,.dict kvs=>kvs.all λkv=>lf kv.2
 |_,_=>false
def Kd.fz:Kd->Bool
 |.sh | .ow false | .dp false | .dk false | .dt false=>true
 |_=>false
def Kd.rd:Kd->Bool
 |.st _=>false
 |_=>true
def Kd.pin:Kd->Bool
 |.ow p | .dp p | .dk p | .dt p | .st p=>p
 |.sh=>false
def cG(E:En) (i:Nat):Option En:=match E[i]? with
 |some (some (k,d))=>if k.fz then some (E.set i (some (.sh,d)))else none
 |_=>none
def cS:QW->En->Option En
 |[],E=>some E
 |i::r,E=>(cG E i).bind (cS r)
inductive Arg where
 |pk (i:Nat)|ev (d:DE)
def eX:List Arg->QW
 |[]=>[]
 |.pk i::r=>i::eX r
 |.ev _::r=>eX r
def here(E:En) (i:Nat):Bool:=match E[i]? with
 |some (some _)=>true
 |_=>false
def fill:List Arg->En->List (Option PyData)->Option (QM)
 |[],_,[]=>some []
 |.pk i::r,E,none::os=>match E[i]? with
  |some (some (k,d))=>if k.rd then(fill r E os).map (d::·)else none
  |_=>none
 |.ev _::r,E,some v::os=>(fill r E os).map (v::·)
 |_,_,_=>none
def fS(E:En) (i:Nat):Bool:=match E[i]? with
 |some (some (.sh,_))=>true
 |_=>false
theorem vc{E:En}:∀{is:QW},is.all (fS E)=true->cS is E=some E
 |[],_=>rfl
 |i::r,h=>by
  rw[MG,MA]at h;have e:cG E i=some E:=by
   have h1:=h.1;unfold fS at h1;unfold cG;split at h1
   .rename_i d e;rw[e];show some (E.set i (some (.sh,d)))=some E;congr 1;refine Nc λj=>?_;rw[Nd];by_cases c:i=j
    .subst c;rw[if_pos rfl,e];have l:i<E.length:=by rcases Mv i E.length with z|z;{exact z};rw[Mk z]at e;cases e
     rw[if_pos l]
    rw[if_neg c]
   cases h1
  show(cG E i).bind (cS r)=some E;rw[e];exact vc h.2
def KH(as:List Arg)(E:En)(k:Kd)(v:PyData):Option En:=if((eX as).all (fS E)||flat k v)=true then some E else cS (eX as) E
def t9{is:QW}{E E2:En}{b:Bool}(h:(if(is.all (fS E)||b)=true then some E else cS is E)=some E2):(if b=true then some E else cS is E)=some E2:=by
 cases hs:is.all (fS E)with
 |true=>rw[hs,Bool.true_or,if_pos rfl]at h;rw[vc hs,h,ite_self]
 |false=>rw[hs,Bool.false_or]at h;exact h
abbrev DR:=QM->(Qd)->Prop
def dC(v:PyData):DE:=λ_ E Q=>(λ_:Nat=>Q E .sh v) iK
def nZ:QT->List Arg->QM->En->Option En
 |[],[],[],E=>some E
 |false::ms,_::r,us,E=>nZ ms r us E
 |true::ms,.pk i::r,u::us,E=>match E[i]? with
  |some (some (.ow p,.list _))=>if vM u then nZ ms r us (E.set i (some (.ow p,u)))else none
  |_=>none
 |_,_,_,_=>none
def lent:QT->List Arg->QW
 |true::ms,.pk i::r=>i::lent ms r
 |_::ms,_::r=>lent ms r
 |_,_=>[]
def kept:QT->List Arg->QW
 |false::ms,.pk i::r=>i::kept ms r
 |_::ms,_::r=>kept ms r
 |_,_=>[]
def shape:QT->List Arg->Bool
 |[],[]=>true
 |true::ms,.pk _::r=>shape ms r
 |false::ms,_::r=>shape ms r
 |_,_=>false
def vf(ms:QT)(as:List Arg)(E:En):Bool:=shape ms as&&decide (lent ms as).Nodup&&(lent ms as).all (λi=>!(kept ms as).contains i&&(match E[i]? with|some (some (.ow _,.list _))=>true|_=>false))
def Ik(ms:QT)(as:List Arg)(us:QM)(E:En)(k:Kd)(v:PyData):Option En:=if((kept ms as).all (fS E)||(flat k v&&us.all (flat (.ow false))))=true then some E else cS (kept ms as) E
def jF:PyData->Option Bool
 |.bool b=>some b
 |.int i=>some (!decide (i=0))
 |.none=>some false
 |.str _=>none
 |.list ds=>some !ds.isEmpty
 |.tuple ds=>some !ds.isEmpty
 |.dict _=>none
def Gs(d:DE):DT:=λx E Q=>d x E λE' _ v=>∃b,jF v=some b/\Q E' b
def Dg(t:DT):DT:=λx E Q=>(λ_:Nat=>t x E λE' b=>Q E' (!b)) iK
def Gk(a b:DE):DE:=λx E Q=>a x E λE1 _ v=>∃c,v=.bool c/\if c=true then b x E1 Q else Q E1 .sh (.bool false)
def Ks(a b:DE):DE:=λx E Q=>a x E λE1 _ v=>∃c,v=.bool c/\if c=true then Q E1 .sh (.bool true)else b x E1 Q
def Gy(a:DE):DE:=λx E Q=>a x E λE1 _ v=>∃c,jF v=some c/\Q E1 .sh (.bool !c)
def z9(f f':QG)(a b c:DE):DE:=λx E Q=>a x E λE1 _ u=>∃i,u=.int i/\b x E1 λE2 _ v=>∃j,v=.int j/\if f i j=true then c x E2 λE3 _ w=>∃k,w=.int k/\Q E3 .sh (.bool (f' j k))else Q E2 .sh (.bool false)
def Kq(c:DT)(a b:DE):DE:=λx E Q=>c x E λE1 t=>if t=true then a x E1 Q else b x E1 Q
def er:DS:=λD E=>(λ_:Nat=>D.nx E) iK
def aC(a b:DS):DS:=λD E=>(λ_:Nat=>a { D with nx:=b D } E) iK
def qW(a b:DS):DS:=λD E=>∃J:Qh,a { D with nx:=J } E/\∀E',J E'->b D E'
def Ho(c:DT)(a b:DS):DS:=λD E=>c D.xc E λE1 t=>if t=true then a D E1 else b D E1
def aW(E:En) (i:Nat):Bool:=match E[i]? with
 |some (some (k,_))=>!k.pin
 |some none=>true
 |none=>false
def Ip(i:Nat)(e:DE):DS:=λD E=>e D.xc E λE' k v=>aW E' i=true/\D.nx (E'.set i (some (k,v)))
inductive Tg where
 |nm (i:Nat)|tp (is:QW)
def Tg.slots:Tg->QW
 |.nm i=>[i]
 |.tp is=>is
def bC:QW->QM->En->Option En
 |[],[],E=>some E
 |i::is,d::ds,E=>if aW E i then bC is ds (E.set i (some (.sh,d)))else none
 |_,_,_=>none
def bW:Tg->PyData->En->Option En
 |.nm i,d,E=>bC [i] [d] E
 |.tp is,.tuple ds,E=>bC is ds E
 |_,_,_=>none
def cH(e:DE):DS:=λD E=>(λ_:Nat=>e D.xc E D.rt) iK
def gI(E:En) (i:Nat):Bool:=match E[i]? with
 |some (some (.ow _,.list _))=>true
 |_=>false
abbrev DM:=QM->QM->(QM->PyData->Prop)->Prop
def kE:QA->Bool
 | (.none,_)::_=>false
 |_=>true
def tS(most:Nat) (i:Nat)(e:DE):DS:=λD E=>gI E i=true/\e D.xc E λE1 k v=>k.fz=true/\∃p ds es,E1[i]?=some (some (.ow p,.list ds))/\v=.list es/\ds.length+es.length<=most/\D.nx (E1.set i (some (.ow p,.list (ds++es))))
def uE(f:DM) (i:Nat)(j:DE) (n:Nat):DE:=λx E Q=>here E i=true/\j x E λE1 _ w=>∃a p ds m es k d E2,w=.int a/\E1[i]?=some (some (.dp p,.list ds))/\jm ds.length a=some m/\ds[m]?=some (.list es)/\E1[n]?=some (some (k,d))/\i≠n/\cG E1 n=some E2/\f es [d] λnew v=>Q (E2.set i (some (.dp p,.list (ds.set m (.list new))))) .sh v
def qx(c:Str):DS:=λD _=>(λ_:Nat=>D.xc c .none) iK
def iV(e:DE):DS:=λD E=>(λ_:Nat=>e D.xc E λE' _ _=>D.nx E') iK
def gW(it:DI)(tg:Tg)(b:DS):DS:=λD E=>(λ_:Nat=>it D.xc E λE1 xs=>∃I:Nat->En->Prop,I 0 E1/\(∀i d E,xs[i]?=some d->I i E->∃E2,bW tg d E=some E2/\b { D with nx:=I (i+1) } E2)/\∀E,I xs.length E->D.nx E) iK
def tw(c:DT)(b:DS):DS:=λD E=>∃W:Nat->En->Prop,(∃m,W m E)/\∀m E,W m E->c D.xc E λE1 t=>if t=true then b { D with nx:=λE'=>∃m',m'<m/\W m' E' } E1 else D.nx E1
def items:PyData->Option (QM)
 |.list ds=>some ds
 |.tuple ds=>some ds
 |_=>none
def oE(e:DE):DI:=λx E Q=>e x E λE' k v=>k.fz=true/\∃ds,items v=some ds/\Q E' ds
def g9(ds:QM):QM:=ds.zipIdx.map λp=>.tuple [.int p.2,p.1]
def KA(e:DE):DI:=λx E Q=>e x E λE' k v=>k.fz=true/\∃ds,v=.list ds/\Q E' (g9 ds)
def aV:QW->En->Option En
 |[],E=>some E
 |i::r,E=>if aW E i then aV r (E.set i none)else none
abbrev DC:=XC->QM->En->(QM->En->Prop)->Prop
def gR:DT:=λ_ E Q=>(λ_:Nat=>Q E true) iK
def dg(most:Nat)(e:DE):DC:=λx ys E Q=>e x E λE1 k v=>k.fz=true/\ys.length<most/\Q (ys++[v]) E1
def KJ(it:DI)(tg:Tg)(c:DT)(r:DC):DC:=λx ys E Q=>(λ_:Nat=>it x E λE1 xs=>∃I:Nat->QM->En->Prop,I 0 ys E1/\(∀i d ys E,xs[i]?=some d->I i ys E->∃E2,bW tg d E=some E2/\c x E2 λE3 b=>if b=true then r x ys E3 (I (i+1))else I (i+1) ys E3)/\∀ys E,I xs.length ys E->Q ys E) iK
def cW(cs:QW)(it:DI)(tg:Tg)(c:DT)(r:DC):DE:=λx E Q=>(λ_:Nat=>it x E λE1 xs=>∃(E0:En)(I:Nat->QM->En->Prop),aV cs E1=some E0/\I 0 [] E0/\(∀i d ys E,xs[i]?=some d->I i ys E->∃E2,bW tg d E=some E2/\c xF E2 λE3 b=>if b=true then r xF ys E3 (I (i+1))else I (i+1) ys E3)/\∀ys E,I xs.length ys E->∃E2,aV cs E=some E2/\Q E2 (.ow false) (.list ys)) iK
def jq(most:Nat)(cs:QW)(it:DI)(tg:Tg)(c:DT)(e:DE):DE:=λx E Q=>(λ_:Nat=>it x E λE1 xs=>∃(E0:En)(I:Nat->QM->En->Prop),aV cs E1=some E0/\I 0 [] E0/\(∀i d ys E,xs[i]?=some d->I i ys E->∃E2,bW tg d E=some E2/\c xF E2 λE3 b=>if b=true then e xF E3 (λE4 k v=>(∃p,k=.ow p)/\ys.length<most/\I (i+1) (ys++[v]) E4)else I (i+1) ys E3)/\∀ys E,I xs.length ys E->∃E2,aV cs E=some E2/\Q E2 (.dp false) (.list ys)) iK
def iS(lo:Int) (n:Nat):QM:=(List.range n).map λi:Nat=>PyData.int (lo+i)
def aq{α:Type}(o:Option α)(Q:α->Prop):Prop:=match o with
 |some a=>Q a
 |none=>False
def cC{α:Sort u}(b:Bool)(x y:α):α:=match b with
 |true=>x
 |false=>y
def bR:Qc->Bool
 |some (k,_)=>!k.pin
 |none=>true
def gA(E:En) (i:Nat):Bool:=match E[i]? with
 |some o=>bR o
 |none=>false
def bK(b:Bool)(P:Prop):Prop:=match b with
 |true=>P
 |false=>False
def gE:List Arg->XC->En->(En->List (Option PyData)->Prop)->Prop
 |[],_,E,Q=>Q E []
 |.pk i::r,x,E,Q=>bK (here E i) (gE r x E λE' os=>Q E' (none::os))
 |.ev d::r,x,E,Q=>d x E λE1 k v=>bK k.fz (gE r x E1 λE' os=>Q E' (some v::os))
def oK(E:En) (i:Nat):Option En:=match E[i]? with
 |some (some (k,d))=>cC k.fz (some (E.set i (some (.sh,d)))) none
 |_=>none
def ic:QW->En->Option En
 |[],E=>some E
 |i::r,E=>(oK E i).bind (ic r)
def bS:List Arg->En->List (Option PyData)->Option (QM)
 |[],_,[]=>some []
 |.pk i::r,E,none::os=>match E[i]? with
  |some (some (k,d))=>cC k.rd ((bS r E os).map (d::·)) none
  |_=>none
 |.ev _::r,E,some v::os=>(bS r E os).map (v::·)
 |_,_,_=>none
def oR(as:List Arg)(E:En)(k:Kd)(v:PyData):Option En:=cC ((eX as).all (fS E)||flat k v) (some E) (ic (eX as) E)
def zG(E:En) (i:Nat)(Q:QZ):Prop:=match E[i]? with
 |some (some (_,d))=>aq (oK E i) λE'=>Q E' .sh d
 |_=>False
def ve(r:DR)(as:List Arg)(E:En)(os:Qa)(Q:QZ):Prop:=aq (bS as E os) λds=>r ds λk v=>aq (oR as E k v) λE2=>Q E2 k v
def jT(i:Nat):QW->Bool
 |[]=>false
 |j::r=>i==j||jT i r
def mF:QW->QW->En->Bool
 |[],_,_=>true
 |i::r,ks,E=>(!jT i ks&&!jT i r&&gI E i)&&mF r ks E
def qi(ms:QT)(as:List Arg)(E:En):Bool:=shape ms as&&mF (lent ms as) (kept ms as) E
def iF:QT->List Arg->QM->En->Option En
 |[],[],[],E=>some E
 |false::ms,_::r,us,E=>iF ms r us E
 |true::ms,.pk i::r,u::us,E=>match E[i]? with
  |some (some (.ow p,.list _))=>cC (vM u) (iF ms r us (E.set i (some (.ow p,u)))) none
  |_=>none
 |_,_,_,_=>none
def pK(ms:QT)(as:List Arg)(us:QM)(E:En)(k:Kd)(v:PyData):Option En:=cC ((kept ms as).all (fS E)||(flat k v&&us.all (flat (.ow false)))) (some E) (ic (kept ms as) E)
def yP(ms:QT)(as:List Arg)(E:En)(us:QM)(k:Kd)(v:PyData)(Q:QZ):Prop:=aq (iF ms as us E) λE2=>aq (pK ms as us E2 k v) λE3=>Q E3 k v
def z8(sp:cy)(ms:QT)(as:List Arg)(x:XC)(E:En)(os:Qa)(Q:QZ):Prop:=aq (bS as E os) λds=>bK (qi ms as E) (sp ds (λus k v=>yP ms as E us k v Q) x)
def qd(v:PyData)(Q:Bool->Prop):Prop:=aq (jF v) Q
def zW(E:En) (i:Nat)(Q:Qg):Prop:=match E[i]? with
 |some (some (k,d))=>bK k.rd (qd d (Q E))
 |_=>False
def wM(v:PyData)(Q:Bool->Prop):Prop:=match v with
 |.bool b=>Q b
 |_=>False
def nJ(v:PyData)(Q:Int->Prop):Prop:=match v with
 |.int i=>Q i
 |_=>False
def Di(v:PyData)(Q:QM->Prop):Prop:=aq (items v) Q
def rK(v:PyData)(Q:QM->Prop):Prop:=match v with
 |.list xs=>Q xs
 |_=>False
def AV(E:En) (i:Nat)(Q:QZ):Prop:=match E[i]? with
 |some (some (k,d))=>bK (!k.pin) (Q (E.set i none) k d)
 |_=>False
def yO(f:DM) (i:Nat)(as:List Arg)(E:En)(os:Qa)(Q:QZ):Prop:=aq (bS as E os) λargs=>match E[i]? with
 |some (some (.ow p,.list ds))=>f ds args λnew v=>Q (E.set i (some (.ow p,.list new))) .sh v
 |_=>False
def GV(f:Int->Int->Int)(E:En) (i:Nat)(v:PyData)(Q:Qh):Prop:=match E[i]? with
 |some (some (_,.int a))=>nJ v λb=>Q (E.set i (some (.sh,.int (f a b))))
 |_=>False
def stK:QW->QM->En->Option En
 |[],[],E=>some E
 |i::is,d::ds,E=>cC (gA E i) (stK is ds (E.set i (some (.sh,d)))) none
 |_,_,_=>none
def Dw(is:QW)(v:PyData)(E:En)(Q:Qh):Prop:=match v with
 |.tuple ds=>aq (stK is ds E) Q
 |_=>False
def tY(n:Nat) (i:Int):Option Nat:=match i with
 |.ofNat k=>cC (Nat.blt k n) (some k) none
 |.negSucc k=>jm n (.negSucc k)
def eg(i:Nat):DE:=λ_ E Q=>zG E i Q
def aa(r:DR)(as:List Arg):DE:=λx E Q=>gE as x E λE1 os=>ve r as E1 os Q
def aU(sp:cy)(ms:QT)(as:List Arg):DE:=λx E Q=>gE as x E λE1 os=>z8 sp ms as x E1 os Q
def cF(d:DE):DT:=λx E Q=>d x E λE' _ v=>qd v (Q E')
def CQ(i:Nat):DT:=λ_ E Q=>zW E i Q
def nY(a b:DE):DE:=λx E Q=>a x E λE1 _ v=>wM v λc=>cC c (b x E1 Q) (Q E1 .sh (.bool false))
def rT(a b:DE):DE:=λx E Q=>a x E λE1 _ v=>wM v λc=>cC c (Q E1 .sh (.bool true)) (b x E1 Q)
def qL(a:DE):DE:=λx E Q=>a x E λE1 _ v=>qd v λc=>Q E1 .sh (.bool !c)
def lW(f f':QG)(a b c:DE):DE:=λx E Q=>a x E λE1 _ u=>nJ u λi=>b x E1 λE2 _ v=>nJ v λj=>cC (f i j) (c x E2 λE3 _ w=>nJ w λk=>Q E3 .sh (.bool (f' j k))) (Q E2 .sh (.bool false))
def Ab(c:DT)(a b:DE):DE:=λx E Q=>c x E λE1 t=>cC t (a x E1 Q) (b x E1 Q)
def c7(c:DT)(a b:DS):DS:=λD E=>c D.xc E λE1 t=>cC t (a D E1) (b D E1)
def bu(i:Nat)(e:DE):DS:=λD E=>e D.xc E λE' k v=>bK (gA E' i) (D.nx (E'.set i (some (k,v))))
def qS(is:QW)(e:DE):DS:=λD E=>e D.xc E λE' k v=>bK k.fz (Dw is v E' D.nx)
def kR(i:Nat):DS:=λD E=>AV E i D.rt
def uo(f:DM) (i:Nat)(es:List DE):DE:=λx E Q=>bK (gI E i) (gE (es.map .ev) x E λE1 os=>yO f i (es.map .ev) E1 os Q)
def jS(i:Nat)(j:DE)(e:DE):DS:=λD E=>e D.xc E λE1 k v=>bK k.fz (bK (here E1 i) (j D.xc E1 λE2 k2 w=>bK k2.fz (setI E2 i w v D.nx)))
where setI (E:En) (i:Nat)(w v:PyData)(Q:Qh):Prop:=match E[i]?,w with
 |some (some (.ow p,.list ds)),.int a=>aq (tY ds.length a) λn=>Q (E.set i (some (.ow p,.list (ds.set n v))))
 |some (some (.dk p,.dict kvs)),w=>(lF w=true/\kvs.length<16777216)/\Q (E.set i (some (.dk p,.dict (putD kvs w v))))
 |some (some (.dt p,.dict (_::kvs))),.tuple ks=>(ks.all lF=true/\kvs.length<16777216)/\Q (E.set i (some (.dt p,.dict ((.none,.none)::putD kvs (.tuple ks) v))))
 |_,_=>False
def Lu(f:Int->Int->Int) (i:Nat)(e:DE):DS:=λD E=>bK (here E i) (e D.xc E λE1 _ v=>GV f E1 i v D.nx)
def iE(e:DE):DI:=λx E Q=>e x E λE' k v=>bK k.fz (Di v λds=>Q E' ds)
def lJ(g:QM->Option (QM))(as:List Arg):DI:=λx E Q=>gE as x E λE1 os=>aq (bS as E1 os) λds=>aq (g ds) λxs=>Q E1 xs
def w4(e:DE):DI:=λx E Q=>e x E λE' k v=>bK k.fz (rK v λds=>Q E' (g9 ds))
def LV(a b:DE):DI:=λx E Q=>a x E λE1 k v=>bK k.fz (b x E1 λE2 k2 v2=>bK k2.fz (rK v λds=>rK v2 λes=>Q E2 ((ds.zip es).map λp=>.tuple [p.1,p.2])))
def aR{α:Type}{o:Option α}{Q:α->Prop}:(∃a,o=some a/\Q a)=aq o Q:=by
 cases o with
 |none=>exact propext ⟨λ⟨a,e,_⟩=>(by cases e),λh=>h.elim⟩
 |some a=>exact propext ⟨λ⟨b,e,q⟩=>by cases e;exact q,λh=>⟨a,rfl,h⟩⟩
def bY{b:Bool}{P:Prop}:bK b P=(b=true/\P):=by
 cases b with
 |true=>exact propext ⟨λh=>⟨rfl,h⟩,λh=>h.2⟩
 |false=>exact propext ⟨λh=>h.elim,λh=>by cases h.1⟩
universe u
def bJ{α:Sort u}{b:Bool}{x y:α}:cC b x y=if b=true then x else y:=by cases b<;>rfl
def wk{E:En}{i:Nat}:oK E i=cG E i:=by unfold oK cG;split;{rw[bJ]};rfl
theorem ou:∀{is:QW}{E:En},ic is E=cS is E
 |[],_=>rfl
 |i::r,E=>by rw[ic,cS,wk];congr 1;funext E1;exact ou
theorem dS:∀{as:List Arg}{E:En}{os:Qa},bS as E os=fill as E os
 |[],_,[]=>rfl
 |[],_,_::_=>rfl
 |.pk i::r,E,none::os=>by rw[bS,fill,dS];split;{rw[bJ]};rfl
 |.ev _::r,E,some v::os=>by rw[bS,fill,dS]
 |.pk _::_,_,[]=>rfl
 |.pk _::_,_,some _::_=>rfl
 |.ev _::_,_,[]=>rfl
 |.ev _::_,_,none::_=>rfl
def wg{as:List Arg}{E:En}{k:Kd}{v:PyData}:oR as E k v=KH as E k v:=by unfold oR KH;rw[bJ,ou]
theorem qR{i:Nat}:∀{l:QW},jT i l=l.contains i
 |[]=>rfl
 |j::r=>by rw[jT,PV,qR]
theorem vF{ks:QW}{E:En}:∀{l:QW},mF l ks E=(decide l.Nodup&&l.all λi=>!ks.contains i&&gI E i)
 |[]=>rfl
 |i::r=>by
  rw[mF,vF,qR,qR,MG];have:decide (i::r).Nodup=(!r.contains i&&decide r.Nodup):=by rw[NV];simp[OJ]
  rw[this];cases ks.contains i<;>cases r.contains i<;>cases gI E i<;>cases decide r.Nodup<;>rfl
def BX{ms:QT}{as:List Arg}{E:En}:qi ms as E=vf ms as E:=by unfold qi vf;rw[vF,Bool.and_assoc];rfl
theorem qV:∀{ms:QT}{as:List Arg}{us:QM}{E:En},iF ms as us E=nZ ms as us E
 |[],[],[],E=>rfl
 |[],[],_::_,E=>rfl
 |[],_::_,_,E=>rfl
 |false::ms,_::r,us,E=>by rw[iF,nZ,qV]
 |false::ms,[],us,E=>rfl
 |true::ms,[],us,E=>rfl
 |true::ms,.ev _::_,us,E=>rfl
 |true::ms,.pk i::r,[],E=>rfl
 |true::ms,.pk i::r,u::us,E=>by rw[iF,nZ];split;{rw[bJ,qV]};rfl
def Bx{ms:QT}{as:List Arg}{us:QM}{E:En}{k:Kd}{v:PyData}:pK ms as us E k v=Ik ms as us E k v:=by unfold pK Ik;rw[bJ,ou]
def yu{v:PyData}{Q:Bool->Prop}:(∃b,jF v=some b/\Q b)=qd v Q:=aR
def CG{v:PyData}{Q:Bool->Prop}:(∃b,v=.bool b/\Q b)=wM v Q:=by
 cases v with
 |bool b=>exact propext ⟨λ⟨c,e,q⟩=>by cases e;exact q,λh=>⟨b,rfl,h⟩⟩
 |_=>exact propext ⟨λ⟨c,e,_⟩=>(by cases e),λh=>h.elim⟩
def J7{v:PyData}{Q:Int->Prop}:(∃b,v=.int b/\Q b)=nJ v Q:=by
 cases v with
 |int b=>exact propext ⟨λ⟨c,e,q⟩=>by cases e;exact q,λh=>⟨b,rfl,h⟩⟩
 |_=>exact propext ⟨λ⟨c,e,_⟩=>(by cases e),λh=>h.elim⟩
def JE{v:PyData}{Q:QM->Prop}:(∃b,v=.list b/\Q b)=rK v Q:=by
 cases v with
 |list b=>exact propext ⟨λ⟨c,e,q⟩=>by cases e;exact q,λh=>⟨b,rfl,h⟩⟩
 |_=>exact propext ⟨λ⟨c,e,_⟩=>(by cases e),λh=>h.elim⟩
def mU{E:En}{i:Nat}:gA E i=aW E i:=by unfold aW gA bR;generalize E[i]?=z;rcases z with _|_|⟨k,d⟩<;>rfl
theorem Ax:∀{is:QW}{ds:QM}{E:En},stK is ds E=bC is ds E
 |[],[],E=>rfl
 |[],_::_,E=>rfl
 |_::_,[],E=>rfl
 |i::is,d::ds,E=>by rw[stK,bC,bJ,Ax,mU]
def u9{n:Nat}{i:Int}:tY n i=jm n i:=by
 cases i with
 |ofNat k=>unfold tY jm;show cC (Nat.blt k n) (some k) none=_;rw[if_pos (show(0:Int)<=Int.ofNat k from Int.natCast_nonneg k),bJ];have:(Nat.blt k n=true)=((Int.ofNat k)<(n:Int)):=propext ⟨λh=>Nr.mpr (Nat.blt_eq.mp h),λh=>Nat.blt_eq.mpr (Nr.mp h)⟩;simp only[this];rfl
 |negSucc k=>rfl
def Em{d:DE}:cF d=Gs d:=by funext x E Q;unfold cF Gs;simp only[yu]
def Eg{a b:DE}:nY a b=Gk a b:=by funext x E Q;unfold nY Gk;simp only[CG,bJ]
def Iq{a b:DE}:rT a b=Ks a b:=by funext x E Q;unfold rT Ks;simp only[CG,bJ]
def FE{a:DE}:qL a=Gy a:=by funext x E Q;unfold qL Gy;simp only[yu]
def yY{f f':QG}{a b c:DE}:lW f f' a b c=z9 f f' a b c:=by funext x E Q;unfold lW z9;simp only[J7,bJ]
def Gw{c:DT}{a b:DE}:Ab c a b=Kq c a b:=by funext x E Q;unfold Ab Kq;simp only[bJ]
def Ed{c:DT}{a b:DS}:c7 c a b=Ho c a b:=by funext D E;unfold c7 Ho;simp only[bJ]
def wo{i:Nat}{e:DE}:bu i e=Ip i e:=by funext D E;unfold bu Ip;simp only[bY,mU]
def J1{e:DE}:iE e=oE e:=by funext x E Q;unfold iE oE;simp only[bY,aR];rfl
def Gq{e:DE}:w4 e=KA e:=by funext x E Q;unfold w4 KA;simp only[bY,JE]
end Dv
namespace L2
open PySem PySem.Spec PyProof.Rows
abbrev Key:=Sum Int Str
def nj:Key->Value->Bool
 |.inl k,v=>Value.isInt k v
 |.inr x,v=>Value.isStrOf x v
def K0(w:World):Key->Int
 |.inl k=>hashInt k
 |.inr x=>hashStr w x
def bZ:∀{k:Key}{v:Value},nj k v=true->(∃i t,k=Sum.inl i/\v=Value.int i t)\/(∃x t,k=Sum.inr x/\v=Value.str x t)
 |.inl i,v,h=>by obtain⟨t,e⟩:=Value.isInt_shape (k:=i) (v:=v) h;exact .inl ⟨i,t,rfl,e⟩
 |.inr x,v,h=>by obtain⟨t,e⟩:=Value.isStrOf_shape (x:=x) (v:=v) h;exact .inr ⟨x,t,rfl,e⟩
def zd(i:Int)(t:Tok):nj (.inl i) (.int i t)=true:=by simp[nj,Value.isInt]
def zY(x:Str)(t:Tok):nj (.inr x) (.str x t)=true:=by simp[nj,Value.isStrOf]
def Hr(a b:Int):decide ((Sum.inl a:Key)=Sum.inl b)=(a==b):=by by_cases e:a=b;{subst e;simp};have h:¬(Sum.inl a:Key)=Sum.inl b:=λq=>e (Sum.inl.inj q);rw[Ms h];exact(beq_eq_false_iff_ne.mpr e).symm
def Gg(a b:Str):decide ((Sum.inr a:Key)=Sum.inr b)=decide (a=b):=by by_cases e:a=b;{subst e;simp};have h:¬(Sum.inr a:Key)=Sum.inr b:=λq=>e (Sum.inr.inj q);rw[Ms h,Ms e]
def IT(a:Int) (b:Str):decide ((Sum.inl a:Key)=Sum.inr b)=false:=Ms (λq=>nomatch q)
def Il(a:Str) (b:Int):decide ((Sum.inr a:Key)=Sum.inl b)=false:=Ms (λq=>nomatch q)
def b7(prog:Program)(w:World):PySem.KeyKind prog w Key where
 is:=nj
 hash:=K0 w
 inj:=λv a b ha hb=>by
  rcases bZ ha with⟨i,t,rfl,rfl⟩|⟨x,t,rfl,rfl⟩
  .rcases bZ hb with⟨j,u,rfl,e⟩|⟨y,u,rfl,e⟩
   .injection e with e1 _;rw[e1]
   .exact nomatch e
  .rcases bZ hb with⟨j,u,rfl,e⟩|⟨y,u,rfl,e⟩
   .exact nomatch e
   .injection e with e1 _;rw[e1]
 byValue:=λk v h=>by
  rcases bZ h with⟨i,t,rfl,rfl⟩|⟨x,t,rfl,rfl⟩<;>rfl
 pyHash:=λhv h=>by
  rcases bZ hv with⟨i,t,rfl,rfl⟩|⟨x,t,rfl,rfl⟩
  .exact wpAny_pyHash_int h
  .exact wpAny_pyHash_str h
 eqBool:=λhu hv h=>by
  rcases bZ hu with⟨i,t,rfl,rfl⟩|⟨x,t,rfl,rfl⟩
  .rcases bZ hv with⟨j,u,rfl,rfl⟩|⟨y,u,rfl,rfl⟩
   .rw[Hr]at h;exact wpAny_eqBool_int h
   .rw[IT]at h;exact SeqAt.EqAt.int_str i t y u _ _ _ _ h
  .rcases bZ hv with⟨j,u,rfl,rfl⟩|⟨y,u,rfl,rfl⟩
   .rw[Il]at h;exact SeqAt.EqAt.str_int x t j u _ _ _ _ h
   .rw[Gg]at h;exact wpAny_eqBool_str h
 «strs»:=λk x t v h=>by
  rcases bZ h with⟨i,u,rfl,e⟩|⟨y,u,rfl,e⟩
  .exact nomatch e
  .injection e with e1 _
   subst e1;cases v<;>rfl
def vA(prog:Program)(w:World) (i:Int)(t:Tok):(b7 prog w).is (.inl i) (.int i t)=true:=zd i t
def vg(prog:Program)(w:World) (x:Str)(t:Tok):(b7 prog w).is (.inr x) (.str x t)=true:=zY x t
set_option genInjectivity true in
inductive V where
 |aN|bl (b:Bool)|int (i:Int)|str (x:Str)|j8 (b:Array UInt8)|vR (b:UInt64)|ref (a:Addr)|ty (n:String)
 deriving DecidableEq
def RelV:V->Value->Prop
 |.aN,u=>u=Value.none
 |.bl b,u=>u=Value.bool b
 |.int i,u=>∃t,u=Value.int i t
 |.str x,u=>∃t,u=Value.str x t
 |.j8 b,u=>∃t,u=Value.bytes b t
 |.vR b,u=>∃t,u=Value.float b t
 |.ref a,u=>u=Value.ref a
 |.ty n,u=>u=Value.type n
abbrev Vals:List V->QO->Prop:=Paired RelV
theorem Vals.length{xs:List V}{us:QO}(r:Vals xs us):xs.length=us.length:=Paired.length r
theorem Vals.get:∀{xs:List V}{us:QO}{i:Nat}{x:V},Vals xs us->xs[i]?=some x->∃u,us[i]?=some u/\RelV x u
 |_,_,_,_,.nil,e=>by simp at e
 |_,_,0,_,.cons r _,e=>by simp at e;subst e;exact⟨_,rfl,r⟩
 |_,_,i+1,x,.cons _ t,e=>by obtain⟨u,h1,h2⟩:=Vals.get (i:=i) (x:=x) t (by simpa using e);exact⟨u,by simpa using h1,h2⟩
theorem Vals.set{x:V}{u:Value}(r:RelV x u):∀{xs:List V}{us:QO} (i:Nat),Vals xs us->Vals (xs.set i x) (us.set i u)
 |_,_,_,.nil=>.nil
 |_,_,0,.cons _ t=>.cons r t
 |_,_,i+1,.cons q t=>.cons q (Vals.set r i t)
theorem Vals.append:∀{xs ys:List V}{us ws:QO},Vals xs us->Vals ys ws->Vals (xs++ys) (us++ws)
 |_,_,_,_,.nil,s=>s
 |_,_,_,_,.cons r t,s=>.cons r (Vals.append t s)
theorem Vals.take:∀{xs:List V}{us:QO} (n:Nat),Vals xs us->Vals (xs.take n) (us.take n)
 |_,_,0,_=>.nil
 |_,_,_+1,.nil=>.nil
 |_,_,n+1,.cons r t=>.cons r (Vals.take n t)
theorem Vals.drop:∀{xs:List V}{us:QO} (n:Nat),Vals xs us->Vals (xs.drop n) (us.drop n)
 |_,_,0,r=>r
 |_,_,_+1,.nil=>.nil
 |_,_,n+1,.cons _ t=>Vals.drop n t
def iG:Option V->QK->Prop
 |some v,some u=>RelV v u
 |none,none=>True
 |_,_=>False
def KV{κ:Type}:List (κ×V)->List (κ×Value)->Prop:=Paired λ(p:κ×V)(q:κ×Value)=>p.1=q.1/\RelV p.2 q.2
def kV:Key->V
 |.inl i=>.int i
 |.inr x=>.str x
inductive HO where
 |lst (xs:List V)
 |tup (xs:List V)
 |dK (kvs:List (Key×V))|dT (kvs:List (List Key×V))
 |set (S:Int->Bool) (n:Nat)
 |ins (C dx:Addr)(fs:List (Str×V))
 |own (x:Addr)
 |xd (fs:List (Str×V))
 |met (f x:Addr)
 |nR (lo hi:Int)
 |d7 (o:Obj)(u:HO)
 |sj (ps:QL)
 |ext (φ:Heap->Prop)
abbrev Hp:=Addr->Option HO
def upd(H:Hp)(a:Addr)(o:HO):Hp:=λb=>if b=a then some o else H b
def aB{H:Hp}{a:Addr}{o:HO}:upd H a o a=some o:=by unfold upd;rw[if_pos rfl]
def ai{H:Hp}{a b:Addr}{o:HO}(h:b≠a):upd H a o b=H b:=by unfold upd;rw[if_neg h]
def JO{H:Hp}{a b:Addr}{o u:HO}(h:H a=some o)(h':H b=some u)(d:o≠u):a≠b:=by intro e;subst e;rw[h]at h';exact d (Option.some.inj h')
def fm{H:Hp}{a b:Addr}{o:HO}(h:H a=some o)(h':H b=none):a≠b:=by intro e;subst e;rw[h]at h';cases h'
section
variable(P:Program)(w:World)
def bE(H:Hp)(h:Heap)(a:Addr):HO->Prop
 |.lst xs=>xs.length<=sizeLine/\∃(its:QO) (n:Nat),Vals xs its/\h.get? a=some { cls:=.type "list",data:=.seq its.toArray n }
 |.tup xs=>xs.length<=sizeLine/\∃its:QO,Vals xs its/\IsTup h a its.toArray
 |.dK kvs=>kvs.length<=sizeLine/\(a==sysModules)=false/\∃vs,KV kvs vs/\h.DictOf (b7 P w) a vs
 |.dT kvs=>kvs.length<=sizeLine/\(a==sysModules)=false/\∃xs:List (List Key×Addr×Value),
   Paired (λ(p:List Key×V)(q:List Key×Addr×Value)=>p.1=q.1/\H q.2.1=some (.tup (p.1.map kV))/\RelV p.2 q.2.2) kvs xs /\
   ∃o es ep,h.get? a=some o/\o.ExactDict/\o.data=.dict es ep/\es.toList=xs.map (entryOfKey (tupleKind (b7 P w)))/\(xs.map (·.1)).Nodup
 |.set S n=>h.SetOf (intKind P w) a S n
 |.ins C dx fs=>H dx=some (.own a)/\fs.length<=1000/\dx≠a/\h.get? a=some (PySem.W.instObj C dx) /\
   ∃mA,h.Ns1 dx mA/\(∀f,iG (fs.lookup f) (mA f))/\PySem.Within mA (fs.map (·.1))
 |.own _=>∃o,h.get? a=some o
 |.xd fs=>∃mA,h.Ns1 a mA/\∀f,iG (fs.lookup f) (mA f)
 |.nR lo hi=>∃t u v,h.get? a=some { cls:=.type "range",data:=.fields #[.int lo t,.int hi u,.int 1 v] }
 |.d7 o u=>h.get? a=some o/\bE H h a u
 |.sj ps=>h.get? a=some { cls:=.none,data:=.fields ps }
 |.met f x=>h.get? a=some (PySem.W.methodObj (.ref f) (.ref x))
 |.ext φ=>φ h/\(∃o,h.get? a=some o)/\∀h1 h2:Heap,φ h1->(∀o,h1.get? a=some o->h2.get? a=some o)->φ h2
def cA(H:Hp)(h:Heap):Prop:=∀a o,H a=some o->bE P w H h a o
end
section
variable{P:Program}{w:World}{H H':Hp}{h h':Heap}{a:Addr}{o:HO}
theorem bE.lt(x:bE P w H h a o):a<h.objs.size:=by
 cases o with
 |lst xs=>obtain⟨_,_,_,_,e⟩:=x;exact MB e
 |tup xs=>obtain⟨_,_,_,p⟩:=x;exact p.lt
 |dK kvs=>obtain⟨_,_,_,_,o,_,_,e,_⟩:=x;exact MB e
 |dT kvs=>obtain⟨_,_,_,_,o,_,_,e,_⟩:=x;exact MB e
 |set S n=>obtain⟨o,_,_,_,e,_⟩:=x;exact MB e
 |ins C dx fs=>obtain⟨_,_,_,e,_⟩:=x;exact MB e
 |own y=>obtain⟨_,e⟩:=x;exact MB e
 |xd fs=>obtain⟨_,⟨_,_,_,e,_⟩,_⟩:=x;exact MB e
 |nR lo hi=>obtain⟨_,_,_,e⟩:=x;exact MB e
 |d7 ob u=>obtain⟨e,_⟩:=x;exact MB e
 |sj ps=>exact MB (show h.get? a=some _ from x)
 |met f y=>exact MB (show h.get? a=some _ from x)
 |ext φ=>obtain⟨_,⟨_,e⟩,_⟩:=x;exact MB e
theorem Paired.A7{α β:Type}{F G:α->β->Prop}:∀{l₁:List α}{l₂:List β},Paired F l₁ l₂->(∀a b,F a b->G a b)->Paired G l₁ l₂
 |_,_,.nil,_=>.nil
 |_,_,.cons r t,f=>.cons (f _ _ r) (Paired.A7 t f)
def bE.stay(x:bE P w H h a o)(k:∀b u,(b=a\/H b=some (.own a))->h.get? b=some u->h'.get? b=some u)(ho:∀b,H b=some (.own a)->H' b=some (.own a))(ht:∀b xs,H b=some (.tup xs)->H' b=some (.tup xs)):bE P w H' h' a o:=by
 induction o with
 |lst xs=>obtain⟨z,its,n,r,e⟩:=x;exact⟨z,its,n,r,k _ _ (.inl rfl) e⟩
 |tup xs=>obtain⟨z,its,r,ob,e,c⟩:=x;exact⟨z,its,r,ob,k _ _ (.inl rfl) e,c⟩
 |dK kvs=>obtain⟨z,y,vs,r,ob,es,ep,e,c⟩:=x;exact⟨z,y,vs,r,ob,es,ep,k _ _ (.inl rfl) e,c⟩
 |dT kvs=>obtain⟨z,y,xs,r,ob,es,ep,e,c⟩:=x;exact⟨z,y,xs,Paired.A7 r λp q z=>⟨z.1,ht _ _ z.2.1,z.2.2⟩,ob,es,ep,k _ _ (.inl rfl) e,c⟩
 |set S n=>obtain⟨ob,es,ep,t,e,c⟩:=x;exact⟨ob,es,ep,t,k _ _ (.inl rfl) e,c⟩
 |ins C dx fs=>obtain⟨d,z,ne,e,mA,⟨od,es,ep,e2,c⟩,r⟩:=x;exact⟨ho _ d,z,ne,k _ _ (.inl rfl) e,mA,⟨od,es,ep,k _ _ (.inr d) e2,c⟩,r⟩
 |own y=>obtain⟨ob,e⟩:=x;exact⟨ob,k _ _ (.inl rfl) e⟩
 |xd fs=>obtain⟨mA,⟨od,es,ep,e,c⟩,r⟩:=x;exact⟨mA,⟨od,es,ep,k _ _ (.inl rfl) e,c⟩,r⟩
 |nR lo hi=>obtain⟨t,u,v,e⟩:=x;exact⟨t,u,v,k _ _ (.inl rfl) e⟩
 |d7 ob u ih=>obtain⟨e,q⟩:=x;exact⟨k _ _ (.inl rfl) e,ih q⟩
 |sj ps=>have e:h.get? a=some { cls:=.none,data:=.fields ps }:=x;show h'.get? a=some { cls:=.none,data:=.fields ps };exact k a _ (.inl rfl) e
 |met f y=>have e:h.get? a=some (PySem.W.methodObj (.ref f) (.ref y)):=x;show h'.get? a=some (PySem.W.methodObj (.ref f) (.ref y));exact k a _ (.inl rfl) e
 |ext φ=>obtain⟨p,⟨o,e⟩,st⟩:=x;exact⟨st _ _ p λo q=>k _ _ (.inl rfl) q,⟨o,k _ _ (.inl rfl) e⟩,st⟩
theorem cA.lt(x:cA P w H h)(e:H a=some o):a<h.objs.size:=(x a o e).lt
def cA.fresh(x:cA P w H h)(e:h.objs.size<=a):H a=none:=by
 cases q:H a with
 |none=>rfl
 |some u=>exact absurd (MN (x.lt q) e) (Mm _)
def cA.kept(x:cA P w H h)(k:∀b u,h.get? b=some u->h'.get? b=some u):cA P w H h':=λa o e=>
 (x a o e).stay (λb u _ q=>k b u q) (λ_ q=>q) λ_ _ q=>q
def cA.laid(x:cA P w H h)(k:∀b u,h.get? b=some u->h'.get? b=some u)(hp:h.objs.size<=a)(new:bE P w (upd H a o) h' a o):cA P w (upd H a o) h':=λb u e=>by have hn:=x.fresh hp;by_cases hb:b=a;{subst hb;rw[aB]at e;cases e;exact new};rw[ai hb]at e;exact(x b u e).stay (λc v _ q=>k c v q) (λc q=>by rw[ai (fm q hn)];exact q) λc xs q=>by rw[ai (fm q hn)];exact q
end
def Rd(H:Hp)(a:Addr)(u:HO):Prop:=H a=some u\/∃o,H a=some (.d7 o u)
def Rd.ok{P:Program}{w:World}{H:Hp}{h:Heap}{a:Addr}{u:HO}(r:Rd H a u)(x:cA P w H h):bE P w H h a u:=by rcases r with r|⟨o,r⟩;{exact x a u r};obtain⟨_,q⟩:=x a _ r;exact q
def AQ:Option HO->Prop
 |some (.lst _)=>True
 |some (.dK _)=>True
 |some (.dT _)=>True
 |some (.set _ _)=>True
 |some (.ins _ _ _)=>True
 |some (.ext _)=>True
 |_=>False
section
variable{P:Program}{w:World}{H:Hp}{h h':Heap}{x e:Addr}{o':HO}
def cA.write(ok:cA P w H h)(mu:AQ (H x))(he:e=x\/H e=some (.own x))(k:∀b u,b≠e->h.get? b=some u->h'.get? b=some u)(heo:∃u,h'.get? e=some u)(new:bE P w (upd H x o') h' x o'):cA P w (upd H x o') h':=λb u q=>by
 have nown:∀c y,H c=some (.own y)->c≠x:=λc y r z=>by subst z;rw[r]at mu;exact mu
 have ntup:∀c xs,H c=some (.tup xs)->c≠x:=λc xs r z=>by subst z;rw[r]at mu;exact mu
 by_cases hb:b=x;{subst hb;rw[aB]at q;cases q;exact new};rw[ai hb]at q;by_cases hbe:b=e
 .have q':H b=some (.own x):=by rcases he with z|z;{exact absurd (hbe.trans z) hb};rw[hbe];exact z
  rw[q]at q';cases q';obtain⟨v,hv⟩:=heo;exact⟨v,by rw[hbe];exact hv⟩
 refine(ok b u q).stay (λc v hc r=>k c v ?_ r) (λc r=>by rw[ai (nown c b r)];exact r) λc xs r=>by rw[ai (ntup c xs r)];exact r
 rcases hc with rfl|hc;{exact hbe};rintro rfl;rcases he with z|z;{exact nown c b hc z};rw[hc]at z;cases z;exact hb rfl
end
structure Un(fs ex:QS)(H H':Hp)(h h':Heap):Prop where
 keep:∀b o,h.get? b=some o->H b=none->b∉fs->b∉ex->h'.get? b=some o
 slot:∀b o,h.get? b=some o->H b=none->b∈fs->b∉ex->∃sl,h'.get? b=some { o with slots:=sl }
 free:∀b o,h.get? b=some o->H b=none->b∉ex->H' b=none
 there:∀b o,h.get? b=some o->b∉ex->∃o',h'.get? b=some o'
 tups:∀b xs,H b=some (.tup xs)->H' b=some (.tup xs)
 gq:∀b o u,H b=some (.d7 o u)->H' b=some (.d7 o u)
 gU:∀b ps,H b=some (.sj ps)->∃more,H' b=some (.sj (ps++more))
section
variable{fs fs' ex ex':QS}{H H1 H2:Hp}{h h1 h2 h':Heap}{a x e:Addr}{o:HO}
def Un.any(u:Un fs ex H H1 h h1){b:Addr}{ob:Obj}(q:h.get? b=some ob)(n:H b=none)(hx:b∉ex):∃sl,h1.get? b=some { ob with slots:=sl }:=by by_cases hb:b∈fs;{exact u.slot b ob q n hb hx};exact⟨ob.slots,u.keep b ob q n hb hx⟩
def Un.kept(k:∀b u,h.get? b=some u->h'.get? b=some u):Un fs ex H H h h':=
 ⟨λb ob q _ _ _=>k b ob q,λb ob q _ _ _=>⟨ob.slots,k b ob q⟩,λ_ _ _ n _=>n,λb ob q _=>⟨ob,k b ob q⟩,λ_ _ q=>q,λ_ _ _ q=>q,λ_ ps q=>⟨#[],by rw[q];simp⟩⟩
def Un.refl:Un fs ex H H h h:=Un.kept λ_ _ q=>q
def Un.laid(k:∀b u,h.get? b=some u->h'.get? b=some u)(hp:h.objs.size<=a)(hn:H a=none):Un fs ex H (upd H a o) h h' where
 keep:=λb u q _ _ _=>k b u q
 slot:=λb u q _ _ _=>⟨u.slots,k b u q⟩
 free:=λb u q n _=>by rw[ai (MO (MN (MB q) hp))];exact n
 there:=λb u q _=>⟨u,k b u q⟩
 tups:=λb xs q=>by rw[ai (fm q hn)];exact q
 gq:=λb u xs q=>by rw[ai (fm q hn)];exact q
 gU:=λb ps q=>⟨#[],by rw[ai (fm q hn),q];simp⟩
def Un.write(mu:AQ (H x))(he:e=x\/H e=some (.own x))(k:∀b u,b≠e->h.get? b=some u->h'.get? b=some u)(heo:∃u,h'.get? e=some u):Un fs ex H (upd H x o) h h':=by
 have hx:∀b,H b=none->b≠x:=λb n z=>by subst z;rw[n]at mu;exact mu
 have hb:∀b,H b=none->b≠e:=λb n z=>by subst z;rcases he with r|r;{exact hx b n r};rw[n]at r;cases r
 have hm:∀b u,H b=some u->¬AQ (some u)->b≠x:=λb u q nm z=>by subst z;rw[q]at mu;exact nm mu
 refine⟨λb u q n _ _=>k b u (hb b n) q,λb u q n _ _=>⟨u.slots,k b u (hb b n) q⟩,λb u q n _=>by rw[ai (hx b n)];exact n,λb u q _=>?_,
  λb xs q=>by rw[ai (hm b _ q λz=>z)];exact q,λb u xs q=>by rw[ai (hm b _ q λz=>z)];exact q,λb ps q=>⟨#[],by rw[ai (hm b _ q λz=>z),q];simp⟩⟩
 by_cases hbe:b=e;{subst hbe;exact heo};exact⟨u,k b u hbe q⟩
end
def DF(h:Heap)(H:Hp):QS:=(List.range h.objs.size).filter λa=>(H a).isSome
def kJ(h:Heap)(H:Hp):Heap:=PySem.W.hideAll h (DF h H)
def Au(h:Heap)(H:Hp):(kJ h H).objs.size=h.objs.size:=PySem.W.hideAll_size _ _
def BR{h:Heap}{H:Hp}{b:Addr}{o:Obj}(e:h.get? b=some o)(n:H b=none):(kJ h H).get? b=some o:=
 PySem.W.hideAll_get _ e λhm=>by have q:(H b).isSome=true:=(OL.mp hm).2;rw[n]at q;simp at q
def EB{h:Heap}{H:Hp}{b:Addr}{o:Obj}(e:(kJ h H).get? b=some o):h.get? b=some o/\H b=none:=by
 have e':h.get? b=some o:=PySem.W.of_hideAll (DF h H) e;refine⟨e',?_⟩;cases q:H b with
 |none=>rfl
 |some x=>have hm:b∈DF h H:=OL.mpr ⟨NH.mpr (MB e'),by simp[q]⟩;have z:(kJ h H).get? b=none:=PySem.W.hideAll_none (DF h H) hm;rw[z]at e;cases e
structure Mod(K:QJ)(mg:QE)(base:Heap):Prop where
 zw:K.In base
 glob:base.Ns mainGlobals mg
 blt:∃mb,base.Ns builtinsNs mb/\∀x:Str,x≠"__name__"->mb x=bootBuiltins x
 nolimit:base.NoLimit
structure Cx where
 prog:Program
 w:World
 K:QJ
 mg:QE
 base:Heap
 A:Around
 N:QY
 s₀:Shared
 H₀:Hp
 env:Env
 outer:List Env
 stack:List Env
 ex:QS
 fn:Str->Bool
 calm:Bool
 pn:QF
 xe:QC
def frs(l:List Env):QS:=l.filterMap (·.frame)
abbrev Cx.fs(X:Cx):QS:=frs X.outer
def iA(sc:Scope) (x:Str):Prop:=sc.names.lookup x=some .local\/sc.names.lookup x=some .cell\/sc.names.lookup x=some .free
def Loc(sc:Scope) (x:Str):Prop:=sc.names.lookup x=some .local\/sc.names.lookup x=some .cell
def Look(env:Env)(h:Heap)(m:QE) (x:Str)(u:Value):Prop:=
 (env.kindOf x=some .local/\m x=some u)\/((env.kindOf x=some .cell\/env.kindOf x=some .free)/\∃c,env.cells.lookup x=some c/\h.IsCell c (some u))
structure Cx.Ok(X:Cx):Prop where
 mod:Mod X.K X.mg X.base
 kind:X.env.scope.kind=.function
 glob:X.env.globals=mainGlobals
 blt:X.env.builtins=builtinsNs
 above:X.s₀.heap.objs.size<=X.env.locals
 inj:∀x y c,X.env.cells.lookup x=some c->X.env.cells.lookup y=some c->x=y
 has:∀x,(X.env.kindOf x=some .cell\/X.env.kindOf x=some .free)->∃c,X.env.cells.lookup x=some c
 rD:∀x c,X.fn x=true->X.env.cells.lookup x=some c->X.s₀.heap.objs.size<=c
 hd:X.calm=true->X.A.handled=none
 frames:X.A.frames=some X.stack
 stk:X.stack=X.outer\/(X.stack=X.env::X.outer/\X.env.frame=some X.env.locals)
 zK:∀b∈X.ex,b≠X.env.locals/\∀x c,X.env.cells.lookup x=some c->c≠b
 bs:∀b o,X.base.get? b=some o->X.s₀.heap.get? b=some o/\X.H₀ b=none
 mw:X.base.objs.size<=X.s₀.heap.objs.size
 lC:∀b o,X.base.get? b=some o->b∉X.ex
 nV:∀b∈X.ex,b∉X.fs
 gf:X.s₀.heap.FunFrames X.base X.outer
 p7:∀b∈X.fs,X.H₀ b=none
structure Inv(X:Cx)(pins:QF)(U:List (Option V))(H:Hp)(s:Shared):Prop where
 ok:X.Ok
 os:s.os=X.s₀.os
 bare:AllBare s.gens
 base:Un X.fs X.ex X.H₀ H X.s₀.heap s.heap
 loc:∃m,s.heap.Ns X.env.locals m/\∀(i:Nat) (x:Str) (v:V),X.N[i]?=some x->U[i]?=some (some v)->iA X.env.scope x->∃u,RelV v u/\Look X.env s.heap m x u
 cell:∀x c,X.env.cells.lookup x=some c->∃v,s.heap.IsCell c v
 free:H X.env.locals=none
 cL:∀x c,X.env.cells.lookup x=some c->H c=none
 pin:∀p∈X.pn++pins,s.heap.get? p.1=some p.2/\H p.1=none/\p.1≠X.env.locals/\p.1∉X.fs/\∀v,p.2.data≠.cell v
 hok:cA X.prog X.w H s.heap
 len:U.length=X.N.length
section
variable{X:Cx}{pins:QF}{U:List (Option V)}{H H':Hp}{s:Shared}{h':Heap}
def Cx.Ok.Lr(ok:X.Ok){b:Addr}{o:Obj}(e:X.base.get? b=some o):b∉X.fs:=λhb=>by have:=(ok.gf.mem hb).1;rw[e]at this;cases this
theorem Inv.bs(I:Inv X pins U H s):∀b o,X.base.get? b=some o->s.heap.get? b=some o/\H b=none:=λb o e=>
 ⟨I.base.keep b o (I.ok.bs b o e).1 (I.ok.bs b o e).2 (I.ok.Lr e) (I.ok.lC b o e),I.base.free b o (I.ok.bs b o e).1 (I.ok.bs b o e).2 (I.ok.lC b o e)⟩
def Inv.bk(I:Inv X pins U H s):∀b o,X.base.get? b=some o->s.heap.get? b=some o:=λb o e=>(I.bs b o e).1
theorem Inv.mod(I:Inv X pins U H s):Mod X.K X.mg X.base:=I.ok.mod
def Inv.dH(I:Inv X pins U H s):X.K.In s.heap:=I.ok.mod.zw.keeps I.bk
theorem Inv.lt(I:Inv X pins U H s):X.env.locals<s.heap.objs.size:=let⟨_,hn,_⟩:=I.loc;hn.lt
def Inv.sz(I:Inv X pins U H s):X.s₀.heap.objs.size<=s.heap.objs.size:=MZ I.ok.above (Nt I.lt)
def Inv.Bl(I:Inv X pins U H s){a:Addr}(h:s.heap.objs.size<=a):a∉X.fs:=λhb=>by obtain⟨_,o,ho,_⟩:=I.ok.gf.mem hb;exact absurd (MN (MB ho) (MZ I.sz h)) (Mm _)
def Inv.qv(I:Inv X pins U H s):∀x c,X.env.cells.lookup x=some c->c≠X.env.locals:=λx c e z=>by obtain⟨v,o,ho,hd⟩:=I.cell x c e;obtain⟨m,⟨o',es,ep,ho',hd',_⟩,_⟩:=I.loc;rw[z,ho']at ho;cases ho;rw[hd']at hd;cases hd
theorem Inv.gf(I:Inv X pins U H s):s.heap.FunFrames X.base X.outer:=by
 have all:∀(l:List Env),(∀b∈frs l,b∈X.fs)->X.s₀.heap.FunFrames X.base l->s.heap.FunFrames X.base l:=by
  intro l;induction l with
  |nil=>intro _ _;trivial
  |cons env r ih=>intro hs hl;obtain⟨hk,⟨L,o,hf,hn,ho,hd⟩,hr⟩:=hl;have hL:L∈X.fs:=hs L (by unfold frs;rw[Nf,hf];exact M7);obtain⟨sl,e⟩:=I.base.slot L o ho (I.ok.p7 L hL) hL λz=>I.ok.nV L z hL;exact⟨hk,⟨L,_,hf,hn,e,hd⟩,ih (λb hb=>hs b (by unfold frs;rw[Nf,hf];exact MC _ hb)) hr⟩
 exact all X.outer (λ_ hb=>hb) I.ok.gf
theorem Inv.stack(I:Inv X pins U H s):s.heap.FunFrames X.base X.stack:=by rcases I.ok.stk with e|⟨e,hf⟩;{rw[e];exact I.gf};rw[e];obtain⟨m,hn,_⟩:=I.loc;refine .cons (by rw[I.ok.kind];decide) hf hn ?_ I.gf;exact Oi (MZ I.ok.mw I.ok.above)
def Inv.gw(I:Inv X pins U H s):∀b∈frs X.stack,b∈X.env.locals::X.fs:=λb hb=>by rcases I.ok.stk with e|⟨e,hf⟩;{rw[e]at hb;exact MC _ hb};rw[e]at hb;unfold frs at hb;rw[Nf,hf]at hb;exact hb
def Inv.j6(I:Inv X pins U H s):∀b∈frs X.stack,H b=none:=λb hb=>by rcases MH.mp (I.gw b hb)with e|hb;{rw[e];exact I.free};obtain⟨_,o,ho,_⟩:=I.ok.gf.mem hb;exact I.base.free b o ho (I.ok.p7 b hb) λz=>I.ok.nV b z hb
def Inv.step{g':Array GenState}{t':Nat}{d':Drawn}{ch:QS}(I:Inv X pins U H s)(hch:∀b∈ch,(b∈X.ex\/X.s₀.heap.objs.size<=b)/\b≠X.env.locals/\(∀x c,X.env.cells.lookup x=some c->c≠b)/\∀p∈X.pn++pins,p.1≠b)(keep:∀b o,b≠X.env.locals->b∉X.fs->b∉ch->s.heap.get? b=some o->H b=none->h'.get? b=some o)(slot:∀b o,b≠X.env.locals->b∈X.fs->b∉ch->s.heap.get? b=some o->H b=none->∃sl,h'.get? b=some { o with slots:=sl })(free:∀b o,b∉ch->s.heap.get? b=some o->H b=none->H' b=none)(there:∀b o,b∉ch->s.heap.get? b=some o->∃o',h'.get? b=some o')(tups:∀b xs,H b=some (.tup xs)->H' b=some (.tup xs))(gq:∀b o u,H b=some (.d7 o u)->H' b=some (.d7 o u))(gU:∀b ps,H b=some (.sj ps)->∃more,H' b=some (.sj (ps++more)))(ns:∀m,s.heap.Ns X.env.locals m->h'.Ns X.env.locals m)(hok:cA X.prog X.w H' h')(hg:AllBare g') : Inv X pins U H' { s with heap:=h',gens:=g',drawn:=d',toks:=t' }:=by
 have neL:∀b o,X.s₀.heap.get? b=some o->b≠X.env.locals:=λb o e=>MO (MN (MB e) I.ok.above);have neC:∀b o,X.s₀.heap.get? b=some o->b∉X.ex->b∉ch:=λb o e hx hb=>by rcases(hch b hb).1 with z|z;{exact hx z};exact absurd (MN (MB e) z) (Mm _)
 have cellK:∀x c,X.env.cells.lookup x=some c->∀v,s.heap.IsCell c v->h'.IsCell c v:=λx c e v ⟨o,ho,hd⟩=>by have nch:c∉ch:=λz=>(hch c z).2.2.1 x c e rfl;by_cases hc:c∈X.fs;{obtain⟨sl,q⟩:=slot c o (I.qv x c e) hc nch ho (I.cL x c e);exact⟨_,q,hd⟩};exact⟨o,keep c o (I.qv x c e) hc nch ho (I.cL x c e),hd⟩
 refine⟨I.ok,I.os,hg,⟨λb o e n hb hx=>?_,λb o e n hb hx=>?_,λb o e n hx=>?_,λb o e hx=>?_,λb xs e=>tups b xs (I.base.tups b xs e),λb o xs e=>gq b o xs (I.base.gq b o xs e),λb ps e=>?_⟩,?_,λx c e=>?_,?_,λx c e=>?_,λp hp=>?_,hok,I.len⟩;{exact keep b o (neL b o e) hb (neC b o e hx) (I.base.keep b o e n hb hx) (I.base.free b o e n hx)};{obtain⟨sl,e1⟩:=I.base.slot b o e n hb hx;obtain⟨sl',e2⟩:=slot b _ (neL b o e) hb (neC b o e hx) e1 (I.base.free b o e n hx);exact⟨sl',e2⟩};{obtain⟨o',e1⟩:=I.base.there b o e hx;exact free b o' (neC b o e hx) e1 (I.base.free b o e n hx)};{obtain⟨o',e1⟩:=I.base.there b o e hx;exact there b o' (neC b o e hx) e1};{obtain⟨m1,e1⟩:=I.base.gU b ps e;obtain⟨m2,e2⟩:=gU b _ e1;exact⟨m1++m2,by rw[e2,Array.append_assoc]⟩};{obtain⟨m,hn,hl⟩:=I.loc;refine⟨m,ns m hn,λi x v e1 e2 e3=>?_⟩;obtain⟨u,r,l⟩:=hl i x v e1 e2 e3;refine⟨u,r,?_⟩;rcases l with l|⟨k,c,e,z⟩;{exact .inl l};exact .inr ⟨k,c,e,cellK x c e _ z⟩};{obtain⟨v,z⟩:=I.cell x c e;exact⟨v,cellK x c e v z⟩};{obtain⟨m,⟨o,_,_,ho,_⟩,_⟩:=I.loc;exact free _ o (λz=>(hch _ z).2.1 rfl) ho I.free};{obtain⟨v,o,ho,hd⟩:=I.cell x c e;exact free c o (λz=>(hch c z).2.2.1 x c e rfl) ho (I.cL x c e)};obtain⟨e,n,ne,nf,d⟩:=I.pin p hp;have nch:p.1∉ch:=λz=>(hch p.1 z).2.2.2 p hp rfl;exact⟨keep p.1 p.2 ne nf nch e n,free p.1 p.2 nch e n,ne,nf,d⟩
def Inv.un{t':Nat}(I:Inv X pins U H s)(u:Un X.fs [] H H' s.heap h')(hok:cA X.prog X.w H' h'):Inv X pins U H' { s with heap:=h',toks:=t' }:=by
 obtain⟨m,⟨o,es,ep,ho,r⟩,_⟩:=id I.loc;obtain⟨sl,hL⟩:=u.any ho I.free (by simp);exact I.step (g':=s.gens) (d':=s.drawn) (ch:=[]) (λ_ z=>nomatch z) (λb o _ hb _ e n=>u.keep b o e n hb (by simp)) (λb o _ hb _ e n=>u.slot b o e n hb (by simp)) (λb o _ e n=>u.free b o e n (by simp)) (λb o _ e=>u.there b o e (by simp)) u.tups u.gq u.gU (λm' hm=>by
  obtain⟨o',es',ep',ho',r'⟩:=hm;rw[ho]at ho';cases ho';exact⟨_,es',ep',hL,r'⟩) hok I.bare
def Inv.call{g':Array GenState}{t':Nat}{d':Drawn}{ch:QS}(I:Inv X pins U H s)(u:Un (frs X.stack) ch H H' s.heap h')(hok:cA X.prog X.w H' h')(hg:AllBare g')(hch:∀b∈ch,(b∈X.ex\/X.s₀.heap.objs.size<=b)/\b≠X.env.locals/\(∀x c,X.env.cells.lookup x=some c->c≠b)/\∀p∈X.pn++pins,p.1≠b) : Inv X pins U H' { s with heap:=h',gens:=g',drawn:=d',toks:=t' }:=by
 obtain⟨m,⟨o,es,ep,ho,r⟩,_⟩:=id I.loc;obtain⟨sl,hL⟩:=u.any ho I.free λz=>(hch _ z).2.1 rfl;exact I.step (ch:=ch) hch (λb o hL hb hc e n=>u.keep b o e n (λz=>(MH.mp (I.gw b z)).elim hL hb) hc) (λb o _ _ hc e n=>u.any e n hc) (λb o hc e n=>u.free b o e n hc) (λb o hc e=>u.there b o e hc) u.tups u.gq u.gU (λm' hm=>by
  obtain⟨o',es',ep',ho',r'⟩:=hm;rw[ho]at ho';cases ho';exact⟨_,es',ep',hL,r'⟩) hok hg
def Inv.turned{t':Nat}{it:Addr}(I:Inv X pins U H s)(k:∀b o,b≠it->s.heap.get? b=some o->h'.get? b=some o)(hn:H it=none)(hL:it≠X.env.locals)(h1:it∈X.ex\/X.s₀.heap.objs.size<=it)(h2:∀x c,X.env.cells.lookup x=some c->c≠it)(h3:∀p∈X.pn++pins,p.1≠it):Inv X pins U H { s with heap:=h',toks:=t' }:=by
 have nit:∀b u,H b=some u->b≠it:=λb u e z=>by rw[z,hn]at e;cases e
 refine I.step (g':=s.gens) (d':=s.drawn) (ch:=[it]) (λb hb=>?_) (λb o _ _ hc e _=>k b o (λz=>hc (by simp[z])) e) (λb o _ _ hc e _=>⟨o.slots,k b o (λz=>hc (by simp[z])) e⟩) (λ_ _ _ _ n=>n)
  (λb o hc e=>⟨o,k b o (λz=>hc (by simp[z])) e⟩) (λ_ _ e=>e) (λ_ _ _ e=>e) (λb ps e=>⟨#[],by rw[e];simp⟩) (λm hm=>?_) (λb u e=>?_) I.bare
 .have e:b=it:=by simpa using hb
  subst e;exact⟨h1,hL,h2,h3⟩
 .obtain⟨o,es,ep,ho,r⟩:=hm;exact⟨o,es,ep,k _ o (Ne.symm hL) ho,r⟩
 refine(I.hok b u e).stay (λc v hc q=>k c v ?_ q) (λ_ q=>q) λ_ _ q=>q;rcases hc with z|z;{rw[z];exact nit b u e};exact nit c _ z
def Inv.tok(I:Inv X pins U H s) (t:Nat):Inv X pins U H { s with toks:=t }:=I.un (h':=s.heap) (t':=t) Un.refl I.hok
theorem Inv.kept{t':Nat}(I:Inv X pins U H s)(k:∀b u,s.heap.get? b=some u->h'.get? b=some u):Inv X pins U H { s with heap:=h',toks:=t' }:=I.un (Un.kept k) (I.hok.kept k)
theorem Inv.laid{a:Addr}{o:HO}{t':Nat}(I:Inv X pins U H s)(k:∀b u,s.heap.get? b=some u->h'.get? b=some u)(hp:s.heap.objs.size<=a)(new:bE X.prog X.w (upd H a o) h' a o) : Inv X pins U (upd H a o) { s with heap:=h',toks:=t' }:=I.un (Un.laid k hp (I.hok.fresh hp)) (I.hok.laid k hp new)
theorem Inv.write{x e:Addr}{o:HO}{t':Nat}(I:Inv X pins U H s)(mu:AQ (H x))(he:e=x\/H e=some (.own x))(k:∀b u,b≠e->s.heap.get? b=some u->h'.get? b=some u)(heo:∃u,h'.get? e=some u)(new:bE X.prog X.w (upd H x o) h' x o):Inv X pins U (upd H x o) { s with heap:=h',toks:=t' }:=I.un (Un.write mu he k heo) (I.hok.write mu he k heo new)
def Inv.i7{pins':QF}(I:Inv X pins U H s)(h:∀p∈pins',s.heap.get? p.1=some p.2/\H p.1=none/\p.1≠X.env.locals/\p.1∉X.fs/\∀v,p.2.data≠.cell v):Inv X pins' U H s:=
 ⟨I.ok,I.os,I.bare,I.base,I.loc,I.cell,I.free,I.cL,λp hp=>(MF.mp hp).elim (λz=>I.pin p (List.mem_append_left _ z)) (h p),I.hok,I.len⟩
def oG{N:QY}(hN:N.Nodup){i j:Nat}{x:Str}(a:N[i]?=some x)(b:N[j]?=some x):i=j:=by obtain⟨h1,e1⟩:=N2.mp a;obtain⟨h2,e2⟩:=N2.mp b;exact(List.getElem_inj hN).mp (e1.trans e2.symm)
def rJ{M:Model}{A:Around}{E:QC}{i:Nat}{x:Str}{v:V}{u:Value}{Q:Unit->Shared->Prop}(I:Inv X pins U H s)(hN:X.N.Nodup)(hi:X.N[i]?=some x)(hx:Loc X.env.scope x)(r:RelV v u)(h:∀s',Inv X pins (U.set i (some v)) H s'->(∃a,Heap.SameBut a s.heap s'.heap/\(a=X.env.locals\/X.env.cells.lookup x=some a))->Q () s')(hf:X.fn x=true\/X.env.scope.names.lookup x=some .local:=by first|exact .inl rfl|exact .inr rfl|assumption):wpAny M A (storeName X.env x u) Q E s:=by
 obtain⟨m,hn,hl⟩:=id I.loc;have hcls:(X.env.scope.kind == .class||(X.env.scope.kind == .module&&X.env.locals != X.env.globals))=false:=by rw[I.ok.kind];rfl
 have hiσ:i<U.length:=by rw[I.len];exact(N2.mp hi).1
 have qv:=I.qv;have tracked:∀{a:Addr}{h':Heap},(∃o,s.heap.get? a=some o/\H a=none)->Heap.SameBut a s.heap h'->cA X.prog X.w H h':=λ{a h'} ha hs b ob e=>by obtain⟨_,_,hfree⟩:=ha;refine(I.hok b ob e).stay (λc w' hc q=>(hs.2 c ?_).trans q) (λ_ q=>q) λ_ _ q=>q;rintro rfl;rcases hc with rfl|hc;{rw[hfree]at e;cases e};rw[hfree]at hc;cases hc
 rcases hx with hk|hk;{refine wpAny_storeName_local hk hn (λh' hn' hs=>?_) hcls;obtain⟨oL,_,_,hoL,_⟩:=id hn;refine h _ ⟨I.ok,I.os,I.bare,⟨λb o e n hb hx=>?_,λb o e n hb hx=>?_,I.base.free,λb o e hx=>?_,I.base.tups,I.base.gq,I.base.gU⟩,⟨_,hn',λj y v' e1 e2 e3=>?_⟩,λy c e=>?_,I.free,I.cL,λp hp=>?_,tracked ⟨oL,hoL,I.free⟩ hs,by simpa using I.len⟩ ⟨_,hs,.inl rfl⟩;{exact(hs.2 b (MO (MN (MB e) I.ok.above))).trans (I.base.keep b o e n hb hx)};{obtain⟨sl,e1⟩:=I.base.slot b o e n hb hx;exact⟨sl,(hs.2 b (MO (MN (MB e) I.ok.above))).trans e1⟩};{obtain⟨o',e1⟩:=I.base.there b o e hx;exact⟨o',(hs.2 b (MO (MN (MB e) I.ok.above))).trans e1⟩};{by_cases hj:j=i;{subst hj;rw[hi]at e1;cases e1;rw[Ng hiσ]at e2;cases e2;exact⟨u,r,.inl ⟨hk,by simp⟩⟩};rw[Nh (Ne.symm hj)]at e2;obtain⟨u',r',q⟩:=hl j y v' e1 e2 e3;refine⟨u',r',?_⟩;rcases q with⟨k,e⟩|⟨k,c,e,z⟩;{refine .inl ⟨k,?_⟩;have:y≠x:=λe=>hj (oG hN e1 (e▸hi));simp[this,e]};exact .inr ⟨k,c,e,z.sameBut hs (qv y c e)⟩};{obtain⟨w',z⟩:=I.cell y c e;exact⟨w',z.sameBut hs (qv y c e)⟩};obtain⟨e,n,ne,nf,d⟩:=I.pin p hp;exact⟨(hs.2 p.1 ne).trans e,n,ne,nf,d⟩};have hfn:X.fn x=true:=by rcases hf with z|z;{exact z};rw[z]at hk;cases hk
 obtain⟨c,hc⟩:=I.ok.has x (.inl hk);obtain⟨w',z⟩:=I.cell x c hc;refine wpAny_storeName_cell I.ok.kind hk hc z (λh' hc' hs=>?_);obtain⟨oc,hoc,hocd⟩:=id z;refine h { s with heap:=h' } ⟨I.ok,I.os,I.bare,⟨λb o e n hb hx=>?_,λb o e n hb hx=>?_,I.base.free,λb o e hx=>?_,I.base.tups,I.base.gq,I.base.gU⟩,⟨m,hn.sameBut hs (Ne.symm (qv x c hc)),λj y v' e1 e2 e3=>?_⟩,λy c' e=>?_,I.free,I.cL,λp hp=>?_,tracked ⟨oc,hoc,I.cL x c hc⟩ hs,by simpa using I.len⟩ ⟨c,hs,.inr hc⟩;{exact(hs.2 b (MO (MN (MB e) (I.ok.rD x c hfn hc)))).trans (I.base.keep b o e n hb hx)};{obtain⟨sl,e1⟩:=I.base.slot b o e n hb hx;exact⟨sl,(hs.2 b (MO (MN (MB e) (I.ok.rD x c hfn hc)))).trans e1⟩};{obtain⟨o',e1⟩:=I.base.there b o e hx;exact⟨o',(hs.2 b (MO (MN (MB e) (I.ok.rD x c hfn hc)))).trans e1⟩};{by_cases hj:j=i;{subst hj;rw[hi]at e1;cases e1;rw[Ng hiσ]at e2;cases e2;exact⟨u,r,.inr ⟨.inl hk,c,hc,hc'⟩⟩};rw[Nh (Ne.symm hj)]at e2;obtain⟨u',r',q⟩:=hl j y v' e1 e2 e3;refine⟨u',r',?_⟩;rcases q with q|⟨k,c',e,z'⟩;{exact .inl q};refine .inr ⟨k,c',e,z'.sameBut hs ?_⟩;rintro rfl;exact hj (oG hN e1 (I.ok.inj _ _ _ e hc▸hi))};{by_cases hcc:c'=c;{subst hcc;exact⟨_,hc'⟩};obtain⟨w2,z2⟩:=I.cell y c' e;exact⟨w2,z2.sameBut hs hcc⟩};obtain⟨e,n,ne,nf,d⟩:=I.pin p hp;refine⟨(hs.2 p.1 ?_).trans e,n,ne,nf,d⟩;intro q;rw[q,hoc]at e;have q':oc=p.2:=Option.some.inj e;exact d w' (by rw[<-q'];exact hocd)
def jr{M:Model}{A:Around}{E:QC}{i:Nat}{x:Str}{v:V}{u:Value}{Q:Unit->Shared->Prop}(I:Inv X pins U H s)(hN:X.N.Nodup)(hi:X.N[i]?=some x)(hx:Loc X.env.scope x)(r:RelV v u)(h:∀s',Inv X pins (U.set i (some v)) H s'->Q () s')(hf:X.fn x=true\/X.env.scope.names.lookup x=some .local:=by first|exact .inl rfl|exact .inr rfl|assumption):wpAny M A (storeName X.env x u) Q E s:=
 rJ I hN hi hx r (λs' I' _=>h s' I') hf
def Inv.sU{s':Shared}{ch:QS}(I:Inv X pins U H s)(ho:s'.os=s.os)(u:Un (frs X.stack) ch H H' s.heap s'.heap)(hok:cA X.prog X.w H' s'.heap)(hg:AllBare s'.gens)(hch:∀b∈ch,(b∈X.ex\/X.s₀.heap.objs.size<=b)/\b≠X.env.locals/\(∀x c,X.env.cells.lookup x=some c->c≠b)/\∀p∈X.pn++pins,p.1≠b):Inv X pins U H' s':=by obtain⟨h',g',d',t',o'⟩:=s';have e:o'=s.os:=ho;subst e;exact I.call (g':=g') (t':=t') (d':=d') u hok hg hch
end
abbrev XK:=Value->QN->Hp->Prop
abbrev St:=List (Option V)
abbrev VK:=V->Hp->Prop
abbrev TE:=St->Hp->VK->Prop
abbrev TT:=St->Hp->(Bool->Hp->Prop)->Prop
abbrev TA:=St->Hp->(List V->Hp->Prop)->Prop
structure Ends where
 nx:St->Hp->Prop
 rt:VK
 bk:St->Hp->Prop:=λ_ _=>False
 ct:St->Hp->Prop:=λ_ _=>False
abbrev TS:=Ends->St->Hp->Prop
def EP(X:Cx)(pins:QF)(U:St)(Q:VK)(u:Value)(s':Shared):Prop:=∃v H',Inv X pins U H' s'/\RelV v u/\Q v H'
def TP(X:Cx)(pins:QF)(U:St)(Q:Bool->Hp->Prop)(b:Bool)(s':Shared):Prop:=∃H',Inv X pins U H' s'/\Q b H'
def AP(X:Cx)(pins:QF)(U:St)(Q:List V->Hp->Prop)(us:QO)(s':Shared):Prop:=∃vs H',Inv X pins U H' s'/\Vals vs us/\Q vs H'
def SP(X:Cx)(pins:QF)(D:Ends)(f:Flow)(s':Shared):Prop:=
 match f with
 |.next=>∃σ' H',Inv X pins σ' H' s'/\D.nx σ' H'
 |.brk=>∃σ' H',Inv X pins σ' H' s'/\D.bk σ' H'
 |.cont=>∃σ' H',Inv X pins σ' H' s'/\D.ct σ' H'
 |.ret u=>∃v σ' H',Inv X pins σ' H' s'/\RelV v u/\D.rt v H'
def PE(X:Cx)(e:Expr)(t:TE):Prop:=
 ∀(pins:QF)(s:Shared)(U:St)(H:Hp)(Q:VK),Inv X pins U H s->t U H Q->wpAny (model X.prog X.w) X.A (eval e X.env) (EP X pins U Q) X.xe s
def PT(X:Cx)(e:Expr)(t:TT):Prop:=
 ∀(pins:QF)(s:Shared)(U:St)(H:Hp)(Q:Bool->Hp->Prop),Inv X pins U H s->t U H Q->wpAny (model X.prog X.w) X.A (isTrue e X.env (eval e X.env)) (TP X pins U Q) X.xe s
def PW(X:Cx)(e:Expr)(t:TT):Prop:=
 ∀(whole:Sem Value)(pins:QF)(s:Shared)(U:St)(H:Hp)(Q:Bool->Hp->Prop),Inv X pins U H s->t U H Q->wpAny (model X.prog X.w) X.A (isTrue e X.env whole) (TP X pins U Q) X.xe s
def PW.pt{X:Cx}{e:Expr}{t:TT}(h:PW X e t):PT X e t:=h _
def PA(X:Cx)(es:QU)(t:TA):Prop:=
 ∀(pos:Pos)(pins:QF)(s:Shared)(U:St)(H:Hp)(Q:List V->Hp->Prop),Inv X pins U H s->t U H Q->wpAny (model X.prog X.w) X.A (spliced (backTo pos (starEach es X.env))) (AP X pins U Q) X.xe s
def PS(X:Cx)(st:Stmt)(t:TS):Prop:=
 ∀(pins:QF)(s:Shared)(U:St)(H:Hp)(D:Ends),Inv X pins U H s->t D U H->wpAny (model X.prog X.w) X.A (exec st X.env) (SP X pins D) X.xe s
def jA(X:Cx)(st:QV)(t:TS):Prop:=
 ∀(pins:QF)(s:Shared)(U:St)(H:Hp)(D:Ends),Inv X pins U H s->t D U H->wpAny (model X.prog X.w) X.A (execs st X.env) (SP X pins D) X.xe s
def aG{α:Type}{t:Sem α}{Q Q':α->Shared->Prop}{M:Model}{A:Around}{E:QC}{s:Shared}(h:wpAny M A t Q E s)(hQ:∀a s,Q a s->Q' a s):wpAny M A t Q' E s:=Me h hQ λ_ _ x=>x
section
variable{X:Cx}
inductive CT(i:Nat)(U:St)(H:Hp)(Q:VK):Prop
 |mk:∀v,(U[i]?=some (some v))->(Q v H)->CT i U H Q
def kW(i:Nat):TE:=λU H Q=>CT i U H Q
def tC(v:V):TE:=λ_ H Q=>Q v H
def dY{i:Nat}{x:Str}{pos:Pos}(hN:X.N[i]?=some x)(hv:iA X.env.scope x)(hd:(x==("__debug__":Str))=false:=by decide)(hcd:(x==("__classdict__":Str))=false:=by decide):PE X (.Name x pos) (kW i):=by intro pins s U H Q I h;obtain⟨v,e,h⟩:=h;obtain⟨m,hn,hl⟩:=I.loc;obtain⟨u,r,l⟩:=hl i x v hN e hv;have fin:EP X pins U Q u s:=⟨v,H,I,r,h⟩;rcases l with⟨hk,hm⟩|⟨hk,c,hc,hcell⟩;{exact wpAny_Name (wpAny_loadName_local I.ok.kind hk hn hm fin) hd};rcases hk with hk|hk;{exact wpAny_Name (wpAny_loadName_cell I.ok.kind hk hc hcell fin) hd};exact wpAny_Name (wpAny_loadName_free I.ok.kind hk hc hcell fin hcd) hd
def AG{i j pos}:PE X (.Constant (.int i) j pos) (tC (.int i)):=λ_ _ _ H _ I h=>wpAny_Constant_int ⟨.int i,H,I.tok _,⟨_,rfl⟩,h⟩
def CY{b j pos}:PE X (.Constant (.bool b) j pos) (tC (.bl b)):=λ_ _ _ H _ I h=>Constant_bool ⟨.bl b,H,I,rfl,h⟩
def GS{j pos}:PE X (.Constant .none j pos) (tC .aN):=λ_ _ _ H _ I h=>Constant_none ⟨.aN,H,I,rfl,h⟩
def GF{x j pos}:PE X (.Constant (.str x) j pos) (tC (.str x)):=λ_ _ _ H _ I h=>Calls.Constant_str ⟨.str x,H,I.tok _,⟨_,rfl⟩,h⟩
def Gl(X:Cx) (x:Str):Prop:=X.env.kindOf x=some .globalImplicit
def jZ{E:QC}{pins:QF}{s:Shared}{U:St}{H:Hp}{x:Str}{u:Value}{pos:Pos}{Q:QC}(I:Inv X pins U H s)(hg:Gl X x)(hm:X.mg x=some u)(h:Q u s)(hd:(x==("__debug__":Str))=false:=by decide):wpAny (model X.prog X.w) X.A (eval (.Name x pos) X.env) Q E s:=
 Calls.Name_function_global I.ok.kind hg (Calls.loadGlobal_global (by rw[I.ok.glob];exact I.mod.glob.keeps I.bk) hm h) hd
def j7{E:QC}{pins:QF}{s:Shared}{U:St}{H:Hp}{x:Str}{u:Value}{pos:Pos}{Q:QC}(I:Inv X pins U H s)(hg:Gl X x)(hm:X.mg x=none)(hv:bootBuiltins x=some u)(h:Q u s)(hn:x≠"__name__":=by decide)(hd:(x==("__debug__":Str))=false:=by decide):wpAny (model X.prog X.w) X.A (eval (.Name x pos) X.env) Q E s:=by obtain⟨mb,h1,h2⟩:=I.mod.blt;exact Calls.Name_function_global I.ok.kind hg (Calls.loadGlobal_builtin (by rw[I.ok.glob];exact I.mod.glob.keeps I.bk) hm (by rw[I.ok.blt];exact h1.keeps I.bk) ((h2 x hn).trans hv) h) hd
def D3{x:Str}{v:V}{u:Value}{pos:Pos}(hg:Gl X x)(hm:X.mg x=some u)(r:RelV v u)(hd:(x==("__debug__":Str))=false:=by decide):PE X (.Name x pos) (tC v):=
 λ_ _ _ H _ I h=>jZ I hg hm ⟨v,H,I,r,h⟩ hd
def wU{x:Str}{v:V}{u:Value}{pos:Pos}(hg:Gl X x)(hm:X.mg x=none)(hv:bootBuiltins x=some u)(r:RelV v u)(hn:x≠"__name__":=by decide)(hd:(x==("__debug__":Str))=false:=by decide):PE X (.Name x pos) (tC v):=
 λ_ _ _ H _ I h=>j7 I hg hm hv ⟨v,H,I,r,h⟩ hn hd
variable{a b:Expr}{ta tb:TE}{pos:Pos}
variable{tA tB':TT}{rest:QU}
def Lo(t u:TT):TT:=λU H Q=>t U H λc H1=>if c=true then u U H1 Q else Q false H1
def LW(t u:TT):TT:=λU H Q=>t U H λc H1=>if c=true then Q true H1 else u U H1 Q
def KZ(t:TT):TT:=λU H Q=>t U H λc H1=>Q (!c) H1
def pw_and1(ha:PT X a tA):PW X (.BoolOp .And [a] pos) tA:=by
 intro wh pins s U H Q I h;refine isTrue_and (aG (ha pins s U H Q I h) λc s1 e=>?_);cases c with
 |true=>exact isTrue_and_nil e
 |false=>exact e
def pw_or1(ha:PT X a tA):PW X (.BoolOp .Or [a] pos) tA:=by
 intro wh pins s U H Q I h;refine isTrue_or (aG (ha pins s U H Q I h) λc s1 e=>?_);cases c with
 |false=>exact isTrue_or_nil e
 |true=>exact e
def pw_and(ha:PT X a tA)(hb:PW X (.BoolOp .And (b::rest) pos) tB'):PW X (.BoolOp .And (a::b::rest) pos) (Lo tA tB'):=by
 intro wh pins s U H Q I h;refine isTrue_and (aG (ha pins s U H _ I h) λc s1 ⟨H1,I1,q1⟩=>?_);cases c with
 |true=>exact hb wh pins s1 U H1 Q I1 q1
 |false=>exact⟨H1,I1,q1⟩
def pw_or(ha:PT X a tA)(hb:PW X (.BoolOp .Or (b::rest) pos) tB'):PW X (.BoolOp .Or (a::b::rest) pos) (LW tA tB'):=by
 intro wh pins s U H Q I h;refine isTrue_or (aG (ha pins s U H _ I h) λc s1 ⟨H1,I1,q1⟩=>?_);cases c with
 |true=>exact⟨H1,I1,q1⟩
 |false=>exact hb wh pins s1 U H1 Q I1 q1
def zp(ha:PT X a tA):PT X (.UnaryOp .Not a pos) (KZ tA):=by intro pins s U H Q I h;exact isTrue_not (ha pins s U H (λc H1=>Q (!c) H1) I h)
def LF(t:TT)(ta tb:TE):TE:=λU H Q=>t U H λc H1=>if c=true then ta U H1 Q else tb U H1 Q
def Bu{c:Expr}(hc:PT X c tA)(ha:PE X a ta)(hb:PE X b tb):PE X (.IfExp c a b pos) (LF tA ta tb):=by
 intro pins s U H Q I h;refine wpAny_IfExp (aG (hc pins s U H _ I h) λd s1 ⟨H1,I1,q1⟩=>?_);cases d with
 |true=>exact ha pins s1 U H1 Q I1 q1
 |false=>exact hb pins s1 U H1 Q I1 q1
end
def bD(K:QJ)(H:Hp)(a:Addr)(xs:List V):Prop:=
 Rd H a (.lst xs) \/
  ∃(o:Obj)(its:QL) (n:Nat),K.lookup a=some o/\o.cls=.type "list"/\o.dict=none/\o.data=.seq its n/\its.size<=sizeLine/\Vals xs its.toList
def bG(K:QJ)(H:Hp)(a:Addr)(xs:List V):Prop:=
 Rd H a (.tup xs) \/
  ∃(o:Obj)(its:QL) (n:Nat),K.lookup a=some o/\o.cls=.type "tuple"/\o.data=.seq its n/\its.size<=sizeLine/\Vals xs its.toList
def KS:Value->Option V
 |.none=>some .aN
 |.bool b=>some (.bl b)
 |.int i _=>some (.int i)
 |.str x _=>some (.str x)
 |.bytes b _=>some (.j8 b)
 |.float b _=>some (.vR b)
 |.ref a=>some (.ref a)
 |.type n=>some (.ty n)
 |_=>none
def RelV.abs{x:V}{u:Value}(r:RelV x u):KS u=some x:=by
 cases x with
 |aN=>cases r;rfl
 |bl _=>cases r;rfl
 |int _=>obtain⟨t,rfl⟩:=r;rfl
 |str _=>obtain⟨t,rfl⟩:=r;rfl
 |j8 _=>obtain⟨t,rfl⟩:=r;rfl
 |vR _=>obtain⟨t,rfl⟩:=r;rfl
 |ref _=>cases r;rfl
 |ty _=>cases r;rfl
theorem RelV.inj{x y:V}{u:Value}(r:RelV x u)(q:RelV y u):x=y:=Option.some.inj (r.abs.symm.trans q.abs)
theorem Vals.inj{xs ys:List V}{us:QO}(h:Vals xs us)(h':Vals ys us):xs=ys:=by
 induction h generalizing ys with
 |nil=>cases h';rfl
 |cons r t ih=>cases h' with|cons r' t'=>rw[r.inj r',ih t']
section
variable{X:Cx}{pins:QF}{U:St}{H:Hp}{s:Shared}{a:Addr}{xs ys:List V}
def bD.of{K:QJ}(h:H a=some (.lst xs)):bD K H a xs:=.inl (.inl h)
def bG.of{K:QJ}(h:H a=some (.tup xs)):bG K H a xs:=.inl (.inl h)
def Inv.list(I:Inv X pins U H s)(h:bD X.K H a xs):∃its:QO,Vals xs its/\PlainL s.heap a its.toArray/\xs.length<=sizeLine:=by rcases h with h|⟨o,its,n,hk,hc,hd,hs,hz,r⟩;{obtain⟨z,its,n,r,e⟩:=h.ok I.hok;exact⟨its,r,⟨_,n,e,rfl,rfl,rfl⟩,z⟩};refine⟨its.toList,r,⟨o,n,I.dH a o hk,hc,hd,by simpa using hs⟩,?_⟩;have e:=r.length;simp only[Mh]at e;lia
def Inv.tuple(I:Inv X pins U H s)(h:bG X.K H a xs):∃its:QO,Vals xs its/\IsTup s.heap a its.toArray/\xs.length<=sizeLine:=by rcases h with h|⟨o,its,n,hk,hc,hs,hz,r⟩;{obtain⟨z,its,r,p⟩:=h.ok I.hok;exact⟨its,r,p,z⟩};refine⟨its.toList,r,⟨o,I.dH a o hk,hc,n,by simpa using hs⟩,?_⟩;have e:=r.length;simp only[Mh]at e;lia
def Inv.uV(I:Inv X pins U H s)(h:bD X.K H a xs)(h':bD X.K H a ys):xs=ys:=by
 obtain⟨its,r,⟨o,n,e,_,_,d⟩,_⟩:=I.list h;obtain⟨its',r',⟨o',n',e',_,_,d'⟩,_⟩:=I.list h';rw[e]at e';cases e';rw[d]at d';injection d' with d1 _;have:its=its':=by simpa using congrArg Array.toList d1
 subst this;exact r.inj r'
def Inv.Ar(I:Inv X pins U H s)(h:bG X.K H a xs)(h':bG X.K H a ys):xs=ys:=by
 obtain⟨its,r,⟨o,e,_,n,d⟩,_⟩:=I.tuple h;obtain⟨its',r',⟨o',e',_,n',d'⟩,_⟩:=I.tuple h';rw[e]at e';cases e';rw[d]at d';injection d' with d1 _;have:its=its':=by simpa using congrArg Array.toList d1
 subst this;exact r.inj r'
end
section
variable{X:Cx}{st:Stmt}{rest:QV}{t u:TS}{e:Expr}{te:TE}{pos:Pos}
def JC:TS:=λD U H=>D.nx U H
def Ll(t u:TS):TS:=λD U H=>t { D with nx:=u D } U H
def Fc:jA X [] JC:=λ_ _ U H _ I h=>OM ⟨U,H,I,h⟩
def uD(h1:PS X st t)(h2:jA X rest u):jA X (st::rest) (Ll t u):=by
 intro pins s U H D I h;refine wpAny_execs_cons (aG (h1 pins s U H { D with nx:=u D } I h) λf s1 q=>?_);cases f with
 |next=>obtain⟨σ',H',I',q⟩:=q;exact h2 pins s1 σ' H' D I' q
 |ret v=>exact q
 |brk=>exact q
 |cont=>exact q
def qP(h1:PS X st t):jA X [st] t:=by
 intro pins s U H D I h;refine wpAny_execs_cons (aG (h1 pins s U H D I h) λf s1 q=>?_);cases f with
 |next=>exact OM q
 |ret v=>exact q
 |brk=>exact q
 |cont=>exact q
def Inv.quiet{pins:QF}{U:St}{H:Hp}{s:Shared}(I:Inv X pins U H s):interactive X.env=false:=by simp[interactive,I.ok.kind]
def CU(te:TE):TS:=λD U H=>te U H λ_ H1=>D.nx U H1
def m9(he:PE X e te)(hs:swapsWith e none pos.line X.env=pure false:=by rfl):PS X (.Expr e pos) (CU te):=by intro pins s U H D I h;exact wpAny_Expr_any (aG (he pins s U H _ I h) λv s1 ⟨x,H1,I1,r1,q1⟩=>⟨U,H1,I1,q1⟩) I.quiet hs
def Li(te:TE):TS:=λD U H=>te U H D.rt
def AY(he:PE X e te):PS X (.Return (some e) pos) (Li te):=by intro pins s U H D I h;exact wpAny_Return_some (aG (he pins s U H _ I h) λv s1 ⟨x,H1,I1,r1,q1⟩=>⟨x,U,H1,I1,r1,q1⟩)
def K2(c:TT)(t u:TS):TS:=λD U H=>c U H λb H1=>if b=true then t D U H1 else u D U H1
def Jh{c:Expr}{a b:QV}{tc:TT}(hc:PT X c tc)(ha:jA X a t)(hb:jA X b u):PS X (.If c a b pos) (K2 tc t u):=by
 intro pins s U H D I h;refine wpAny_If (aG (hc pins s U H _ I h) λd s1 ⟨H1,I1,q1⟩=>?_);cases d with
 |true=>exact ha pins s1 U H1 D I1 q1
 |false=>exact hb pins s1 U H1 D I1 q1
end
abbrev TG:=V->St->Hp->(St->Hp->Prop)->Prop
abbrev nO:=List V->St->Hp->(St->Hp->Prop)->Prop
def PG(X:Cx)(target:Expr)(t:TG):Prop:=
 ∀(pins:QF)(s:Shared)(U:St)(H:Hp) (v:V)(u:Value)(Q:St->Hp->Prop),Inv X pins U H s->RelV v u->t v U H Q->
  wpAny (model X.prog X.w) X.A (assign target X.env u) (λ_ s'=>∃σ' H',Inv X pins σ' H' s'/\Q σ' H') X.xe s
def zD(X:Cx)(ts:QU)(t:nO):Prop:=
 ∀(pins:QF)(s:Shared)(U:St)(H:Hp)(vs:List V)(us:QO)(Q:St->Hp->Prop),Inv X pins U H s->Vals vs us->t vs U H Q->
  wpAny (model X.prog X.w) X.A (assignInOrder ((assignEach ts X.env).map (·.2)) us) (λ_ s'=>∃σ' H',Inv X pins σ' H' s'/\Q σ' H') X.xe s
abbrev xu:=V->V->V->Hp->(Hp->Prop)->Prop
def BU(X:Cx)(t:xu):Prop:=
 ∀(pins:QF)(s:Shared)(U:St)(H:Hp) (o i v:V)(ov iv u:Value)(Q:Hp->Prop),Inv X pins U H s->RelV o ov->RelV i iv->RelV v u->t o i v H Q->
  wpAny (model X.prog X.w) X.A (setItem ov iv u) (λ_ s'=>∃H',Inv X pins U H' s'/\Q H') X.xe s
abbrev DK:=V->V->Hp->VK->Prop
def Kg(X:Cx)(op:Operator)(t:DK):Prop:=
 ∀(pins:QF)(s:Shared)(U:St)(H:Hp) (x y:V)(v u:Value)(Q:VK),Inv X pins U H s->RelV x v->RelV y u->t x y H Q->
  wpAny (model X.prog X.w) X.A (inplaceOp op v u) (EP X pins U Q) X.xe s
section
variable{X:Cx}{pos:Pos}
def m8(i:Nat):TG:=λv U H Q=>Q (U.set i (some v)) H
def qF{i:Nat}{x:Str}(hN:X.N.Nodup)(hi:X.N[i]?=some x)(hx:Loc X.env.scope x)(hf:X.fn x=true\/X.env.scope.names.lookup x=some .local:=by first|exact .inl rfl|exact .inr rfl|assumption):PG X (.Name x pos) (m8 i):=by intro pins s U H v u Q I r h;exact wpAny_assign_Name (jr I hN hi hx r (λs' I'=>⟨_,H,I',h⟩) hf)
def Ic:nO:=λvs U H Q=>vs=[]/\Q U H
inductive yH(t:TG)(u:nO)(vs:List V)(U:St)(H:Hp)(Q:(St->Hp->Prop)):Prop
 |mk:∀v r,(vs=v::r)->(t v U H λσ' H'=>u r σ' H' Q)->yH t u vs U H Q
def Dj(t:TG)(u:nO):nO:=λvs U H Q=>yH t u vs U H Q
def Er:zD X [] Ic:=by intro pins s U H vs us Q I r h;obtain⟨e,h⟩:=h;subst e;cases r;exact assignInOrder_nil ⟨U,H,I,h⟩
def BI{e:Expr}{es:QU}{t:TG}{u:nO}(h1:PG X e t)(h2:zD X es u)(hs:(assignEach (e::es) X.env).map (·.2)=assign e X.env::(assignEach es X.env).map (·.2):=by rfl):zD X (e::es) (Dj t u):=by
 intro pins s U H vs us Q I r h;obtain⟨v,vr,e1,h⟩:=h;subst e1;cases r with
 |cons r rr=>rw[hs];refine assignInOrder_cons (aG (h1 pins s U H _ _ _ I r h) λ_ s1 ⟨σ1,H1,I1,q1⟩=>?_);exact h2 pins s1 σ1 H1 _ _ Q I1 rr q1
inductive C8(K:QJ) (n:Nat)(t:nO) (v:V)(U:St)(H:Hp)(Q:(St->Hp->Prop)):Prop
 |mk:∀a xs,(v=.ref a)->(bG K H a xs)->(xs.length=n)->(t xs U H Q)->C8 K n t v U H Q
def eN(K:QJ) (n:Nat)(t:nO):TG:=λv U H Q=>C8 K n t v U H Q
def Iv{es:QU}{k:Nat}{t:nO}{n:Nat}(hc:X.calm=true)(h:zD X es t)(hn:(assignEach es X.env).length=n:=by rfl)(hst:(assignEach es X.env).findIdx? (·.1)=none:=by rfl):PG X (.Tuple es k pos) (eN X.K n t):=by intro pins s U H v u Q I r hw;obtain⟨a,xs,e1,hq,hl,hw⟩:=hw;subst e1;cases r;obtain⟨its,rv,ht,hz⟩:=I.tuple hq;refine assign_Tuple_tuple (I.ok.hd hc) ht (by simp[hn,<-hl,rv.length]) hst λh' hx=>?_;have I1:Inv X pins U H { s with heap:=h' }:=I.kept (t':=s.toks) λb o e=>hx b o (MO (MB e)) e;exact h pins _ U H xs _ Q I1 (by simpa using rv) hw
def i8(to ti:TE)(t:xu):TG:=λv U H Q=>to U H λo H1=>ti U H1 λi H2=>t o i v H2 λH3=>Q U H3
def G3{o i:Expr}{to ti:TE}{t:xu}(ho:PE X o to)(hi:PE X i ti)(hs:BU X t)
  (ha:∀v,assign (.Subscript o i pos) X.env v=(do
   let ov <-holding [v] (eval o X.env)
   let iv <-holding [v,ov] (eval i X.env)
   standAt pos
   holding [v,ov,iv] (setItem ov iv v)
   release [v,ov,iv] []):=by intro _;rfl):PG X (.Subscript o i pos) (i8 to ti t):=by
 intro pins s U H v u Q I r h;rw[ha];refine M1 (Mx (aG (ho pins s U H _ I h) λov s1 ⟨x,H1,I1,r1,q1⟩=>?_))
 refine M1 (Mx (aG (hi pins s1 U H1 _ I1 q1) λiv s2 ⟨y,H2,I2,r2,q2⟩=>?_))
 refine M1 (wpAny_standAt (M1 (Mx (aG (hs pins s2 U H2 x y v ov iv u _ I2 r1 r2 r q2) λ_ s3 ⟨H3,I3,q3⟩=>?_))))
 exact wpAny_release ⟨U,H3,I3,q3⟩
def BC(te:TE)(g:TG):TS:=λD U H=>te U H λx H1=>g x U H1 D.nx
def y9{tg e:Expr}{te:TE}{g:TG}(he:PE X e te)(hg:PG X tg g)(hs:swapsWithSole [tg] e pos.line X.env=pure false:=by rfl)(hw:swappedStores [tg] e X.env=pure none:=by rfl)(h1:(assignEach [tg] X.env).map (·.2)=[assign tg X.env]:=by rfl):PS X (.Assign [tg] e pos) (BC te g):=by intro pins s U H D I h;refine wpAny_Assign_stores (aG (he pins s U H _ I h) λv s1 ⟨x,H1,I1,r1,q1⟩=>?_) hs hw;rw[h1];exact aG (hg pins s1 U H1 x v _ I1 r1 q1) λ_ s2 q=>q
def HV{i:Nat}{x:Str}{e:Expr}{te:TE}{pos':Pos}(hN:X.N.Nodup)(hi:X.N[i]?=some x)(hx:Loc X.env.scope x)(he:PE X e te)(hs:swapsWith e (some (.Name x pos')) pos.line X.env=pure false:=by rfl)(hf:X.fn x=true\/X.env.scope.names.lookup x=some .local:=by first|exact .inl rfl|exact .inr rfl|assumption) : PS X (.Assign [.Name x pos'] e pos) (BC te (m8 i)):=by intro pins s U H D I h;refine wpAny_Assign_Name (aG (he pins s U H _ I h) λv s1 ⟨y,H1,I1,r1,q1⟩=>?_) hs;exact jr I1 hN hi hx r1 (λs2 I2=>⟨_,H1,I2,q1⟩) hf
def K4(i:Nat)(te:TE)(ti:DK):TS:=λD U H=>∃x,U[i]?=some (some x)/\te U H λy H1=>ti x y H1 λz H2=>D.nx (U.set i (some z)) H2
def HE{i:Nat}{x:Str}{e:Expr}{te:TE}{op:Operator}{ti:DK}{pos':Pos}(hN:X.N.Nodup)(hi:X.N[i]?=some x)(hx:Loc X.env.scope x)(he:PE X e te)(ho:Kg X op ti)(hf:X.fn x=true\/X.env.scope.names.lookup x=some .local:=by first|exact .inl rfl|exact .inr rfl|assumption) : PS X (.AugAssign (.Name x pos') op e pos) (K4 i te ti):=by
 intro pins s U H D I h;obtain⟨v,e1,h⟩:=h;obtain⟨m,hn,hl⟩:=I.loc;have vis:iA X.env.scope x:=by rcases hx with k|k;exact .inl k;exact .inr (.inl k)
 obtain⟨u,r,l⟩:=hl i x v hi e1 vis;refine wpAny_AugAssign_Name ?_;have go:wpAny (model X.prog X.w) X.A (eval e X.env) (λw s₂=>wpAny (model X.prog X.w) X.A (inplaceOp op u w) (λr s₃=>wpAny (model X.prog X.w) X.A (storeName X.env x r) (λ_=>SP X pins D .next) X.xe s₃) X.xe s₂) X.xe s:=by refine aG (he pins s U H _ I h) λw s1 ⟨y,H1,I1,r1,q1⟩=>?_;refine aG (ho pins s1 U H1 v y u w _ I1 r r1 q1) λz s2 ⟨zv,H2,I2,r2,q2⟩=>?_;exact jr I2 hN hi hx r2 (λs3 I3=>⟨_,H2,I3,q2⟩) hf
 rcases l with⟨hk,hm⟩|⟨hk,c,hc,hcell⟩;{exact wpAny_loadName_local I.ok.kind hk hn hm go};rcases hk with hk|hk;{exact wpAny_loadName_cell I.ok.kind hk hc hcell go};rcases hx with k|k;{have:X.env.scope.names.lookup x=some .free:=hk;rw[k]at this;cases this};have:X.env.scope.names.lookup x=some .free:=hk;rw[k]at this;cases this
end
section
variable{X:Cx}{pos:Pos}
def GA(c:TT)(tb:TS):TS:=λD U H=>∃W:Nat->St->Hp->Prop,(∃m,W m U H)/\∀m U H,W m U H->
 c U H λb H1=>if b=true then ∃N:St->Hp->Prop,(∀σ' H',N σ' H'->∃m',m'<m/\W m' σ' H')/\tb { D with nx:=N,ct:=N,bk:=D.nx } U H1 else D.nx U H1
def Bv{c:Expr}{body:QV}{tc:TT}{tb:TS}(hp:PassesOwn (model X.prog X.w) X.A X.env X.xe)(hc:PT X c tc)(hb:jA X body tb):PS X (.While c body [] pos) (GA tc tb):=by
 intro pins s U H D I h;obtain⟨W,⟨m0,w0⟩,turn⟩:=h;refine wpAny_While (codeAny_whileLoop (λn s'=>∃σ' H',Inv X pins σ' H' s'/\W n σ' H') ?_ m0 ⟨U,H,I,w0⟩);rintro n s1⟨σ1,H1,I1,w1⟩;refine Ni hp (aG (hc pins s1 σ1 H1 _ I1 (turn n σ1 H1 w1)) λb s2 ⟨H2,I2,q2⟩=>?_);cases b with
 |true=>
  obtain⟨N,hN,q2⟩:=q2;rw[if_pos rfl];refine Ni hp (aG (hb pins s2 σ1 H2 _ I2 q2) λf s3 q3=>?_);cases f with
  |next=>obtain⟨σ3,H3,I3,n3⟩:=q3;obtain⟨m',hm,w3⟩:=hN σ3 H3 n3;exact⟨m',hm,σ3,H3,I3,w3⟩
  |cont=>obtain⟨σ3,H3,I3,n3⟩:=q3;obtain⟨m',hm,w3⟩:=hN σ3 H3 n3;exact⟨m',hm,σ3,H3,I3,w3⟩
  |brk=>exact q3
  |ret v=>exact q3
 |false=>rw[if_neg MJ];exact OM ⟨σ1,H2,I2,q2⟩
end
structure It where
 go:Nat->Hp->Prop
 nQ:Nat->Hp->V->Hp->Prop
 stop:Nat->Hp->Prop
def dB(X:Cx)(pins:QF)(H:Hp)(b:Addr):Prop:=
 H b=none/\b≠X.env.locals/\b∉X.fs/\(b∈X.ex\/X.s₀.heap.objs.size<=b)/\(∀x c,X.env.cells.lookup x=some c->c≠b)/\∀p∈X.pn++pins,p.1≠b
def Inv.oO{X:Cx}{pins:QF}{U:St}{H H':Hp}{s:Shared}{b:Addr}(I:Inv X pins U H s)(hb:s.heap.objs.size<=b)(hn:H' b=none):dB X pins H' b:=by refine⟨hn,Nu (MN I.lt hb),I.Bl hb,.inr (MZ I.sz hb),λx c e z=>?_,λp hp z=>?_⟩;{obtain⟨v,q⟩:=I.cell x c e;exact absurd (MN q.lt (by rw[z];exact hb)) (Mm _)};exact absurd (MN (MB (I.pin p hp).1) (by rw[z];exact hb)) (Mm _)
structure Turn(P:Program)(w:World)(K:QJ)(tg:Expr)(J:It)(fp:QS)(it:Addr)(tn:Nat->Heap->Prop):Prop where
 mem:it∈fp
 obj:∀i h,tn i h->∀b∈fp,∃o,h.get? b=some o/\∀v,o.data≠.cell v
 keep:∀i h h',tn i h->(∀b∈fp,∀o,h.get? b=some o->h'.get? b=some o)->tn i h'
 item:∀(X:Cx),X.prog=P->X.w=w->X.K=K->X.calm=true->∀(i:Nat)(pins:QF)(s:Shared)(U:St)(H:Hp)(E:QC),Inv X pins U H s->(∀b∈fp,dB X pins H b)->tn i s.heap->J.go i H->
  wpAny (model P w) X.A (pyNext (.ref it)) (λr s1=>∃u,r=some u /\
   wpAny (model P w) X.A (letOwnedTupleGo tg (.ref it) u) (λ_ s2=>∃x H',Inv X pins U H' s2/\RelV x u/\J.nQ i H x H'/\tn (i+1) s2.heap/\∀b∈fp,H' b=none) E s1) E s
 done:∀(X:Cx),X.prog=P->X.w=w->X.K=K->X.calm=true->∀(i:Nat)(pins:QF)(s:Shared)(U:St)(H:Hp)(E:QC),Inv X pins U H s->(∀b∈fp,dB X pins H b)->tn i s.heap->J.stop i H->
  wpAny (model P w) X.A (pyNext (.ref it)) (λr s1=>r=none/\Inv X pins U H s1) E s
 self:∀(A:Around) (i:Nat)(s:Shared)(Q:QC)(E:QC),tn i s.heap->Q (.ref it) s->wpAny (model P w) A (pyIter (.ref it)) Q E s
abbrev TI:=St->Hp->(It->Hp->Prop)->Prop
def CS(X:Cx)(pins:QF)(U:St)(tg:Expr)(R:It->Hp->Prop)(itv:Value)(s2:Shared):Prop:=
 ∃(it:Addr)(fp:QS)(tn:Nat->Heap->Prop)(J:It)(H':Hp),itv=.ref it/\Inv X pins U H' s2/\Turn X.prog X.w X.K tg J fp it tn/\tn 0 s2.heap/\(∀b∈fp,dB X pins H' b)/\R J H'
def PI(X:Cx)(tg iter:Expr)(wi:TI):Prop:=
 ∀(pins:QF)(s:Shared)(U:St)(H:Hp)(R:It->Hp->Prop),Inv X pins U H s->wi U H R->
  wpAny (model X.prog X.w) X.A (eval iter X.env) (λv s1=>wpAny (model X.prog X.w) X.A (pyIter v) (CS X pins U tg R) X.xe s1) X.xe s
def xY{M:Model}{A:Around}{E:QC}{s:Shared}{tg:Expr}{it:Addr}{u:Value}{o:Obj}{n:String}{vs:QL}{Q:Unit->Shared->Prop}(ho:s.heap.get? it=some o)(hc:o.cls=.type n)(hd:o.data=.fields vs)(hn:["enumerate","zip","dict_itemiterator","dict_reverseitemiterator","odict_iterator","itertools.zip_longest","itertools.pairwise"].contains n=false)(hQ:Q () s):wpAny M A (letOwnedTupleGo tg (.ref it) u) Q E s:=by
 unfold letOwnedTupleGo;cases tg<;>first
  |exact M8 hQ
  | (cases u<;>first
    |exact M8 hQ
    | (refine M1 (wpAny_load ho ?_)
       rw[hc,hd];show wpAny M A (if(["enumerate","zip","dict_itemiterator","dict_reverseitemiterator","odict_iterator","itertools.zip_longest","itertools.pairwise"].contains n&&vs[0]? == some (rawInt _))=true then _ else _) Q E s
       rw[if_neg (by intro h;rw[hn,Bool.false_and]at h;cases h)]
       exact M8 hQ))
def zo(K:QJ)(a:Addr):It:=
 ⟨λi H=>∃xs x,bD K H a xs/\xs[i]?=some x,λi H x H'=>H'=H/\∀xs,bD K H a xs->xs[i]?=some x,λi H=>∃xs,bD K H a xs/\xs.length<=i⟩
def CO(K:QJ)(a:Addr):It:=
 ⟨λi H=>∃xs x,bG K H a xs/\xs[i]?=some x,λi H x H'=>H'=H/\∀xs,bG K H a xs->xs[i]?=some x,λi H=>∃xs,bG K H a xs/\xs.length<=i⟩
def Aw(lo:Int) (n:Nat):It:=⟨λi _=>i<n,λi H x H'=>H'=H/\x=.int (lo+i),λi _=>n<=i⟩
def rP{P:Program}{w:World}{K:QJ}{tg:Expr}(a it:Addr):Turn P w K tg (zo K a) [it] it (λi h=>h.IsListIter it a i) where
 mem:=by simp
 obj:=λi h st b hb=>by
  have e:b=it:=by simpa using hb
  subst e;obtain⟨o,e,c,d⟩:=st;exact⟨o,e,λv z=>by rw[d]at z;cases z⟩
 keep:=λi h h' st k=>st.at λo e=>k it (by simp) o e
 item:=by
  intro X hP hw hK hc i pins s U H E I hf st hg;subst hP hw hK;obtain⟨xs,x,hq,hx⟩:=hg;obtain⟨its,rv,p,hz⟩:=I.list hq;obtain⟨u,hu,ru⟩:=rv.get hx;obtain⟨f0,f1,f2,f3,f4,f5⟩:=hf it (by simp)
  refine wpAny_pyNext_list_item st p.isList (x:=u) (by simpa using hu) λh' st' sb=>?_
  have I1:Inv X pins U H { s with heap:=h' }:=I.turned (t':=s.toks) (λb o hb e=>(sb.2 b hb).trans e) f0 f1 f3 f4 f5
  obtain⟨o,e,c,d⟩:=id st';exact⟨u,rfl,xY (s:={ s with heap:=h' }) e c d (by decide) ⟨x,H,I1,ru,⟨rfl,λys hy=>by rw[I.uV hy hq];exact hx⟩,st',λb hb=>(hf b hb).1⟩⟩
 done:=by
  intro X hP hw hK hc i pins s U H E I hf st hg;subst hP hw hK;obtain⟨xs,hq,hx⟩:=hg;obtain⟨its,rv,p,hz⟩:=I.list hq;obtain⟨f0,f1,f2,f3,f4,f5⟩:=hf it (by simp)
  have hl:=rv.length;exact wpAny_pyNext_list_end (I.ok.hd hc) st p.isList (by simp;lia) λh' eb=>⟨rfl,I.turned (t':=s.toks) (λb o hb e=>eb b o hb e) f0 f1 f3 f4 f5⟩
 self:=λ_ _ _ _ _ st h=>wpAny_pyIter_listiter st h
def xA{P:Program}{w:World}{K:QJ}{tg:Expr}(a it:Addr):Turn P w K tg (CO K a) [it] it (λi h=>h.IsTupleIter it a i) where
 mem:=by simp
 obj:=λi h st b hb=>by
  have e:b=it:=by simpa using hb
  subst e;obtain⟨o,e,c,d⟩:=st;exact⟨o,e,λv z=>by rw[d]at z;cases z⟩
 keep:=λi h h' st k=>st.at λo e=>k it (by simp) o e
 item:=by
  intro X hP hw hK hc i pins s U H E I hf st hg;subst hP hw hK;obtain⟨xs,x,hq,hx⟩:=hg;obtain⟨its,rv,p,hz⟩:=I.tuple hq;obtain⟨u,hu,ru⟩:=rv.get hx;obtain⟨f0,f1,f2,f3,f4,f5⟩:=hf it (by simp)
  refine wpAny_pyNext_tuple_item st (show s.heap.IsTuple a its.toArray from p) (x:=u) (by simpa using hu) λh' st' sb=>?_
  have I1:Inv X pins U H { s with heap:=h' }:=I.turned (t':=s.toks) (λb o hb e=>(sb.2 b hb).trans e) f0 f1 f3 f4 f5
  obtain⟨o,e,c,d⟩:=id st';exact⟨u,rfl,xY (s:={ s with heap:=h' }) e c d (by decide) ⟨x,H,I1,ru,⟨rfl,λys hy=>by rw[I.Ar hy hq];exact hx⟩,st',λb hb=>(hf b hb).1⟩⟩
 done:=by
  intro X hP hw hK hc i pins s U H E I hf st hg;subst hP hw hK;obtain⟨xs,hq,hx⟩:=hg;obtain⟨its,rv,p,hz⟩:=I.tuple hq;obtain⟨f0,f1,f2,f3,f4,f5⟩:=hf it (by simp)
  have hl:=rv.length;exact wpAny_pyNext_tuple_end (I.ok.hd hc) st (show s.heap.IsTuple a its.toArray from p) (by simp;lia) λh' eb=>⟨rfl,I.turned (t':=s.toks) (λb o hb e=>eb b o hb e) f0 f1 f3 f4 f5⟩
 self:=λ_ _ _ _ _ st h=>wpAny_pyIter_tupleiter st h
def xr{P:Program}{w:World}{K:QJ}{tg:Expr}(it:Addr) (lo:Int) (n:Nat):Turn P w K tg (Aw lo n) [it] it (λi h=>IsRangeIter h it (lo+(i:Nat)*1) ((n:Int)-(i:Nat)) 1) where
 mem:=by simp
 obj:=λi h st b hb=>by
  have e:b=it:=by simpa using hb
  subst e;exact⟨_,st,λv z=>by
   have z':Data.fields _=Data.cell v:=z;cases z'⟩
 keep:=λi h h' st k=>k it (by simp) _ st
 item:=by
  intro X hP hw hK hc i pins s U H E I hf st hg;subst hP hw hK;obtain⟨f0,f1,f2,f3,f4,f5⟩:=hf it (by simp)
  have W:=Walks.range (prog:=X.prog) (w:=X.w) (I.ok.hd hc) it lo 1 n;refine W.item i s _ _ hg st λv h' tk hv st' kk=>?_
  obtain⟨t,rfl⟩:=hv;have I1:Inv X pins U H { s with heap:=h',toks:=tk }:=I.turned (λb o hb e=>kk b o (by simpa using hb) e) f0 f1 f3 f4 f5
  refine⟨_,rfl,xY (s:={ s with heap:=h',toks:=tk }) (n:="range_iterator") st' rfl rfl (by decide) ⟨.int (lo+i),H,I1,⟨t,?_⟩,⟨rfl,rfl⟩,st',λb hb=>(hf b hb).1⟩⟩
  rw[Int.mul_one]
 done:=by
  intro X hP hw hK hc i pins s U H E I hf st hg;subst hP hw hK;obtain⟨f0,f1,f2,f3,f4,f5⟩:=hf it (by simp)
  exact wpAny_pyNext_range_end (I.ok.hd hc) st (by have:n<=i:=hg;lia) λh' eb=>⟨rfl,I.turned (t':=s.toks) (λb o hb e=>eb b o hb e) f0 f1 f3 f4 f5⟩
 self:=λ_ _ _ _ _ st h=>wpAny_pyIter_rangeiter st h
section
variable{X:Cx}{tg:Expr}
inductive AR(K:QJ)(R:(It->Hp->Prop)) (x:V)(H1:Hp):Prop
 |mk:∀a,(x=.ref a)->((∃xs,bD K H1 a xs))->(R (zo K a) H1)->AR K R x H1
def Jr(K:QJ)(tl:TE):TI:=λU H R=>tl U H λx H1=>AR K R x H1
def ER{l:Expr}{tl:TE}(hl:PE X l tl):PI X tg l (Jr X.K tl):=by
 intro pins s U H R I h;refine aG (hl pins s U H _ I h) λv s1 ⟨x,H1,I1,r1,q1⟩=>?_;obtain⟨a,e,⟨xs,hq⟩,q⟩:=q1;subst e;cases r1;obtain⟨its,rv,p,hz⟩:=I1.list hq;refine PX p.isList ?_;refine⟨s1.heap.objs.size,[s1.heap.objs.size],_,_,H1,rfl,I1.kept (t':=s1.toks) λb o e=>ML _ e,rP a _,⟨_,Mn _ rfl,rfl,rfl⟩,λb hb=>?_,q⟩;have e:b=s1.heap.objs.size:=by simpa using hb
 subst e;exact I1.oO (M5 _) (I1.hok.fresh (M5 _))
def uJ{pins:QF}{U:St}{H:Hp}{s:Shared}{R:It->Hp->Prop}{E:QC}{lo hi:Int}{t u v:Tok}{tk:Nat}(I:Inv X pins U H s)(h1:-(2^62)<=lo)(h2:lo<2^62)(h3:-(2^62)<=hi)(h4:hi<2^62)(q:R (Aw lo (hi-lo).toNat) H):wpAny (model X.prog X.w) X.A (pyIter (.ref s.heap.objs.size)) (CS X pins U tg R) E { s with heap:=s.heap.push { cls:=.type "range",data:=.fields #[.int lo t,.int hi u,.int 1 v] },toks:=tk }:=by
 refine wpAny_pyIter_range (IsRange.new ..) (small_one h1 h2 h3 h4) ?_;have I1:Inv X pins U H { s with heap:=s.heap.push { cls:=.type "range",data:=.fields #[.int lo t,.int hi u,.int 1 v] },toks:=tk }:=I.kept λb o e=>ML _ e;refine⟨(s.heap.push { cls:=.type "range",data:=.fields #[.int lo t,.int hi u,.int 1 v] }).objs.size,[(s.heap.push { cls:=.type "range",data:=.fields #[.int lo t,.int hi u,.int 1 v] }).objs.size],_,_,H,rfl,
  I1.kept (t':=tk) λb o e=>ML _ e,xr _ lo (hi-lo).toNat,?_,λb hb=>?_,q⟩
 .have e1:lo+((0:Nat):Int)*1=lo:=by simp
  have e2:(((hi-lo).toNat:Nat):Int)-((0:Nat):Int)=Builtin.Range.rangeSize lo hi 1:=by rw[rangeSize_one];split<;>lia
  show IsRangeIter _ _ (lo+((0:Nat):Int)*1) ((((hi-lo).toNat:Nat):Int)-((0:Nat):Int)) 1;rw[e1,e2];exact Mn _ rfl
 have e:b=(s.heap.push { cls:=.type "range",data:=.fields #[.int lo t,.int hi u,.int 1 v] }).objs.size:=by simpa using hb
 subst e;exact I1.oO (M5 _) (I1.hok.fresh (M5 _))
inductive zE(R:(It->Hp->Prop))(vs:List V)(H1:Hp):Prop
 |mk:∀j:Int,(vs=[.int j])->(-(2^62)<=j)->(j<2^62)->(R (Aw 0 j.toNat) H1)->zE R vs H1
def JR(ta:TA):TI:=λU H R=>ta U H λvs H1=>zE R vs H1
inductive za(R:(It->Hp->Prop))(vs:List V)(H1:Hp):Prop
 |mk:∀i j:Int,(vs=[.int i,.int j])->((-(2^62)<=i/\i<2^62/\-(2^62)<=j/\j<2^62))->(R (Aw i (j-i).toNat) H1)->za R vs H1
def JY(ta:TA):TI:=λU H R=>ta U H λvs H1=>za R vs H1
def zZ{a:Expr}{ta:TA}{p pos:Pos}(hg:Gl X "range")(hm:X.mg "range"=none)(ha:PA X [a] ta)(hs:starEach [a] X.env=[(false,eval a X.env)]:=by rfl):PI X tg (.Call (.Name "range" p) [a] [] pos) (JR ta):=by
 intro pins s U H R I h;refine Call_ (j7 I hg hm boot_range (Oj (aG (ha pos pins s U H _ I h) λus s1 ⟨vs,H1,I1,r1,q1⟩=>?_) hs rfl));obtain⟨j,e,q1,q2,q⟩:=q1;subst e;cases r1 with
 |cons r rr=>cases rr;obtain⟨t,rfl⟩:=r;exact call_range_1 (uJ I1 (by lia) (by lia) q1 q2 (by simpa using q))
def AD{a b:Expr}{ta:TA}{p pos:Pos}(hg:Gl X "range")(hm:X.mg "range"=none)(ha:PA X [a,b] ta)(hs:starEach [a,b] X.env=[(false,eval a X.env),(false,eval b X.env)]:=by rfl)(hs2:starEach [b] X.env=[(false,eval b X.env)]:=by rfl) : PI X tg (.Call (.Name "range" p) [a,b] [] pos) (JY ta):=by
 intro pins s U H R I h;refine Call_ (j7 I hg hm boot_range (Oj (aG (ha pos pins s U H _ I h) λus s1 ⟨vs,H1,I1,r1,q1⟩=>?_) (by rw[hs,hs2]) (by rw[hs2];rfl)));obtain⟨i,j,e,⟨q1,q2,q3,q4⟩,q⟩:=q1;subst e;cases r1 with
 |cons r rr=>
  cases rr with
  |cons r' rr=>cases rr;obtain⟨t,rfl⟩:=r;obtain⟨t',rfl⟩:=r';exact call_range_2 (uJ I1 q1 q2 q3 q4 q)
def KO(wi:TI)(g:TG)(tb:TS):TS:=λD U H=>wi U H λJ H1=>∃W:Nat->Nat->St->Hp->Prop,(∃m,W 0 m U H1)/\∀i m U H,W i m U H->
 (J.stop i H/\D.nx U H)\/(J.go i H/\∃N:St->Hp->Prop,(∀σ' H',N σ' H'->∃m',m'<m/\W (i+1) m' σ' H')/\∀x H',J.nQ i H x H'->g x U H' λσ2 H2=>tb { D with nx:=N,ct:=N,bk:=D.nx } σ2 H2)
def fO(fp:QS)(h:Heap):QF:=fp.filterMap λb=>(h.get? b).map λo=>(b,o)
def fc{fp:QS}{h:Heap}{b:Addr}{o:Obj}(hb:b∈fp)(e:h.get? b=some o):(b,o)∈fO fp h:=PY.mpr ⟨b,hb,by rw[e];rfl⟩
def mH{fp:QS}{h:Heap}{p:Addr×Obj}(hp:p∈fO fp h):p.1∈fp/\h.get? p.1=some p.2:=by
 obtain⟨b,hb,e⟩:=PY.mp hp;cases q:h.get? b with
 |none=>rw[q]at e;cases e
 |some o=>rw[q]at e;have e':(b,o)=p:=Option.some.inj e;subst e';exact⟨hb,q⟩
def Inv.pinned{pins:QF}{U:St}{H:Hp}{s:Shared}{fp:QS}(I:Inv X pins U H s)(hf:∀b∈fp,dB X pins H b)(ho:∀b∈fp,∃o,s.heap.get? b=some o/\∀v,o.data≠.cell v):Inv X (pins++fO fp s.heap) U H s:=
 I.i7 λp hp=>(MF.mp hp).elim (λz=>I.pin p (Mt _ z)) λz=>by obtain⟨hb,e⟩:=mH z;obtain⟨f0,f1,f2,_⟩:=hf p.1 hb;obtain⟨o,e',d⟩:=ho p.1 hb;rw[e]at e';cases e';exact⟨e,f0,f1,f2,d⟩
def Inv.oY{pins pl:QF}{U:St}{H:Hp}{s:Shared}(I:Inv X (pins++pl) U H s):Inv X pins U H s:=I.i7 λp hp=>I.pin p (Mt _ (List.mem_append_left _ hp))
def zP{iter:Expr}{body:QV}{wi:TI}{g:TG}{tb:TS}{pos:Pos}(hp:PassesOwn (model X.prog X.w) X.A X.env X.xe)(hc:X.calm=true)(hi:PI X tg iter wi)(hg:PG X tg g)(hb:jA X body tb)(hs:∀x,foldedSetIterable iter X.env x=pure x:=by intro _;rfl):PS X (.For tg iter body [] pos) (KO wi g tb):=by
 intro pins s U H D I h;refine wpAny_For (aG (hi pins s U H _ I h) λv s1 h1=>aG h1 λitv s2 h2=>?_) hs
 obtain⟨it,fp,tn,J,H2,e,I2,T,st2,f2,W,⟨m0,w0⟩,turn⟩:=h2;subst e
 -- what stays true of the iterator's objects through the loop
 have stat:∀{H':Hp},(∀b∈fp,H' b=none)->∀b∈fp,dB X pins H' b:=λhn b hb=>⟨hn b hb,(f2 b hb).2⟩
 refine codeAny_forLoop_any (λn s'=>∃i σ' H',Inv X pins σ' H' s'/\tn i s'.heap/\(∀b∈fp,H' b=none)/\W i n σ' H') ?_ m0 ⟨0,U,H2,I2,st2,λb hb=>(f2 b hb).1,w0⟩
 rintro n s3⟨i,σ3,H3,I3,st3,fr3,w3⟩;rcases turn i n σ3 H3 w3 with⟨stop,qn⟩|⟨go,N,hN,step⟩
 .refine Ni hp (aG (T.done X rfl rfl rfl hc i pins s3 σ3 H3 X.xe I3 (stat fr3) st3 stop) λr s4 ⟨hr,I4⟩=>?_)
  subst hr;exact OM ⟨σ3,H3,I4,qn⟩
 .refine Ni hp (aG (T.item X rfl rfl rfl hc i pins s3 σ3 H3 X.xe I3 (stat fr3) st3 go) λr s4 ⟨u,hr,h4⟩=>?_)
  subst hr;refine Ni hp (aG h4 λ_ s5 ⟨x,H5,I5,r5,y5,st5,fr5⟩=>?_)
  have I5':=I5.pinned (stat fr5) (T.obj _ _ st5);refine Ni hp (aG (hg _ s5 σ3 H5 x u _ I5' r5 (step x H5 y5)) λ_ s6 ⟨σ6,H6,I6,q6⟩=>?_)
  refine Ni hp (aG (hb _ s6 σ6 H6 _ I6 q6) λf s7 q7=>?_)
  have again:∀{σ7:St}{H7:Hp},Inv X (pins++fO fp s5.heap) σ7 H7 s7->N σ7 H7->∃m,m<n/\∃i σ' H',Inv X pins σ' H' s7/\tn i s7.heap/\(∀b∈fp,H' b=none)/\W i m σ' H':=λ{σ7 H7} I7 n7=>by
   obtain⟨m',hm,w7⟩:=hN σ7 H7 n7;refine⟨m',hm,i+1,σ7,H7,I7.oY,T.keep _ _ _ st5 λb hb o e=>(I7.pin (b,o) (Mt _ (Mt _ (fc hb e)))).1,λb hb=>?_,w7⟩
   obtain⟨o,e,d⟩:=T.obj _ _ st5 b hb;exact(I7.pin (b,o) (Mt _ (Mt _ (fc hb e)))).2.1
  cases f with
  |next=>obtain⟨σ7,H7,I7,n7⟩:=q7;exact again I7 n7
  |cont=>obtain⟨σ7,H7,I7,n7⟩:=q7;exact again I7 n7
  |brk=>obtain⟨σ7,H7,I7,q7⟩:=q7;exact⟨σ7,H7,I7.oY,q7⟩
  |ret v=>obtain⟨x7,σ7,H7,I7,r7,q7⟩:=q7;exact⟨x7,σ7,H7,I7.oY,r7,q7⟩
end
abbrev R2:=V->V->Hp->VK->Prop
def bw(X:Cx)(f:Value->Value->Sem Value)(r:R2):Prop:=
 ∀(pins:QF)(s:Shared)(U:St)(H:Hp) (x y:V)(v u:Value)(Q:VK),Inv X pins U H s->RelV x v->RelV y u->r x y H Q->
  wpAny (model X.prog X.w) X.A (f v u) (EP X pins U Q) X.xe s
def Df(X:Cx)(f:Value->Sem Value)(r:V->Hp->VK->Prop):Prop:=
 ∀(pins:QF)(s:Shared)(U:St)(H:Hp) (x:V)(v:Value)(Q:VK),Inv X pins U H s->RelV x v->r x H Q->
  wpAny (model X.prog X.w) X.A (f v) (EP X pins U Q) X.xe s
def bO(X:Cx)(f:Value)(r:List V->Hp->VK->Prop):Prop:=
 ∀(pins:QF)(s:Shared)(U:St)(H:Hp)(xs:List V)(us:QO)(Q:VK),Inv X pins U H s->Vals xs us->r xs H Q->
  wpAny (model X.prog X.w) X.A (call f us) (EP X pins U Q) X.xe s
def Lh(X:Cx)(r:V->Hp->(Bool->Hp->Prop)->Prop):Prop:=
 ∀(pins:QF)(s:Shared)(U:St)(H:Hp) (x:V)(v:Value)(Q:Bool->Hp->Prop),Inv X pins U H s->RelV x v->r x H Q->
  wpAny (model X.prog X.w) X.A (truthy v) (TP X pins U Q) X.xe s
def GN(r:R2)(ta tb:TE):TE:=λU H Q=>ta U H λx H1=>tb U H1 λy H2=>r x y H2 Q
def LZ(r:V->Hp->VK->Prop)(ta:TE):TE:=λU H Q=>ta U H λx H1=>r x H1 Q
inductive Ku(C:Int->Int->Prop)(g:Int->Int->V) (x:V) (y:V)(H:Hp)(Q:VK):Prop
 |mk:∀i j,(x=.int i)->(y=.int j)->(C i j)->(Q (g i j) H)->Ku C g x y H Q
def rI(C:Int->Int->Prop)(g:Int->Int->V):R2:=λx y H Q=>Ku C g x y H Q
inductive Iu(g:Int->Int->V) (x:V) (y:V)(H:Hp)(Q:VK):Prop
 |mk:∀i j,(x=.int i)->(y=.int j)->(Q (g i j) H)->Iu g x y H Q
def lN(g:Int->Int->V):R2:=λx y H Q=>Iu g x y H Q
inductive Kf(g:Int->V) (x:V)(H:Hp)(Q:VK):Prop
 |mk:∀i,(x=.int i)->(Q (g i) H)->Kf g x H Q
def rU(g:Int->V):V->Hp->VK->Prop:=λx H Q=>Kf g x H Q
section
variable{X:Cx}{a b c:Expr}{ta tb tc:TE}{pos:Pos}
def BN(ha:PE X a ta)(hb:PE X b tb){pins:QF}{s:Shared}{U:St}{H:Hp}{R:V->V->Hp->Prop}(I:Inv X pins U H s)(h:ta U H λx H1=>tb U H1 λy H2=>R x y H2){Q:QC}{f:Value->Value->Sem Value}(hf:∀v u s2 x y H2,Inv X pins U H2 s2->RelV x v->RelV y u->R x y H2->wpAny (model X.prog X.w) X.A (f v u) Q X.xe s2) : wpAny (model X.prog X.w) X.A (eval a X.env) (λv s₁=>wpAny (model X.prog X.w) X.A (eval b X.env) (λu s₂=>wpAny (model X.prog X.w) X.A (f v u) Q X.xe s₂) X.xe s₁) X.xe s:=by refine aG (ha pins s U H _ I h) λv s1 ⟨x,H1,I1,r1,q1⟩=>?_;refine aG (hb pins s1 U H1 _ I1 q1) λu s2 ⟨y,H2,I2,r2,q2⟩=>?_;exact hf v u s2 x y H2 I2 r1 r2 q2
def JW{op:Operator}{r:R2}(ho:bw X (binaryOp op) r)(ha:PE X a ta)(hb:PE X b tb):PE X (.BinOp a op b pos) (GN r ta tb):=by intro pins s U H Q I h;exact wpAny_BinOp (BN ha hb I h λv u s2 x y H2 I2 rx ry q=>ho pins s2 U H2 x y v u Q I2 rx ry q)
def IY{op:UnaryOp}{r:V->Hp->VK->Prop}(ho:Df X (unaryOp op) r)(ha:PE X a ta):PE X (.UnaryOp op a pos) (LZ r ta):=by intro pins s U H Q I h;exact UnaryOp_ (aG (ha pins s U H _ I h) λv s1 ⟨x,H1,I1,r1,q1⟩=>ho pins s1 U H1 x v Q I1 r1 q1)
def CA{f:Value->Value->Sem Value}{C:Int->Int->Prop}{g:Int->Int->Int}(rule:∀(i j:Int)(t u:Tok)(s:Shared)(Q:QC)(E:QC),C i j->Q (.int (g i j) s.toks) { s with toks:=s.toks+1 }->wpAny (model X.prog X.w) X.A (f (.int i t) (.int j u)) Q E s) : bw X f (rI C λi j=>.int (g i j)):=by intro pins s U H x y v u Q I rx ry h;obtain⟨i,j,rfl,rfl,hc,q⟩:=h;obtain⟨t,rfl⟩:=rx;obtain⟨t',rfl⟩:=ry;exact rule i j t t' s _ _ hc ⟨.int (g i j),H,I.tok _,⟨_,rfl⟩,q⟩
def G6{f:Value->Value->Sem Value}{g:Int->Int->Int}(rule:∀(i j:Int)(t u:Tok)(s:Shared)(Q:QC)(E:QC),Q (.int (g i j) s.toks) { s with toks:=s.toks+1 }->wpAny (model X.prog X.w) X.A (f (.int i t) (.int j u)) Q E s) : bw X f (lN λi j=>.int (g i j)):=by intro pins s U H x y v u Q I rx ry h;obtain⟨i,j,rfl,rfl,q⟩:=h;obtain⟨t,rfl⟩:=rx;obtain⟨t',rfl⟩:=ry;exact rule i j t t' s _ _ ⟨.int (g i j),H,I.tok _,⟨_,rfl⟩,q⟩
def yg{f:Value->Value->Sem Value}{g:QG}(rule:∀(i j:Int)(t u:Tok)(s:Shared)(Q:QC)(E:QC),Q (.bool (g i j)) s->wpAny (model X.prog X.w) X.A (f (.int i t) (.int j u)) Q E s) : bw X f (lN λi j=>.bl (g i j)):=by intro pins s U H x y v u Q I rx ry h;obtain⟨i,j,rfl,rfl,q⟩:=h;obtain⟨t,rfl⟩:=rx;obtain⟨t',rfl⟩:=ry;exact rule i j t t' s _ _ ⟨.bl (g i j),H,I,rfl,q⟩
def yD(i j:Int):Prop:=0<=j/\j<=1000000/\i.natAbs<2^64
def iC(i j:Int):Prop:=(-(2^64)<i/\i<2^64)\/(-(2^64)<j/\j<2^64)
def iC.ok{i j:Int}(h:iC i j):IntMulOk i j:=by rcases h with⟨h1,h2⟩|⟨h1,h2⟩;{exact .of_left (intBits_le_64 h1 h2)};exact .of_right (intBits_le_64 h1 h2)
def HK:bw X (binaryOp .Add) (lN λi j=>.int (i+j)):=G6 λ_ _ _ _ _ _ _ q=>add_int q
def Gi:bw X (binaryOp .Sub) (lN λi j=>.int (i-j)):=G6 λ_ _ _ _ _ _ _ q=>sub_int q
def HW:bw X (binaryOp .Mult) (rI iC λi j=>.int (i*j)):=CA λ_ _ _ _ _ _ _ hc q=>mul_int q hc.ok
def GO:bw X (binaryOp .Mod) (rI (λ_ j=>0<j) λi j=>.int (i%j)):=CA λi j _ _ _ _ _ hc q=>by have h1:(0:Int)<j:=hc;exact mod_int' (by lia) (by rw[Int.fmod_eq_emod_of_nonneg i (by lia)];exact q)
def IA:bw X (binaryOp .Pow) (rI yD λi j=>.int (i^j.toNat)):=CA λ_ _ _ _ _ _ _ hc q=>pow_int_small hc.1 hc.2.1 hc.2.2 q
def LL{f:Value->Sem Value}{g:Int->Int}(rule:∀(i:Int)(t:Tok)(s:Shared)(Q:QC)(E:QC),Q (.int (g i) s.toks) { s with toks:=s.toks+1 }->wpAny (model X.prog X.w) X.A (f (.int i t)) Q E s) : Df X f (rU λi=>.int (g i)):=by intro pins s U H x v Q I rx h;obtain⟨i,rfl,q⟩:=h;obtain⟨t,rfl⟩:=rx;exact rule i t s _ _ ⟨.int (g i),H,I.tok _,⟨_,rfl⟩,q⟩
def GD:Df X (unaryOp .USub) (rU λi=>.int (-i)):=LL λ_ _ _ _ _ q=>neg_int q
end
def A1:V->V->Bool
 |.aN,.aN=>true | .aN,.int _=>true | .int _,.aN=>true | .aN,.bl _=>true | .bl _,.aN=>true | .aN,.str _=>true | .str _,.aN=>true
 |.int _,.int _=>true | .bl _,.bl _=>true | .str _,.str _=>true | .j8 _,.j8 _=>true
 |.int _,.str _=>true | .str _,.int _=>true | .bl _,.str _=>true | .str _,.bl _=>true
 |_,_=>false
def KG:R2:=λx y H Q=>A1 x y=true/\Q (.bl (decide (x=y))) H
def Ky:R2:=λx y H Q=>A1 x y=true/\Q (.bl (!decide (x=y))) H
def wF{i j:Int}:decide (V.int i=V.int j)=(i==j):=by rw[NV];simp
def yM{i j:Bool}:decide (V.bl i=V.bl j)=(i==j):=by rw[NV];simp
def wB{i j:Str}:decide (V.str i=V.str j)=(i==j):=by rw[NV];simp
def wC{i j:Array UInt8}:decide (V.j8 i=V.j8 j)=(i.toList==j.toList):=by rw[NV];cases i;cases j;simp
section
variable{X:Cx}{a b c:Expr}{ta tb tc:TE}{pos:Pos}
def aQ{pins:QF}{U:St}{H:Hp}{s:Shared}{Q:VK}{k k':Bool}(I:Inv X pins U H s)(q:Q (.bl k) H)(e:k=k'):EP X pins U Q (.bool k') s:=by subst e;exact⟨.bl k,H,I,rfl,q⟩
def Jg:bw X (compareOp .Eq) KG:=by
 intro pins s U H x y v u Q I rx ry h;obtain⟨hs,q⟩:=h;cases x with
 |aN=>
  cases rx;cases y with
  |aN=>cases ry;exact PySem.EqNone.eq_none_none (aQ I q (by simp))
  |bl j=>cases ry;exact PySem.EqNone.eq_none_bool (aQ I q (by simp))
  |int j=>obtain⟨t',rfl⟩:=ry;exact PySem.EqNone.eq_none_int (aQ I q (by simp))
  |str j=>obtain⟨t',rfl⟩:=ry;exact PySem.EqNone.eq_none_str (aQ I q (by simp))
  |_=>exact absurd (show false=true from hs) MJ
 |bl i=>
  cases rx;cases y with
  |aN=>cases ry;exact PySem.EqNone.eq_bool_none (aQ I q (by simp))
  |bl j=>cases ry;exact eq_bool (aQ I q yM)
  |str j=>obtain⟨t',rfl⟩:=ry;exact PySem.EqMixed.eq_bool_str (aQ I q (by simp))
  |_=>exact absurd (show false=true from hs) MJ
 |int i=>
  obtain⟨t,rfl⟩:=rx;cases y with
  |aN=>cases ry;exact PySem.EqNone.eq_int_none (aQ I q (by simp))
  |int j=>obtain⟨t',rfl⟩:=ry;exact eq_int (aQ I q wF)
  |str j=>obtain⟨t',rfl⟩:=ry;exact PySem.EqMixed.eq_int_str (aQ I q (by simp))
  |_=>exact absurd (show false=true from hs) MJ
 |str i=>
  obtain⟨t,rfl⟩:=rx;cases y with
  |aN=>cases ry;exact PySem.EqNone.eq_str_none (aQ I q (by simp))
  |bl j=>cases ry;exact PySem.EqMixed.eq_str_bool (aQ I q (by simp))
  |int j=>obtain⟨t',rfl⟩:=ry;exact PySem.EqMixed.eq_str_int (aQ I q (by simp))
  |str j=>obtain⟨t',rfl⟩:=ry;exact eq_str (aQ I q wB)
  |_=>exact absurd (show false=true from hs) MJ
 |j8 i=>
  obtain⟨t,rfl⟩:=rx;cases y with
  |j8 j=>obtain⟨t',rfl⟩:=ry;exact PySem.W.eq_bytes (aQ I q wC)
  |_=>exact absurd (show false=true from hs) MJ
 |_=>cases y<;>exact absurd (show false=true from hs) MJ
def JP:bw X (compareOp .NotEq) Ky:=by
 intro pins s U H x y v u Q I rx ry h;obtain⟨hs,q⟩:=h;cases x with
 |aN=>
  cases rx;cases y with
  |aN=>cases ry;exact PySem.EqNone.ne_none_none (aQ I q (by simp))
  |bl j=>cases ry;exact PySem.EqNone.ne_none_bool (aQ I q (by simp))
  |int j=>obtain⟨t',rfl⟩:=ry;exact PySem.EqNone.ne_none_int (aQ I q (by simp))
  |str j=>obtain⟨t',rfl⟩:=ry;exact PySem.EqNone.ne_none_str (aQ I q (by simp))
  |_=>exact absurd (show false=true from hs) MJ
 |bl i=>
  cases rx;cases y with
  |aN=>cases ry;exact PySem.EqNone.ne_bool_none (aQ I q (by simp))
  |bl j=>cases ry;exact ne_bool (aQ I q (congrArg not yM))
  |str j=>obtain⟨t',rfl⟩:=ry;exact PySem.EqMixed.ne_bool_str (aQ I q (by simp))
  |_=>exact absurd (show false=true from hs) MJ
 |int i=>
  obtain⟨t,rfl⟩:=rx;cases y with
  |aN=>cases ry;exact PySem.EqNone.ne_int_none (aQ I q (by simp))
  |int j=>obtain⟨t',rfl⟩:=ry;exact ne_int (aQ I q (congrArg not wF))
  |str j=>obtain⟨t',rfl⟩:=ry;exact PySem.EqMixed.ne_int_str (aQ I q (by simp))
  |_=>exact absurd (show false=true from hs) MJ
 |str i=>
  obtain⟨t,rfl⟩:=rx;cases y with
  |aN=>cases ry;exact PySem.EqNone.ne_str_none (aQ I q (by simp))
  |bl j=>cases ry;exact PySem.EqMixed.ne_str_bool (aQ I q (by simp))
  |int j=>obtain⟨t',rfl⟩:=ry;exact PySem.EqMixed.ne_str_int (aQ I q (by simp))
  |str j=>obtain⟨t',rfl⟩:=ry;exact ne_str (aQ I q (congrArg not wB))
  |_=>exact absurd (show false=true from hs) MJ
 |j8 i=>
  obtain⟨t,rfl⟩:=rx;cases y with
  |j8 j=>obtain⟨t',rfl⟩:=ry;exact PySem.W.ne_bytes (aQ I q (congrArg not wC))
  |_=>exact absurd (show false=true from hs) MJ
 |_=>cases y<;>exact absurd (show false=true from hs) MJ
def DL:bw X (compareOp .Lt) (lN λi j=>.bl (decide (i<j))):=yg λ_ _ _ _ _ _ _ q=>lt_int q
def JV:bw X (compareOp .LtE) (lN λi j=>.bl (decide (i<=j))):=yg λ_ _ _ _ _ _ _ q=>le_int q
def JX:bw X (compareOp .Gt) (lN λi j=>.bl (decide (j<i))):=yg λ_ _ _ _ _ _ _ q=>gt_int q
def Jf:bw X (compareOp .GtE) (lN λi j=>.bl (decide (j<=i))):=yg λ_ _ _ _ _ _ _ q=>ge_int q
def EZ:bw X (compareOp .IsNot) (λx y H Q=>y=.aN/\Q (.bl (!decide (x=.aN))) H):=by
 intro pins s U H x y v u Q I rx ry h;obtain⟨rfl,q⟩:=h;cases ry;refine isnot_none_gen (aQ I q ?_);cases x<;>first
  | (cases rx;rfl)
  | (obtain⟨t,rfl⟩:=rx;rfl)
def bw.or{f:Value->Value->Sem Value}{r r':R2}(h:bw X f r)(h':bw X f r'):bw X f (λx y H Q=>r x y H Q\/r' x y H Q):=by intro pins s U H x y v u Q I rx ry q;rcases q with q|q;{exact h pins s U H x y v u Q I rx ry q};exact h' pins s U H x y v u Q I rx ry q
def ig(b:Expr){op:CmpOp}(h:op≠.In:=by decide)(h2:op≠.NotIn:=by decide):behindInMarks op b=false:=by
 have e1:(op==CmpOp.In)=false:=by cases op<;>first|rfl|exact absurd rfl h
 have e2:(op==CmpOp.NotIn)=false:=by cases op<;>first|rfl|exact absurd rfl h2
 cases b<;>simp[behindInMarks,e1,e2]
def EM{op:CmpOp}{r:R2}(ho:bw X (compareOp op) r)(ha:PE X a ta)(hb:PE X b tb)(hm:behindInMarks op b=false):PE X (.Compare a [op] [b] pos) (GN r ta tb):=by intro pins s U H Q I h;exact wpAny_Compare1 (BN ha hb I h λv u s2 x y H2 I2 rx ry q=>ho pins s2 U H2 x y v u Q I2 rx ry q) hm
inductive zM(Q:(Bool->Hp->Prop)) (x:V)(H':Hp):Prop
 |mk:∀k,(x=.bl k)->(Q k H')->zM Q x H'
def Jl(t:TE):TT:=λU H Q=>t U H λx H'=>zM Q x H'
def Iw(r r':R2)(ta tb tc:TE):TE:=λU H Q=>ta U H λx H1=>tb U H1 λy H2=>r x y H2 λz H3=>∃k,z=.bl k /\
 (if k=true then tc U H3 λw' H4=>r' y w' H4 Q else Q (.bl false) H3)
def BH{op op':CmpOp}{r r':R2}(ho:bw X (compareOp op) r)(ho':bw X (compareOp op') r')(ha:PE X a ta)(hb:PE X b tb)(hc:PE X c tc)(hm:lastMarks [op,op'] [b,c]=false:=by with_unfolding_all rfl):PT X (.Compare a [op,op'] [b,c] pos) (Jl (Iw r r' ta tb tc)):=by
 intro pins s U H Q I h;refine isTrue_chain (aG (ha pins s U H _ I h) λv s1 ⟨x,H1,I1,r1,q1⟩=>test_link (aG (hb pins s1 U H1 _ I1 q1) λu s2 ⟨y,H2,I2,r2,q2⟩=>
  aG (ho pins s2 U H2 x y v u _ I2 r1 r2 q2) λd s3 ⟨z,H3,I3,r3,k,e,q3⟩=>?_)) hm
 subst e;cases r3;refine ON ?_;cases k with
 |false=>obtain⟨k',e',q'⟩:=q3;cases e';exact ite_ff ⟨H3,I3,q'⟩
 |true=>refine ite_tt (test_last (aG (hc pins s3 U H3 _ I3 q3) λw' s4 ⟨z',H4,I4,r4,q4⟩=>aG (ho' pins s4 U H4 y z' u w' _ I4 r2 r4 q4) λd' s5 ⟨z2,H5,I5,r5,k2,e2,q5⟩=>?_));subst e2;cases r5;exact ON ⟨H5,I5,q5⟩
def qH(K:QJ) (x:V)(H:Hp)(k:Bool):Prop:=
 match x with
 |.aN=>k=false
 |.bl b=>k=b
 |.int i=>k=(i != 0)
 |.str y=>y.length<=sizeLine/\k=((y.length:Int) != 0)
 |.j8 y=>y.size<=sizeLine/\k=((y.size:Int) != 0)
 |.ref p=>(∃xs,bD K H p xs/\k=!xs.isEmpty)\/(∃xs,bG K H p xs/\k=!xs.isEmpty)\/∃kvs,H p=some (.dK kvs)/\k=!kvs.isEmpty
 |_=>False
def yt{κ:Type}{kvs:List (κ×V)}{vs:List (κ×Value)}(r:KV kvs vs):(!vs.isEmpty)=!kvs.isEmpty:=by cases r<;>rfl
def pW{xs:List V}{its:QO}(r:Vals xs its):(!its.toArray.isEmpty)=!xs.isEmpty:=by cases r<;>simp
def kD:(sizeLine:Nat)<2^63:=by rw[sizeLine_eq];decide
def yV:Lh X (λx H Q=>∃k,qH X.K x H k/\Q k H):=by
 intro pins s U H x v Q I rx h;obtain⟨k,e,q⟩:=h;have hl:=kD;have hs:sizeLine=16777216:=sizeLine_eq;cases x with
 |aN=>cases rx;have e':k=false:=e;subst e';exact truthy_none ⟨H,I,q⟩
 |bl b=>cases rx;have e':k=b:=e;subst e';exact ON ⟨H,I,q⟩
 |int i=>obtain⟨t,rfl⟩:=rx;have e':k=(i != 0):=e;subst e';exact PySem.P.truthy_int ⟨H,I,q⟩
 |str y=>obtain⟨t,rfl⟩:=rx;obtain⟨hy,e'⟩:y.length<=sizeLine/\k=((y.length:Int) != 0):=e;subst e';exact PySem.P.truthy_str (by lia) ⟨H,I.tok _,q⟩
 |j8 y=>obtain⟨t,rfl⟩:=rx;obtain⟨hy,e'⟩:y.size<=sizeLine/\k=((y.size:Int) != 0):=e;subst e';exact PySem.W.truthy_bytes (by lia) ⟨H,I.tok _,q⟩
 |ref p=>cases rx;have e':(∃xs,bD X.K H p xs/\k=!xs.isEmpty)\/(∃xs,bG X.K H p xs/\k=!xs.isEmpty)\/∃kvs,H p=some (.dK kvs)/\k=!kvs.isEmpty:=e;rcases e' with⟨xs,hx,e'⟩|⟨xs,hx,e'⟩|⟨kvs,hx,e'⟩;{subst e';obtain⟨its,r,pl,hz⟩:=I.list hx;have hlen:=r.length;exact wpAny_truthy_list pl.isList (by simp only[MK];lia) ⟨H,I.tok _,by rw[pW r];exact q⟩};{subst e';obtain⟨its,r,pl,hz⟩:=I.tuple hx;have hlen:=r.length;exact truthy_tuple pl (by simp only[MK];lia) ⟨H,I.tok _,by rw[pW r];exact q⟩};subst e';obtain⟨hz,hS,vs,r,m⟩:kvs.length<=sizeLine/\(p==sysModules)=false/\∃vs,KV kvs vs/\s.heap.DictOf (b7 X.prog X.w) p vs:=I.hok p _ hx;have hlen:kvs.length=vs.length:=Paired.length r;exact wpAny_truthy_dict hS m (by lia) ⟨H,I.tok _,by rw[yt r];exact q⟩
 |_=>exact(show False from e).elim
def uF(ha:PE X a ta)(he:∀whole,isTrue a X.env whole=(do let v <-whole;standAt a.pos;holding [v] (truthy v))) :
  PT X a (λU H Q=>ta U H λx H'=>∃k,qH X.K x H' k/\Q k H'):=by
 intro pins s U H Q I h;exact isTrue_plain (aG (ha pins s U H _ I h) λv s1 ⟨x,H1,I1,r1,q1⟩=>yV pins s1 U H1 x v Q I1 r1 q1) (he _)
def xm:bw X (binaryOp .Add) (λx y H Q=>∃i j,x=.str i/\y=.str j/\i.length+j.length<=sizeLine/\Q (.str (i++j)) H):=by intro pins s U H x y v u Q I rx ry h;obtain⟨i,j,rfl,rfl,hz,q⟩:=h;obtain⟨t,rfl⟩:=rx;obtain⟨t',rfl⟩:=ry;exact add_str (λt' tk=>⟨.str (i++j),H,I.tok _,⟨_,rfl⟩,q⟩) hz
def vals1{x:V}{us:QO}(r:Vals [x] us):∃u,us=[u]/\RelV x u:=by
 cases r with
 |cons r1 r2=>cases r2;exact⟨_,rfl,r1⟩
def vals2{x y:V}{us:QO}(r:Vals [x,y] us):∃u w',us=[u,w']/\RelV x u/\RelV y w':=by
 cases r with
 |cons r1 r2=>
  cases r2 with
  |cons r3 r4=>cases r4;exact⟨_,_,rfl,r1,r3⟩
def Cd:bO X (.builtin "abs") (λxs H Q=>∃i,xs=[.int i]/\Q (.int (if i<0 then-i else i)) H):=by intro pins s U H xs us Q I r h;obtain⟨i,rfl,q⟩:=h;obtain⟨u,rfl,t,rfl⟩:=vals1 r;exact call_abs_int λu tk=>⟨.int (if i<0 then-i else i),H,I.tok _,⟨_,rfl⟩,q⟩
def AN(hc:X.calm=true):bO X (.builtin "max") (λxs H Q=>∃i j,xs=[.int i,.int j]/\Q (.int (if j>i then j else i)) H):=by intro pins s U H xs us Q I r h;obtain⟨i,j,rfl,q⟩:=h;obtain⟨u,w',rfl,⟨t,rfl⟩,⟨t',rfl⟩⟩:=vals2 r;refine max_two_ints (I.ok.hd hc) λh' tk k=>⟨_,H,I.kept k,?_,q⟩;by_cases hj:j>i;{rw[if_pos hj,if_pos hj];exact⟨_,rfl⟩};rw[if_neg hj,if_neg hj];exact⟨_,rfl⟩
def z3(hc:X.calm=true):bO X (.builtin "min") (λxs H Q=>∃i j,xs=[.int i,.int j]/\Q (.int (if j<i then j else i)) H):=by intro pins s U H xs us Q I r h;obtain⟨i,j,rfl,q⟩:=h;obtain⟨u,w',rfl,⟨t,rfl⟩,⟨t',rfl⟩⟩:=vals2 r;refine min_two_ints (I.ok.hd hc) λh' tk k=>⟨_,H,I.kept k,?_,q⟩;by_cases hj:j<i;{rw[if_pos hj,if_pos hj];exact⟨_,rfl⟩};rw[if_neg hj,if_neg hj];exact⟨_,rfl⟩
def zg:bO X (.type "int") (λxs H Q=>(∃i,xs=[.int i]/\Q (.int i) H)\/∃k,xs=[.bl k]/\Q (.int (if k then 1 else 0)) H):=by intro pins s U H xs us Q I r h;rcases h with⟨i,rfl,q⟩|⟨k,rfl,q⟩;{obtain⟨u,rfl,t,rfl⟩:=vals1 r;exact call_int_int ⟨.int i,H,I,⟨_,rfl⟩,q⟩};obtain⟨u,rfl,r1⟩:=vals1 r;cases r1;exact call_int_bool ⟨.int (if k then 1 else 0),H,I.tok _,⟨_,rfl⟩,q⟩
end
structure BZ(h:Heap)(x dx C:Addr)(mA:QE):Prop where
 obj:h.get? x=some (PySem.W.instObj C dx)
 ns:h.Ns1 dx mA
 ne:dx≠x
def rQ{h:Heap}{dx:Addr}{mA:QE}(n:h.Ns1 dx mA):∃od,h.get? dx=some od/\∀name,PySem.W.lookIn name od=some (mA name):=by
 obtain⟨o,es,ep,ho,hd,hk,_,hm⟩:=n;refine⟨o,ho,λname=>?_⟩;have e:=hm name;unfold nsFind findBy at e;rw[<-PZ]at e;unfold PySem.W.lookIn;rw[hd];dsimp only;split;{rename_i y q;rw[q]at e;exact congrArg some e};rename_i q;rw[q]at e;have a:es.toList.any (·.refKey)=false:=by rw[List.any_eq_false];intro y hy;obtain⟨z,t,hkey⟩:=hk y (Array.mem_toList_iff.mp hy);simp[DictEntry.refKey,hkey]
 have a':¬es.toList.any (·.refKey)=true:=by rw[a];exact MJ
 rw[if_neg a'];exact congrArg some e
def BZ.look{h:Heap}{x dx C:Addr}{mA:QE}(I:BZ h x dx C mA):∃od,PySem.W.InstAt h x (PySem.W.instObj C dx) C (some od)/\∀name,PySem.W.lookIn name od=some (mA name):=
 let⟨od,ho,hl⟩:=rQ I.ns
 ⟨od,⟨I.obj,rfl,rfl,ho⟩,hl⟩
def iG.some_of{v:V}{o:QK}(r:iG (some v) o):∃u,o=some u/\RelV v u:=by
 cases o with
 |none=>exact(show False from r).elim
 |some u=>exact⟨u,rfl,r⟩
section
variable{P:Program}{w:World}{H H':Hp}{h h':Heap}{a C dx:Addr}{fs fs':List (Str×V)}
def EK(hok:cA P w H h)(e:H a=some (.ins C dx fs)):∃mA,BZ h a dx C mA/\(∀f,iG (fs.lookup f) (mA f))/\PySem.Within mA (fs.map (·.1))/\fs.length<=1000/\H dx=some (.own a):=by obtain⟨d,z,ne,ob,mA,n,r,q⟩:=(show bE P w H h a (.ins C dx fs)from hok a _ e);exact⟨mA,⟨ob,n,ne⟩,r,q,z,d⟩
end
structure IG(K:QJ)(C:Addr):Prop where
 pg:PySem.W.plainGet K C Str.empty=true
 hd:PySem.W.hasDictIn K C=true
 po:PySem.W.plainOver K C=true
 sa:PySem.W.findIn K (.ref C) "__setattr__"=some (some (.builtin "object.__setattr__"))
def IG.get{K:QJ}{C:Addr}(c:IG K C) (f:Str):PySem.W.plainGet K C f=true:=c.pg
section
variable{X:Cx}{pins:QF}{U:St}{H:Hp}{s:Shared}{A:Around}{E:QC}{Q:QC}{c:Value}{b:Bool}
inductive fM(K:QJ)(H:Hp):V->Value->Prop where
 |aN:fM K H .aN (.type "NoneType")
 |bl (x:Bool):fM K H (.bl x) (.type "bool")
 |int (i:Int):fM K H (.int i) (.type "int")
 |str (x:Str):fM K H (.str x) (.type "str")
 |vR (x:UInt64):fM K H (.vR x) (.type "float")
 |lst {a:Addr}{xs:List V}(e:H a=some (.lst xs)):fM K H (.ref a) (.type "list")
 |d7 {a:Addr}{o:Obj}{xs:List V}(e:H a=some (.d7 o (.lst xs))):fM K H (.ref a) (.type "list")
 |kl {a:Addr}{its:QL}{n:Nat}(e:K.lookup a=some { cls:=.type "list",data:=.seq its n }):fM K H (.ref a) (.type "list")
 |tup {a:Addr}{xs:List V}(e:H a=some (.tup xs)):fM K H (.ref a) (.type "tuple")
 |dK {a:Addr}{kvs:List (Key×V)}(e:H a=some (.dK kvs)):fM K H (.ref a) (.type "dict")
 |dT {a:Addr}{kvs:List (List Key×V)}(e:H a=some (.dT kvs)):fM K H (.ref a) (.type "dict")
 |ins {a C dx:Addr}{fs:List (Str×V)}(e:H a=some (.ins C dx fs))(cl:IG K C)(ha:PySem.W.findIn K (.ref C) "__class__"=some (some (.builtin "object.__class__")))
   (hn:PySem.W.specialIn K (.builtin "object.__class__") "__get__"=some (some (.builtin "getset_descriptor.__get__")))(htk:PySem.W.takesIn K (.builtin "object.__class__")=some true)
   (hm:PySem.W.mroIn K C (.type "object")=some true):fM K H (.ref a) (.ref C)
def yI{x:V}{u t:Value}(I:Inv X pins U H s)(rx:RelV x u)(ty:fM X.K H x t)(e:PySem.W.kitOne X.K t c=some b)(h:∀tk,Q (.bool b) { s with toks:=tk }) : wpAny (model X.prog X.w) A (call (.builtin "isinstance") [u,c]) Q E s:=by
 cases ty with
 |aN=>cases (show u=Value.none from rx);exact N3 PySem.W.kitx_none I.dH NO e (λz=>nomatch z) h
 |bl y=>cases (show u=Value.bool y from rx);exact N3 PySem.W.kitx_bool I.dH NO e (λz=>nomatch z) h
 |int i=>obtain⟨t,q⟩:=(show ∃t,u=Value.int i t from rx);cases q;exact N3 PySem.W.kitx_int I.dH NO e (λz=>nomatch z) h
 |str y=>obtain⟨t,q⟩:=(show ∃t,u=Value.str y t from rx);cases q;exact N3 PySem.W.kitx_str I.dH NO e (λz=>nomatch z) h
 |vR y=>obtain⟨t,q⟩:=(show ∃t,u=Value.float y t from rx);cases q;exact N3 PySem.W.kitx_float I.dH NO e (λz=>nomatch z) h
 |@lst a xs ea=>cases (show u=Value.ref a from rx);obtain⟨_,_,n,_,h1⟩:=(show bE X.prog X.w H s.heap a (.lst xs)from I.hok a _ ea);exact N3 Pa I.dH ⟨_,h1,rfl⟩ e (λz=>nomatch z) h
 |@d7 a ob xs ea=>cases (show u=Value.ref a from rx);obtain⟨_,_,_,n,_,h1⟩:=(show bE X.prog X.w H s.heap a (.d7 ob (.lst xs))from I.hok a _ ea);exact N3 Pa I.dH ⟨_,h1,rfl⟩ e (λz=>nomatch z) h
 |@kl a its n ea=>cases (show u=Value.ref a from rx);exact N3 Pa I.dH ⟨_,I.dH a _ ea,rfl⟩ e (λz=>nomatch z) h
 |@tup a xs ea=>cases (show u=Value.ref a from rx);obtain⟨_,_,_,p⟩:=(show bE X.prog X.w H s.heap a (.tup xs)from I.hok a _ ea);obtain⟨o,h1,h2,_⟩:=p;exact N3 PySem.W.kitx_tuple I.dH ⟨o,h1,h2⟩ e (λz=>nomatch z) h
 |@dK a kvs ea=>cases (show u=Value.ref a from rx);obtain⟨_,_,vs,_,p⟩:=(show bE X.prog X.w H s.heap a (.dK kvs)from I.hok a _ ea);obtain⟨o,es,ep,h1,h2,_⟩:=p;exact N3 PySem.W.kitx_dict I.dH ⟨o,h1,h2.1⟩ e (λz=>nomatch z) h
 |@dT a kvs ea=>cases (show u=Value.ref a from rx);obtain⟨_,_,xs,_,o,es,ep,h1,h2,_⟩:=(show bE X.prog X.w H s.heap a (.dT kvs)from I.hok a _ ea);exact N3 PySem.W.kitx_dict I.dH ⟨o,h1,h2.1⟩ e (λz=>nomatch z) h
 |@ins a C dx fs ea cl ha hn htk hm=>cases (show u=Value.ref a from rx);obtain⟨mA,O,_⟩:=EK I.hok ea;obtain⟨od,J,_⟩:=O.look;exact N3 (PySem.W.kitx_own (cl.get _) cl.hd ha hn htk hm) I.dH J e (λz=>nomatch z) h
end
structure b8(k:Nat)(A:Around):Prop where
 hd:A.handled=none
 dp:A.depth+3*k+5<recursionLimit
 un:A.units+16*k+200<cLine
def b8.mono{j k:Nat}{A:Around}(r:b8 k A)(h:j<=k):b8 j A:=⟨r.hd,by have:=r.dp;lia,by have:=r.un;lia⟩
theorem b8.deeper{k:Nat}{A:Around}(r:b8 (k+1) A)(env:Env):b8 k (A.deeper env):=
 ⟨r.hd,by have:=r.dp;show A.depth+1+3*k+5<_;lia,by have:=r.un;show A.units+3+16*k+200<_;lia⟩
theorem b8.depth{k:Nat}{A:Around}(r:b8 k A):A.depth<recursionLimit:=by have:=r.dp;lia
theorem b8.units{k:Nat}{A:Around}(r:b8 k A):A.units+64<cLine:=by have:=r.un;lia
def Ls:TA:=λ_ H Q=>Q [] H
def JU(ta:TE)(tr:TA):TA:=λU H Q=>ta U H λx H1=>tr U H1 λxs H2=>Q (x::xs) H2
section
variable{X:Cx}{e:Expr}{es:QU}{te:TE}{t:TA}{pos:Pos}
def gx:PA X [] Ls:=λ_ _ _ _ H Q I h=>Calls.spliced_nil ⟨[],H,I,.nil,h⟩
def cP(ha:PE X e te)(hr:PA X es t)(hs:starEach (e::es) X.env=(false,eval e X.env)::starEach es X.env:=by rfl):PA X (e::es) (JU te t):=by intro pos pins s U H Q I h;rw[hs];show wpAny _ _ (spliced ((false,eval e X.env)::backTo pos (starEach es X.env))) _ _ s;refine Calls.spliced_cons (aG (ha pins s U H _ I h) λu s1 ⟨x,H1,I1,r1,q1⟩=>?_);exact aG (hr pos pins s1 U H1 _ I1 q1) λus s2 ⟨xs,H2,I2,r2,q2⟩=>⟨x::xs,H2,I2,.cons r1 r2,q2⟩
def Lg(t:TA):TE:=λU H Q=>t U H λxs H1=>xs.length<=sizeLine/\∀p,H1 p=none->Q (.ref p) (upd H1 p (.tup xs))
def Ln(t:TA):TE:=λU H Q=>t U H λxs H1=>xs.length<=sizeLine/\∀p,H1 p=none->Q (.ref p) (upd H1 p (.lst xs))
def yS{x1}(h:PA X es t):PE X (.Tuple es x1 pos) (Lg t):=by intro pins s U H Q I hq;refine wpAny_Tuple_spliced (aG (h pos pins s U H _ I hq) λus s1 ⟨xs,H1,I1,r,z,q⟩=>⟨by rw[<-r.length];exact z,?_⟩);have hf:H1 s1.heap.objs.size=none:=I1.hok.fresh (M5 _);refine⟨.ref s1.heap.objs.size,upd H1 s1.heap.objs.size (.tup xs),I1.laid (t':=s1.toks) (λb u e=>ML _ e) (M5 _) ?_,rfl,q _ hf⟩;exact⟨z,us,r,⟨_,Mn _ rfl,rfl,_,rfl⟩⟩
def IJ(h:PA X es t):PE X (.List es pos) (Ln t):=by intro pins s U H Q I hq;refine wpAny_List_spliced (aG (h pos pins s U H _ I hq) λus s1 ⟨xs,H1,I1,r,z,q⟩=>⟨by rw[<-r.length];exact z,?_⟩);have hf:H1 s1.heap.objs.size=none:=I1.hok.fresh (M5 _);refine⟨.ref s1.heap.objs.size,upd H1 s1.heap.objs.size (.lst xs),I1.laid (t':=s1.toks) (λb u e=>ML _ e) (M5 _) ?_,rfl,q _ hf⟩;exact⟨z,us,0,r,Mn _ rfl⟩
end
abbrev Sp:=List V->Hp->VK->XK->Prop
abbrev jM:=List Env->Hp->Shared->XK->Value->Shared->Prop
structure yy(P:Program)(w:World)(K:QJ)(mg:QE)(base:Heap)(A:Around)(outer:List Env)(s:Shared)(H:Hp):Prop where
 frames:A.frames=some outer
 mod:Mod K mg base
 bs:∀b o,base.get? b=some o->s.heap.get? b=some o/\H b=none
 mw:base.objs.size<=s.heap.objs.size
 gf:s.heap.FunFrames base outer
 p7:∀b∈frs outer,H b=none
 hok:cA P w H s.heap
 bare:AllBare s.gens
def CE(outer:List Env)(P:Program)(w:World)(H:Hp)(s:Shared)(Q:VK)(u:Value)(s':Shared):Prop:=
 ∃v H',s'.os=s.os/\AllBare s'.gens/\Un (frs outer) [] H H' s.heap s'.heap/\cA P w H' s'.heap/\RelV v u/\Q v H'
def CR(CX:jM)(outer:List Env)(P:Program)(w:World)(H:Hp)(s:Shared)(Q:VK)(E:XK)(r:Result)(s':Shared):Prop:=
 match r with
 |.ok (.ret u)=>CE outer P w H s Q u s'
 |.ok _=>False
 |.error e=>CX outer H s E e s'
structure eT(P:Program)(w:World)(K:QJ)(mg:QE)(base:Heap)(CX:jM) (k:Nat)(f:Addr)(fd:FuncData)(ps:QY)(sp:Sp):Prop where
 len:∀vs H Q E,sp vs H Q E->vs.length=ps.length
 run:∀(A:Around)(outer:List Env)(s:Shared)(H:Hp)(args:Args)(us:QO)(vs:List V)(Q:VK)(E:XK),b8 k A->yy P w K mg base A outer s H->BindsTo s fd args (ps.zip us)->Vals vs us->sp vs H Q E->
  codeAny (model P w) A (.call (.ref f) args) (CR CX outer P w H s Q E) s
def eT.imp{P:Program}{w:World}{K:QJ}{mg:QE}{base:Heap}{CX:jM}{k:Nat}{f:Addr}{fd:FuncData}{ps:QY}{sp sp':Sp}(F:eT P w K mg base CX k f fd ps sp)(h:∀vs H Q E,sp' vs H Q E->sp vs H Q E):eT P w K mg base CX k f fd ps sp':=
 ⟨λvs H Q E q=>F.len vs H Q E (h _ _ _ _ q),λA outer s H args us vs Q E hr he hb hv hs=>F.run A outer s H args us vs Q E hr he hb hv (h _ _ _ _ hs)⟩
section
variable{X:Cx}{pins:QF}{U:St}{H:Hp}{s s':Shared}
def Inv.GC(I:Inv X pins U H s):yy X.prog X.w X.K X.mg X.base X.A X.stack s H:=
 ⟨I.ok.frames,I.ok.mod,I.bs,MZ I.ok.mw I.sz,I.stack,I.j6,I.hok,I.bare⟩
def Inv.after{Q:VK}{u:Value}(I:Inv X pins U H s)(h:CE X.stack X.prog X.w H s Q u s'):EP X pins U Q u s':=by obtain⟨v,H',os,bare,un,hok,r,q⟩:=h;obtain⟨hh,g,d,t,os'⟩:=s';obtain rfl:os'=s.os:=os;exact⟨v,H',I.call (h':=hh) (g':=g) (d':=d) (t':=t) (ch:=[]) un hok bare (λb z=>absurd z (by simp)),r,q⟩
end
def JK(sp:Sp)(dvs:List V)(E:XK)(t:TA):TE:=λU H Q=>t U H λvs H1=>sp (vs++dvs) H1 Q E
def Binds(K:QJ)(fd:FuncData)(ps:QY)(ds:QO):Prop:=
 ∀(s:Shared)(us:QO),K.In s.heap->(us++ds).length=ps.length->BindsTo s fd ⟨us,[]⟩ (ps.zip (us++ds))
def Binds.all{K:QJ}{fd:FuncData}{ps:QY}(h:∀us:QO,us.length=ps.length->bindArgs fd ⟨us,[]⟩=pure (ps.zip us)):Binds K fd ps []:=λs us _ hl=>by rw[NI]at hl⊢;exact .of_eq (h us hl)
def Passes(CX:jM)(X:Cx)(E:XK):Prop:=∀(pins:QF)(U:St)(H:Hp)(s:Shared)(e:Value)(s':Shared),Inv X pins U H s->CX X.stack H s E e s'->X.xe e s'
section
variable{X:Cx}{CX:jM}{k:Nat}{f C:Addr}{fd:FuncData}{ps:QY}{sp:Sp}{dvs:List V}{ds:QO}{E:XK}{x m:Str}{p pos apos:Pos}{e o:Expr}{es:QU}{ta:TE}{t:TA}
def Hg{pins:QF}{U:St}{H:Hp}{s:Shared}{Q:VK}{us:QO}{vs:List V}(F:eT X.prog X.w X.K X.mg X.base CX k f fd ps sp)(hr:b8 k X.A)(hb:Binds X.K fd ps ds)(hd:Vals dvs ds)(hx:Passes CX X E)(I:Inv X pins U H s)(r:Vals vs us)(h:sp (vs++dvs) H Q E):wpAny (model X.prog X.w) X.A (call (.ref f) us) (EP X pins U Q) X.xe s:=by
 have r2:Vals (vs++dvs) (us++ds):=r.append hd;have hl:(us++ds).length=ps.length:=by rw[<-r2.length];exact F.len _ _ _ _ h
 refine wpAny_call (OO (F.run X.A X.stack s H ⟨us,[]⟩ (us++ds) (vs++dvs) Q E hr I.GC (hb s us I.dH hl) r2 h) λr s' hq=>?_);cases r with
 |error e=>exact hx pins U H s e s' I hq
 |ok fl=>
  cases fl with
  |ret u=>exact I.after hq
  |next=>exact False.elim hq
  |brk=>exact False.elim hq
  |cont=>exact False.elim hq
def FI(F:eT X.prog X.w X.K X.mg X.base CX k f fd ps sp)(hr:b8 k X.A)(hg:Gl X x)(hm:X.mg x=some (.ref f))(hk:PySem.W.keepIn X.K (.ref f)=true)(hb:Binds X.K fd ps ds)(hd:Vals dvs ds)(hx:Passes CX X E)(ha:PA X (e::es) t)(hdb:(x==("__debug__":Str))=false:=by decide)(he:starEach (e::es) X.env=(false,eval e X.env)::starEach es X.env:=by rfl)(hpl:(backTo pos (starEach es X.env)).any (·.1)=false:=by rfl) : PE X (.Call (.Name x p) (e::es) [] pos) (JK sp dvs E t):=by intro pins s U H Q I h;refine Ol (jZ I hg hm ?_ hdb);refine PySem.W.callWith_K (h₀:=X.base) I.ok.mod.zw hk (aG (ha pos pins s U H _ I h) λus s1 ⟨vs,H1,I1,r,q⟩=>⟨I1.dH,?_⟩) he hpl;exact Hg F hr hb hd hx I1 r q
end
structure bA(N P:QY)(sc:Scope):Prop where
 kind:sc.kind=.function
 co:sc.isCoroutine=false
 gen:sc.isGenerator=false
 nd:N.Nodup
 pre:N.take P.length=P
 par:∀x∈P,sc.names.lookup x=some .local\/sc.names.lookup x=some .cell
 uu:∀y∈sc.names,y.2≠.free
theorem rA{kindOf:Str->Option NameKind}{x:Str}:∀{binds:List (Str×Value)}{m:QE},(∀v,(x,v)∉binds)->bindL kindOf binds m x=m x
 |[],_,_=>rfl
 | (n,v)::r,m,h=>by
  unfold bindL;rw[rA λw hw=>h w (MC _ hw)];split
  .have:x≠n:=by rintro rfl;exact h v M7
   simp[this]
  rfl
theorem rH{kindOf:Str->Option NameKind}{x:Str}:∀{binds:List (Str×Value)}{m:QE},(∀v,(x,v)∉binds)->bindC kindOf binds m x=m x
 |[],_,_=>rfl
 | (n,v)::r,m,h=>by
  unfold bindC;rw[rH λw hw=>h w (MC _ hw)];split;{rfl};have:x≠n:=by rintro rfl;exact h v M7
  simp[this]
theorem rY{kindOf:Str->Option NameKind}{x:Str}{v:Value}:∀{P:QY}{vs:QO}{i:Nat}{m:QE},P.Nodup->P[i]?=some x->vs[i]?=some v->kindOf x=some .local-> bindL kindOf (P.zip vs) m x=some v
 |[],_,_,_,_,h,_,_=>by simp at h
 |_::_,[],_,_,_,_,h,_=>by simp at h
 |p::P,w::vs,0,m,nd,h1,h2,hk=>by simp at h1 h2;subst h1;subst h2;show bindL kindOf ((p,w)::P.zip vs) m p=_;unfold bindL;rw[rA λv hv=>(N4.mp nd).1 (OP hv).1,if_pos hk];simp
 |p::P,w::vs,i+1,m,nd,h1,h2,hk=>by show bindL kindOf ((p,w)::P.zip vs) m x=_;unfold bindL;exact rY (i:=i) (N4.mp nd).2 (by simpa using h1) (by simpa using h2) hk
theorem rX{kindOf:Str->Option NameKind}{x:Str}{v:Value}:∀{P:QY}{vs:QO}{i:Nat}{m:QE},P.Nodup->P[i]?=some x->vs[i]?=some v->kindOf x≠some .local-> bindC kindOf (P.zip vs) m x=some v
 |[],_,_,_,_,h,_,_=>by simp at h
 |_::_,[],_,_,_,_,h,_=>by simp at h
 |p::P,w::vs,0,m,nd,h1,h2,hk=>by simp at h1 h2;subst h1;subst h2;show bindC kindOf ((p,w)::P.zip vs) m p=_;unfold bindC;rw[rH λv hv=>(N4.mp nd).1 (OP hv).1,if_neg hk];simp
 |p::P,w::vs,i+1,m,nd,h1,h2,hk=>by show bindC kindOf ((p,w)::P.zip vs) m x=_;unfold bindC;exact rX (i:=i) (N4.mp nd).2 (by simpa using h1) (by simpa using h2) hk
def start(N:QY)(vs:List V):St:=vs.map some++List.replicate (N.length-vs.length) none
def fK(CX:jM)(P:Program)(w:World)(K:QJ)(mg:QE)(base:Heap)(N:QY) (qual:Str)(scope:Scope)(f:Addr)(cd:Value)(A:Around)(outer:List Env)(s:Shared)(H:Hp)(E:XK):Cx where
 prog:=P
 w:=w
 K:=K
 mg:=mg
 base:=base
 A:=A.deeper (envOfC qual scope s.heap.objs.size f cd)
 N:=N
 s₀:=s
 H₀:=H
 env:=envOfC qual scope s.heap.objs.size f cd
 outer:=outer
 stack:=envOfC qual scope s.heap.objs.size f cd::outer
 ex:=[]
 calm:=true
 fn:=λ_=>true
 pn:=[]
 xe:=λe s'=>wpAny (model P w) (A.deeper (envOfC qual scope s.heap.objs.size f cd)) (leaving (envOfC qual scope s.heap.objs.size f cd) e) (λ_ s''=>CX outer H s E e s'') (λe' s''=>CX outer H s E e' s'') s'
def uY{sc:Scope}{n:Nat}{x:Str}(h:sc.names.lookup x=some .cell):∃c,(cellsFrom n sc.names []).lookup x=some c:=by have q:=PySem.W.cellsFrom_some sc.names n [] (.inl h);exact Pc.mp q
def z4{CX:jM}{P:Program}{w:World}{K:QJ}{mg:QE}{base:Heap}{N ps:QY}{qual:Str}{scope:Scope}{f:Addr}{cd:Value}{A:Around}{outer:List Env}{s s1:Shared}{H:Hp}{E:XK}{us:QO}{vs:List V}(S:bA N ps scope)(hd:A.handled=none)(e0:yy P w K mg base A outer s H)(hl:vs.length=ps.length)(r:Vals vs us)(x:InCallC s s.heap.objs.size (bindL (envOfC qual scope s.heap.objs.size f cd).kindOf (ps.zip us) λ_=>none) (cellsFrom (s.heap.objs.size+1) scope.names []) (bindC (envOfC qual scope s.heap.objs.size f cd).kindOf (ps.zip us) λ_=>none) s1) : Inv (fK CX P w K mg base N qual scope f cd A outer s H E) [] (start N vs) H s1:=by
 have hpl:ps.length<=N.length:=by have:=congrArg List.length S.pre;rw[Mz]at this;lia
 obtain⟨h1,tk,rfl,hk⟩:=x.done;have noA:∀b:Addr,b∉(fK CX P w K mg base N qual scope f cd A outer s H E).ex:=λb z=>absurd (show b∈([]:QS)from z) (by simp);refine⟨⟨e0.mod,S.kind,rfl,rfl,M5 _,λy z c h1 h2=>?_,λy hy=>?_,λy c _ h=>?_,λ_=>hd,Around.frames_deeper e0.frames,.inr ⟨rfl,rfl⟩,λb z=>absurd z (noA b),e0.bs,e0.mw,λb _ _=>noA b,λb z=>absurd z (noA b),e0.gf,e0.p7⟩,
  rfl,e0.bare,Un.kept hk,⟨_,x.toInCall.ns,λi y v h1 h2 h3=>?_⟩,λy c h=>⟨_,x.cell y c h⟩,e0.hok.fresh (M5 _),λy c h=>?_,λp hp=>absurd (show p∈([]:QF)from hp) (by simp),e0.hok.kept hk,?_⟩
 .exact name_of_addr x.apart (OQ h1) (OQ h2)
 .have hy:scope.names.lookup y=some .cell\/scope.names.lookup y=some .free:=hy;rcases hy with hy|hy;{exact uY hy};exact absurd rfl (S.uu _ (OQ hy))
 .exact Nt (x.above y c (OQ h))
 .have hi:i<vs.length:=by unfold start at h2;by_cases hi:i<vs.length;{exact hi};rw[NJ (by simpa using hi)]at h2;rw[Pd]at h2;split at h2<;>cases h2
  have ha:vs[i]?=some v:=by
   unfold start at h2;rw[NW (by simpa using hi),MQ]at h2;cases e:vs[i]? with
   |none=>rw[e]at h2;cases h2
   |some a=>rw[e]at h2;cases h2;rfl
  obtain⟨u,hu,rv⟩:=r.get ha;have hp:ps[i]?=some y:=by rw[<-S.pre,List.getElem?_take_of_lt (by lia)];exact h1
  have ndP:ps.Nodup:=by rw[<-S.pre];exact S.nd.sublist (List.take_sublist _ _)
  refine⟨u,rv,?_⟩;rcases S.par y (Ma hp)with k|k;{exact .inl ⟨k,rY ndP hp hu k⟩};obtain⟨c,e⟩:=uY (n:=s.heap.objs.size+1) k;refine .inr ⟨.inl k,c,e,?_⟩;have q:=x.cell y c e;rw[rX ndP hp hu (by show scope.names.lookup y≠_;rw[k];decide)]at q;exact q
 .exact e0.hok.fresh (Nt (x.above y c (OQ h)))
 unfold start;show _=N.length;rw[MV,M9,N5];lia
def Jd{CX:jM}{P:Program}{w:World}{K:QJ}{mg:QE}{base:Heap}{k:Nat}{f:Addr}{name qual:Str}{params:Arguments}{body:QV}{scope:Scope}{dV kV doc pm cdv ct oc:Value}{an od:QN}{osl:QB}{N ps:QY}{sp:Sp}(lk:K.lookup f=some ⟨oc,od,.func (PySem.W.fnOf name qual params body scope dV kV doc pm an cdv ct),osl⟩)(hcd:PySem.W.codeIn K cdv qual=true)(S:bA N ps scope)(len:∀vs H Q E,sp vs H Q E->vs.length=ps.length)(hbody:∀(A:Around)(outer:List Env)(s:Shared)(H:Hp)(vs:List V)(Q:VK)(E:XK),b8 k (A.deeper (envOfC qual scope s.heap.objs.size f cdv))->sp vs H Q E-> ∃t,jA (fK CX P w K mg base N qual scope f cdv A outer s H E) body t/\t { nx:=λ_ H'=>Q .aN H',rt:=Q } (start N vs) H) : eT P w K mg base CX (k+1) f (PySem.W.fnOf name qual params body scope dV kV doc pm an cdv ct) ps sp:=by
 refine⟨len,λA outer s H args us vs Q E hr e0 hb r hsp=>?_⟩;have hl:=len _ _ _ _ hsp;have KX:K.In s.heap:=e0.mod.zw.keeps λb o e=>(e0.bs b o e).1;have lim:s.heap.NoLimit:=e0.mod.nolimit.keeps λb o e=>(e0.bs b o e).1;have hkind:∀y∈ps.zip us,scope.names.lookup y.1=some .local\/(scope.names.lookup y.1=some .cell/\((cellsFrom (s.heap.objs.size+1) scope.names []).lookup y.1).isSome=true):=λ⟨n,v⟩ hy=>by rcases S.par n (OP hy).1 with q|q;{exact .inl q};exact .inr ⟨q,PySem.W.cellsFrom_some _ _ _ (.inl q)⟩
 refine codeAny_call_function hr.depth (KX _ _ lk) rfl S.co S.gen rfl (PySem.W.codeRec_of KX hcd) (hb _ _ _ _ ?_);refine wpAny_newFunctionEnv_cells S.kind hkind λenv he s1 x=>?_;subst he;refine⟨lim.keeps x.toInCall.keep,codeAny_func ?_⟩;obtain⟨t,ht,hq⟩:=hbody A outer s H vs Q E (hr.deeper _) hsp;have I:Inv (fK CX P w K mg base N qual scope f cdv A outer s H E) [] (start N vs) H s1:=z4 S hr.hd e0 hl r x;refine Me (ht [] s1 (start N vs) H _ I hq) (λfl s' hs=>?_) λe s' hs=>hs;have fin:∀{σ':St}{H':Hp}{v:V}{u:Value},Inv (fK CX P w K mg base N qual scope f cdv A outer s H E) [] σ' H' s'->RelV v u->Q v H'->CE outer P w H s Q u s':=
  λ{σ' H' v u} J rv q=>⟨v,H',J.os,J.bare,J.base,J.hok,rv,q⟩
 cases fl with
 |ret u=>obtain⟨v,σ',H',J,rv,q⟩:=hs;exact fin J rv q
 |next=>obtain⟨σ',H',J,q⟩:=hs;exact fin (v:=V.aN) (u:=Value.none) J rfl q
 |brk=>obtain⟨_,_,_,q⟩:=hs;exact False.elim q
 |cont=>obtain⟨_,_,_,q⟩:=hs;exact False.elim q
section
variable{X:Cx}{x:Str}{p pos:Pos}{e:Expr}{es:QU}{t:TA}{id T:String}{r:List V->Hp->VK->Prop}
def Kp(r:List V->Hp->VK->Prop)(t:TA):TE:=λU H Q=>t U H λvs H1=>r vs H1 Q
def kT(hc:bO X (.builtin id) r)(hg:Gl X x)(hm:X.mg x=none)(hv:bootBuiltins x=some (.builtin id))(ha:PA X (e::es) t)(hn:x≠"__name__":=by decide)(hdb:(x==("__debug__":Str))=false:=by decide)(he:starEach (e::es) X.env=(false,eval e X.env)::starEach es X.env:=by rfl)(hpl:(backTo pos (starEach es X.env)).any (·.1)=false:=by rfl):PE X (.Call (.Name x p) (e::es) [] pos) (Kp r t):=by intro pins s U H Q I h;refine Ol (j7 I hg hm hv ?_ hn hdb);exact PyProof.Rows.callWith_builtin1 (aG (ha pos pins s U H _ I h) λus s1 ⟨vs,H1,I1,r1,q1⟩=>hc pins s1 U H1 vs us Q I1 r1 q1) he hpl
def lT(hc:bO X (.type T) r)(hg:Gl X x)(hm:X.mg x=none)(hv:bootBuiltins x=some (.type T))(ha:PA X (e::es) t)(hn:x≠"__name__":=by decide)(hdb:(x==("__debug__":Str))=false:=by decide)(he:starEach (e::es) X.env=(false,eval e X.env)::starEach es X.env:=by rfl)(hpl:(backTo pos (starEach es X.env)).any (·.1)=false:=by rfl):PE X (.Call (.Name x p) (e::es) [] pos) (Kp r t):=by intro pins s U H Q I h;refine Ol (j7 I hg hm hv ?_ hn hdb);exact Oj (aG (ha pos pins s U H _ I h) λus s1 ⟨vs,H1,I1,r1,q1⟩=>hc pins s1 U H1 vs us Q I1 r1 q1) he hpl
end
end L2
namespace HT
open PySem PyProof.Rows
section
variable{prog:Program}{w:World}{A:Around}{E:QC}{s:Shared}
def DZ{t b:Addr}{vs ws:QO}{Q:QC}(ht:IsTup s.heap t vs.toArray)(hb:IsTup s.heap b ws.toArray)(hv:vs≠[])(h1:ws=[]->Q (.ref t) s)(h2:ws≠[]->Q (.ref s.heap.objs.size) { s with heap:=s.heap.push { cls:=.type "tuple",data:=.seq (vs++ws).toArray } })(hsz:vs.length+ws.length<=sizeLine):wpAny (model prog w) A (binaryOp .Add (.ref t) (.ref b)) Q E s:=by
 obtain⟨⟨cls,dd,data,sl⟩,ho,hc,n,hd⟩:=id ht;obtain⟨⟨cls2,dd2,data2,sl2⟩,ho2,hc2,n2,hd2⟩:=id hb;simp only at hc hd hc2 hd2;subst hc hd hc2 hd2;have e:vs.toArray++ws.toArray=(vs++ws).toArray:=by simp
 by_cases hw:ws=[]
 .exact concat_meets ⟨_,ho,rfl⟩ ⟨_,ho2,rfl⟩ noFill_tuple_add seq_tuple_add PySem.F.slot_tuple_add PySem.F.entry_tuple_add (PySem.F.args_tuple_add_2 _ _)
   (tuple_addW1 t b vs.toArray ws.toArray n n2 dd dd2 sl sl2 (by simpa using hv) (by simp[hw])) ⟨ho,ho2,h1 hw⟩
 refine concat_meets ⟨_,ho,rfl⟩ ⟨_,ho2,rfl⟩ noFill_tuple_add seq_tuple_add PySem.F.slot_tuple_add PySem.F.entry_tuple_add (PySem.F.args_tuple_add_2 _ _)
  (tuple_addW2 t b vs.toArray ws.toArray n n2 dd dd2 sl sl2 (by simpa using hv) (by simpa using hw) (by rw[MK,MK];exact hsz)) ⟨ho,ho2,?_⟩
 rw[e];exact h2 hw
def aD(n d:Nat):Option Int->Nat
 |none=>d
 |some v=>if v<0 then(v+(n:Int)).toNat else min v.toNat n
def nh(n d k:Nat):aD n d (some (k:Int))=min k n:=by show(if(k:Int)<0 then((k:Int)+(n:Int)).toNat else min (k:Int).toNat n)=min k n;rw[if_neg (by lia),Int.toNat_natCast]
def GQ(n d:Nat)(hd:d<=n)(o:Option Int):aD n d o<=n:=by
 cases o with
 |none=>exact hd
 |some v=>show(if v<0 then(v+(n:Int)).toNat else min v.toNat n)<=n;by_cases hv:v<0;{rw[if_pos hv];lia};rw[if_neg hv];exact Pe _ _
def v7(v:Int) (n d:Nat):(if v<0 then max (v+(n:Int)) 0 else min v (n:Int))=((aD n d (some v):Nat):Int):=by show(if v<0 then max (v+(n:Int)) 0 else min v (n:Int))=(((if v<0 then(v+(n:Int)).toNat else min v.toNat n):Nat):Int);by_cases hv:v<0;{simp only[if_pos hv];lia};simp only[if_neg hv];lia
def xD(lo hi:Option Int) (n:Nat):Builtin.Slice.sliceAdjust lo hi 1 (n:Int)=(((aD n 0 lo:Nat):Int),((aD n n hi:Nat):Int)):=by
 have h1:¬((1:Int)<0):=by lia
 unfold Builtin.Slice.sliceAdjust;simp only[h1,if_false];refine Prod.ext ?_ ?_
 .cases lo with
  |none=>rfl
  |some v=>exact v7 v n 0
 cases hi with
 |none=>rfl
 |some v=>exact v7 v n n
def yf(i j:Nat):Builtin.Slice.slicePlaces (i:Int) (j:Int) 1=j-i:=by
 unfold Builtin.Slice.slicePlaces;have h1:(1:Int)>0:=by lia
 simp only[h1,if_true,Int.ediv_one];split<;>lia
def pM{v:Value}{o:Option Int}{Q:Option Int->Shared->Prop}(p:IsPart v o)(h:Q o s):wpAny (model prog w) A (Builtin.Slice.slicePartIndex v) Q E s:=by
 cases p with
 |none=>exact slicePart_none h
 |int i t=>exact slicePart_int h
def jl{sl:Addr}{vl vu:Value}{lo hi:Option Int}{n:Nat}{Q:Int×Int×Nat->Shared->Prop}(hs:s.heap.IsSliceOf sl vl vu .none)(pl:IsPart vl lo)(pu:IsPart vu hi)(h:Q (((aD n 0 lo:Nat):Int),1,aD n n hi-aD n 0 lo) s):wpAny (model prog w) A (Builtin.Slice.sliceApplied (.ref sl) (pure (n:Int))) Q E s:=by obtain⟨os,hos,hcs,hds⟩:=id hs;unfold Builtin.Slice.sliceApplied Builtin.Slice.sliceFields;refine M1 (M1 (NP hos hds (x:=vl) rfl (M1 (NP hos hds (x:=vu) rfl (M1 (NP hos hds (x:=.none) rfl (M8 ?_)))))));refine M1 (slicePart_none ?_);show wpAny _ _ (if((1:Int)==0)=true then _ else _) _ _ s;rw[if_neg (by decide)];refine M1 (pM pl (M1 (pM pu (M1 (M8 ?_)))));show wpAny _ _ (match Builtin.Slice.sliceAdjust lo hi 1 (n:Int)with|(lo,hi)=>pure (lo,(1:Int),Builtin.Slice.slicePlaces lo hi 1)) _ _ s;rw[xD lo hi n];show wpAny _ _ (pure (((aD n 0 lo:Nat):Int),(1:Int),Builtin.Slice.slicePlaces ((aD n 0 lo:Nat):Int) ((aD n n hi:Nat):Int) 1)) _ _ s;rw[yf];exact M8 h
def Bh(xs:QL) (i k:Nat):((List.range k).filterMap λ(m:Nat)=>xs[((i:Int)+(m:Int)*1).toNat]?).toArray=((xs.toList.drop i).take k).toArray:=by
 have e:(λ(m:Nat)=>xs[((i:Int)+(m:Int)*1).toNat]?)=λm=>xs[i+m]?:=by
  funext m;have:((i:Int)+(m:Int)*1).toNat=i+m:=by lia
  rw[this]
 rw[e];have:=pick_run xs i k;rw[List.filterMap_map]at this;have e2:((λx=>xs[x]?)∘λx=>i+x)=λm=>xs[i+m]?:=rfl;rw[e2]at this;rw[this]
def nv{t sl:Addr}{items:QL}{vl vu:Value}{lo hi:Option Int}{Q:QC}(ht:IsTup s.heap t items)(hs:s.heap.IsSliceOf sl vl vu .none)(pl:IsPart vl lo)(pu:IsPart vu hi)(hw:¬(aD items.size 0 lo=0/\aD items.size items.size hi=items.size))(h:Q (.ref s.heap.objs.size) { s with heap:=s.heap.push { cls:=.type "tuple",data:=.seq ((items.toList.drop (aD items.size 0 lo)).take (aD items.size items.size hi-aD items.size 0 lo)).toArray } })(hsz:items.size<=sizeLine):wpAny (model prog w) A (getItem (.ref t) (.ref sl)) Q E s:=by
 have htake:sizeOk (.seq ((items.toList.drop (aD items.size 0 lo)).take (aD items.size items.size hi-aD items.size 0 lo)).toArray):=by show((items.toList.drop (aD items.size 0 lo)).take (aD items.size items.size hi-aD items.size 0 lo)).toArray.size<=sizeLine;rw[MK,Mz,Nv,Mh];exact MZ (Pe _ _) (MZ (Nat.sub_le _ _) hsz)
 have hj:aD items.size items.size hi<=items.size:=GQ _ _ (M5 _) hi;obtain⟨os,hos,hcs,hds⟩:=id hs;have hTs:s.TypeIs (.ref sl) "slice":=⟨os,hos,hcs⟩;unfold getItem;try with_reducible refine Mx ?_
 first|refine M1 (M8 ?_)|skip
 refine M1 (wpAny_sequenceKey ht.typeIs (by decide) ?_);refine M1 (wpAny_callSpecial?_slot (name:=Str.ofString "__getitem__") ht.typeIs Oo
  (Oq Oo ht.typeIs entry_tuple_getitem ?_ (args_tuple_getitem _ _)))
 show wpAny _ _ (Builtin.Tuple.tupleItemsOf (.ref t)>>=_) _ _ s;refine M1 (tupleItemsOf_ ht ?_);refine M1 (OR hTs ?_);rw[if_pos (by decide)];refine M1 (jl hs pl pu ?_);have hno:¬((((aD items.size 0 lo:Nat):Int)==0&&(1:Int)==1&&(aD items.size items.size hi-aD items.size 0 lo)==items.size)=true):=by intro q;rw[MA,MA]at q;have q1:((aD items.size 0 lo:Nat):Int)=0:=Nj q.1.1;have q2:aD items.size items.size hi-aD items.size 0 lo=items.size:=Nj q.2;exact hw ⟨by lia,by lia⟩
 show wpAny _ _ (if(((aD items.size 0 lo:Nat):Int)==0&&(1:Int)==1&&(aD items.size items.size hi-aD items.size 0 lo)==items.size)=true then _ else _) _ _ s;rw[if_neg hno,Bh];first
  |exact M1 (m:=Builtin.Tuple.tupleExact _) (Nk (M8 ⟨_,rfl,M8 h⟩) htake)
  |exact M1 (m:=Builtin.Tuple.tupleExact _) (Nk (M1 (M8 (M8 ⟨_,rfl,M8 h⟩))) htake)
  |exact M1 (M1 (m:=Builtin.Tuple.tupleExact _) (Nk (M8 (M8 ⟨_,rfl,M8 h⟩)) htake))
  |exact M1 (M1 (m:=Builtin.Tuple.tupleExact _) (Nk (M8 ⟨_,rfl,M8 h⟩) htake))
end
end HT
namespace L2
open PySem PySem.Spec PyProof.Rows
abbrev TO:=St->Hp->(Option Int->Hp->Prop)->Prop
def PO(X:Cx)(e:Option Expr)(t:TO):Prop:=
 ∀(pins:QF)(s:Shared)(U:St)(H:Hp)(Q:Option Int->Hp->Prop),Inv X pins U H s->t U H Q->
  wpAny (model X.prog X.w) X.A (evalPart e X.env) (λu s'=>∃o H',Inv X pins U H' s'/\IsPart u o/\Q o H') X.xe s
def Fz:TO:=λ_ H Q=>Q none H
def IZ(t:TE):TO:=λU H Q=>t U H λx H1=>∃i,x=.int i/\Q (some i) H1
def intsAre_of{ns:QX}:∀{us:QO},Vals (ns.map V.int) us->IntsAre us ns:=by
 induction ns with
 |nil=>intro us r;rw[Ot]at r;cases r;exact .nil
 |cons n ns ih=>
  intro us r;rw[Mb]at r;cases r with
  |cons r1 r2=>obtain⟨t,e⟩:=r1;subst e;exact .cons n t (ih r2)
section
variable{X:Cx}{e:Expr}{te:TE}{lo hi:Option Expr}{tl th:TO}{pos p2:Pos}
def EH:PO X none Fz:=by intro pins s U H Q I h;rw[evalPart_none];exact M8 ⟨none,H,I,.none,h⟩
def Fw(h:PE X e te):PO X (some e) (IZ te):=by intro pins s U H Q I hw;rw[evalPart_some];refine aG (h pins s U H _ I hw) λu s1 ⟨x,H1,I1,r1,q1⟩=>?_;obtain⟨i,rfl,q⟩:=q1;obtain⟨t,rfl⟩:=r1;exact⟨some i,H1,I1,.int i t,q⟩
def ze(X:Cx)(r:V->Option Int->Option Int->Hp->VK->Prop):Prop:=
 ∀(pins:QF)(s:Shared)(U:St)(H:Hp) (x:V)(v vl vu:Value)(lo hi:Option Int)(sl:Addr)(Q:VK),Inv X pins U H s->RelV x v->s.heap.IsSliceOf sl vl vu .none->IsPart vl lo->IsPart vu hi->r x lo hi H Q->
  ∃T id,typeLookup (.type T) "__getitem__"=pure (some (.builtin id))/\s.TypeIs v T/\wpAny (model X.prog X.w) X.A (getItem v (.ref sl)) (EP X pins U Q) X.xe s
def L3(r:V->Option Int->Option Int->Hp->VK->Prop)(te:TE)(tl th:TO):TE:=λU H Q=>te U H λx H1=>tl U H1 λl H2=>th U H2 λu H3=>r x l u H3 Q
def Cj{r:V->Option Int->Option Int->Hp->VK->Prop}(hr:ze X r)(he:PE X e te)(hl:PO X lo tl)(hu:PO X hi th):PE X (.Subscript e (.Slice lo hi none p2) pos) (L3 r te tl th):=by intro pins s U H Q I h;refine Subscript_ (aG (he pins s U H _ I h) λv s1 ⟨x,H1,I1,r1,q1⟩=>?_);refine wpAny_Slice (aG (hl pins s1 U H1 _ I1 q1) λvl s2 ⟨l,H2,I2,pl,q2⟩=>aG (hu pins s2 U H2 _ I2 q2) λvu s3 ⟨u,H3,I3,pu,q3⟩=>?_);rw[evalPart_none];refine M8 ?_;have I4:Inv X pins U H3 { s3 with heap:=s3.heap.push { cls:=.type "slice",data:=.fields #[vl,vu,.none] } }:=I3.kept (t':=s3.toks) λb ob q=>ML _ q;obtain⟨T,id,hT,ht,hg⟩:=hr pins { s3 with heap:=s3.heap.push { cls:=.type "slice",data:=.fields #[vl,vu,.none] } } U H3 x v vl vu l u s3.heap.objs.size Q I4 r1 (Heap.IsSliceOf.new ..) pl pu q3;show wpAny (model X.prog X.w) X.A (subscriptTail e (.Slice lo hi none p2) v (.ref s3.heap.objs.size)) (EP X pins U Q) X.xe { s3 with heap:=s3.heap.push { cls:=.type "slice",data:=.fields #[vl,vu,.none] } };exact tail_any (ops:=[.ref s3.heap.objs.size,v]) ht hT hg (by with_unfolding_all rfl)
def kI(xs:List V)(lo hi:Option Int):List V:=(xs.drop (HT.aD xs.length 0 lo)).take (HT.aD xs.length xs.length hi-HT.aD xs.length 0 lo)
def nI(xs:List V)(lo hi:Option Int):(kI xs lo hi).length<=xs.length:=by unfold kI;rw[Mz,Nv];exact MZ (Pe _ _) (Nat.sub_le _ _)
def La(K:QJ):V->Option Int->Option Int->Hp->VK->Prop:=λx lo hi H Q=>∃a xs,x=.ref a/\bG K H a xs /\
 ¬(HT.aD xs.length 0 lo=0/\HT.aD xs.length xs.length hi=xs.length)/\∀p,H p=none->Q (.ref p) (upd H p (.tup (kI xs lo hi)))
def Hz:ze X (La X.K):=by
 intro pins s U H x v vl vu lo hi sl Q I rx hs pl pu h;obtain⟨a,xs,rfl,hx,hw,q⟩:=h;cases rx;obtain⟨its,r,ht,hz⟩:=I.tuple hx;have hlen:its.toArray.size=xs.length:=by rw[MK];exact r.length.symm
 refine⟨"tuple",_,Q6,ht.typeIs,?_⟩;refine HT.nv ht hs pl pu (by rw[hlen];exact hw) ?_ (by rw[hlen];exact hz);rw[hlen];refine⟨.ref s.heap.objs.size,_,I.laid (t':=s.toks) (o:=.tup (kI xs lo hi)) (λb ob q=>ML _ q) (M5 _) ?_,rfl,q _ (I.hok.fresh (M5 _))⟩;exact⟨MZ (nI xs lo hi) hz,_,(r.drop (HT.aD xs.length 0 lo)).take (HT.aD xs.length xs.length hi-HT.aD xs.length 0 lo),IsTup.new _ _⟩
def DJ(K:QJ):R2:=λx y H Q=>∃a b xs ys,x=.ref a/\y=.ref b/\bG K H a xs/\bG K H b ys/\xs≠[]/\xs.length+ys.length<=sizeLine /\
 (ys=[]->Q (.ref a) H)/\(ys≠[]->∀p,H p=none->Q (.ref p) (upd H p (.tup (xs++ys))))
def Vals.qD{xs:List V}{us:QO}(r:Vals xs us):us=[]↔xs=[]:=by
 cases r with
 |nil=>simp
 |cons _ _=>simp
def D9:bw X (binaryOp .Add) (DJ X.K):=by intro pins s U H x y v u Q I rx ry h;obtain⟨a,b,xs,ys,rfl,rfl,ha,hb,hx,hz,q1,q2⟩:=h;cases rx;cases ry;obtain⟨its,r1,p1,_⟩:=I.tuple ha;obtain⟨its2,r2,p2,_⟩:=I.tuple hb;refine HT.DZ p1 p2 (λz=>hx (r1.qD.mp z)) (λz=>⟨.ref a,H,I,rfl,q1 (r2.qD.mp z)⟩) (λz=>?_) (by rw[<-r1.length,<-r2.length];exact hz);refine⟨.ref s.heap.objs.size,_,I.laid (t':=s.toks) (o:=.tup (xs++ys)) (λb ob q=>ML _ q) (M5 _) ?_,rfl,q2 (λw=>z (r2.qD.mpr w)) _ (I.hok.fresh (M5 _))⟩;exact⟨by rw[MV];exact hz,_,r1.append r2,IsTup.new _ _⟩
end
def lK(n:Nat) (i:Int):Option Nat:=if 0<=i then(if i<n then some i.toNat else none)else if-(n:Int)<=i then some (i+n).toNat else none
def c8{α:Type}(xs:List α) (i:Int):Option α:=(lK xs.length i).bind λj=>xs[j]?
def wG{n:Nat}{i:Int}{j:Nat}(h:lK n i=some j):seqIndex? i n=some j/\j<n/\-(n:Int)<=i/\i<n:=by unfold lK at h;by_cases h0:0<=i;{rw[if_pos h0]at h;by_cases h1:i<n;{rw[if_pos h1]at h;have e:i.toNat=j:=Option.some.inj h;exact⟨by rw[seqIndex_of h0 h1,e],by lia,by lia,h1⟩};rw[if_neg h1]at h;cases h};rw[if_neg h0]at h;by_cases h1:-(n:Int)<=i;{rw[if_pos h1]at h;have e:(i+n).toNat=j:=Option.some.inj h;exact⟨by rw[seqIndex_neg (by lia) h1,e],by lia,h1,by lia⟩};rw[if_neg h1]at h;cases h
def qK{α:Type}{xs:List α}{i:Int}{v:α}(h:c8 xs i=some v):∃j,seqIndex? i xs.length=some j/\xs[j]?=some v/\j<xs.length/\-(xs.length:Int)<=i/\i<xs.length:=by
 unfold c8 at h;cases e:lK xs.length i with
 |none=>rw[e]at h;cases h
 |some j=>rw[e]at h;obtain⟨h1,h2,h3,h4⟩:=wG e;exact⟨j,h1,h,h2,h3,h4⟩
def ki(b:Expr):Prop:=∀o i,subscripted b false o i=operate [o,i] (getItem o i)
def lO(X:Cx)(r:R2):Prop:=
 ∀(value slice:Expr)(pins:QF)(s:Shared)(U:St)(H:Hp) (x y:V)(v u:Value)(Q:VK),Inv X pins U H s->RelV x v->RelV y u->r x y H Q->
  subscripted slice false v u=operate [v,u] (getItem v u)->wpAny (model X.prog X.w) X.A (subscriptTail value slice v u) (EP X pins U Q) X.xe s
def Ke(X:Cx)(id:String)(r:V->List V->Hp->VK->Prop):Prop:=
 ∀(pins:QF)(s:Shared)(U:St)(H:Hp) (x:V)(xs:List V)(v:Value)(us:QO)(Q:VK),Inv X pins U H s->RelV x v->Vals xs us->r x xs H Q->
  wpAny (model X.prog X.w) X.A (call (.builtin id) (v::us)) (EP X pins U Q) X.xe s
section
variable{X:Cx}{a b:Expr}{ta tb:TE}{pos:Pos}
def lO.or{r r':R2}(h:lO X r)(h':lO X r'):lO X (λx y H Q=>r x y H Q\/r' x y H Q):=by intro value slice pins s U H x y v u Q I rx ry q hs;rcases q with q|q;{exact h value slice pins s U H x y v u Q I rx ry q hs};exact h' value slice pins s U H x y v u Q I rx ry q hs
def C6{r:R2}(hr:lO X r)(ha:PE X a ta)(hb:PE X b tb)(hs:ki b):PE X (.Subscript a b pos) (GN r ta tb):=by intro pins s U H Q I h;exact Subscript_ (BN ha hb I h λv u s2 x y H2 I2 rx ry q=>hr a b pins s2 U H2 x y v u Q I2 rx ry q (hs _ _))
inductive Cs(K:QJ) (x:V) (y:V)(H:Hp)(Q:VK):Prop
 |mk:∀p xs i v,(x=.ref p)->(y=.int i)->(bD K H p xs)->(c8 xs i=some v)->(Q v H)->Cs K x y H Q
def Gd(K:QJ):R2:=λx y H Q=>Cs K x y H Q
inductive DA(K:QJ) (x:V) (y:V)(H:Hp)(Q:VK):Prop
 |mk:∀p xs i v,(x=.ref p)->(y=.int i)->(bG K H p xs)->(c8 xs i=some v)->(Q v H)->DA K x y H Q
def IV(K:QJ):R2:=λx y H Q=>DA K x y H Q
inductive CH(x:V) (y:V)(H:Hp)(Q:VK):Prop
 |mk:∀z i c,(x=.str z)->(y=.int i)->(z.length<=sizeLine)->(c8 z.cps.toList i=some c)->(Q (.str ⟨#[c]⟩) H)->CH x y H Q
def FW:R2:=λx y H Q=>CH x y H Q
def EO:lO X (Gd X.K):=by
 intro value slice pins s U H x y v u Q I rx ry h hs;obtain⟨p,xs,i,z,rfl,rfl,hq,he,q⟩:=h;cases rx;obtain⟨t,rfl⟩:=ry;obtain⟨its,r,pl,hz⟩:=I.list hq;obtain⟨j,h1,h2,h3,h4,h5⟩:=qK he;obtain⟨w,ew,rw'⟩:=r.get h2;have hl:=r.length;have hn:=kD;have fin:EP X pins U Q w s:=⟨z,H,I,rw',q⟩;by_cases h0:0<=i
 .have hj:i.toNat=j:=by rw[seqIndex_of h0 h5]at h1;exact Option.some.inj h1
  exact item_listR pl.isList h0 (by lia) (by rw[hj];simpa using ew) fin hs
 have hj:(i+(its.toArray.size:Int)).toNat=j:=by rw[seqIndex_neg (by lia) h4]at h1;rw[MK,<-hl];exact Option.some.inj h1
 exact subscriptTail_builtinR (x:=w) pl.isList.typeIs slot_list_getitem.lookup
  (wpAny_getItem_list_neg (Q:=λr s'=>r=w/\EP X pins U Q r s') pl.isList (by lia) (by rw[MK]<;>lia) (by lia) (by rw[hj];simpa using ew) ⟨rfl,fin⟩) hs
def Ir:lO X (IV X.K):=by
 intro value slice pins s U H x y v u Q I rx ry h hs;obtain⟨p,xs,i,z,rfl,rfl,hq,he,q⟩:=h;cases rx;obtain⟨t,rfl⟩:=ry;obtain⟨its,r,pl,hz⟩:=I.tuple hq;obtain⟨j,h1,h2,h3,h4,h5⟩:=qK he;obtain⟨w,ew,rw'⟩:=r.get h2;have hl:=r.length;have hn:=kD;have fin:EP X pins U Q w s:=⟨z,H,I,rw',q⟩;exact subscriptTail_builtinR (x:=w) pl.typeIs slot_tuple_getitem.lookup
  (getItem_tuple (j:=j) (Q:=λr s'=>r=w/\EP X pins U Q r s') pl (by lia) (by lia) (by rw[MK,<-hl];exact h1) (by simpa using ew) ⟨rfl,fin⟩) hs
def IK:lO X FW:=by
 intro value slice pins s U H x y v u Q I rx ry h hs;obtain⟨z,i,c,rfl,rfl,hz,he,q⟩:=h;obtain⟨t,rfl⟩:=rx;obtain⟨t',rfl⟩:=ry;obtain⟨j,h1,h2,h3,h4,h5⟩:=qK he;have hl:z.cps.toList.length=z.length:=by simp[Str.length]
 rw[hl]at h1 h4 h5;have hn:=kD;exact tail_any (typeIs_str s z t) slot_str_getitem.lookup (getItem_str (c:=c) (by
  have e1:decide (i < -(2^63:Int))=false:=Ms (by lia)
  have e2:decide (i >= 2^63)=false:=Ms (by lia)
  rw[e1,e2,Bool.or_false]) (by rw[h1];simpa using h2) ⟨.str ⟨#[c]⟩,H,I.tok _,⟨_,rfl⟩,q⟩) hs
def G4(K:QJ):R2:=λx y H Q=>Gd K x y H Q\/IV K x y H Q\/FW x y H Q
def zz:lO X (G4 X.K):=EO.or (Ir.or IK)
def yz(its:QO) (n j:Nat)(u:Value):Obj.mapSeq (·.setIfInBounds j u) { cls:=.type "list",data:=.seq its.toArray n }={ cls:=.type "list",data:=.seq (its.set j u).toArray n }:=by simp[Obj.mapSeq]
theorem Inv.lst{pins:QF}{U:St}{H:Hp}{s:Shared}{p:Addr}{xs:List V}(I:Inv X pins U H s)(h:H p=some (.lst xs)) : ∃(its:QO) (n:Nat),Vals xs its/\s.heap.get? p=some { cls:=.type "list",data:=.seq its.toArray n }/\xs.length<=sizeLine:=by obtain⟨z,its,n,r,e⟩:=I.hok p _ h;exact⟨its,n,r,e,z⟩
def Inv.Ie{pins:QF}{U:St}{H:Hp}{s:Shared}{p:Addr}{xs ys:List V}{its its':QO}{n n':Nat}{f:Obj->Obj}(I:Inv X pins U H s)(h:H p=some (.lst xs))(ho:s.heap.get? p=some { cls:=.type "list",data:=.seq its.toArray n })(hf:f { cls:=.type "list",data:=.seq its.toArray n }={ cls:=.type "list",data:=.seq its'.toArray n' })(r:Vals ys its')(hz:ys.length<=sizeLine) (t:Nat) : Inv X pins U (upd H p (.lst ys)) { s with heap:=s.heap.update p f,toks:=t }:=by
 have e:(s.heap.update p f).get? p=some { cls:=.type "list",data:=.seq its'.toArray n' }:=by rw[OS f ho (by rw[hf]<;>rfl),hf]
 refine I.write (x:=p) (e:=p) (by rw[h];trivial) (.inl rfl) (λb u hb q=>(Mw _ _ (Ne.symm hb)).trans q) ⟨_,e⟩ ?_;exact⟨hz,its',n',r,e⟩
inductive zO(o:V) (i:V) (v:V)(H:Hp)(Q:(Hp->Prop)):Prop
 |mk:∀p xs k j,(o=.ref p)->(i=.int k)->(H p=some (.lst xs))->(lK xs.length k=some j)->(Q (upd H p (.lst (xs.set j v))))->zO o i v H Q
def DP:V->V->V->Hp->(Hp->Prop)->Prop:=λo i v H Q=>zO o i v H Q
def set_list:BU X DP:=by
 intro pins s U H o i v ov iv u Q I ro ri rv h;obtain⟨p,xs,k,j,rfl,rfl,hp,hj,q⟩:=h;cases ro;obtain⟨t,rfl⟩:=ri;obtain⟨its,n,r,ho,hz⟩:=I.lst hp;obtain⟨h1,h2,h3,h4⟩:=wG hj;have hl:=r.length;have hn:=kD;have I':Inv X pins U (upd H p (.lst (xs.set j v))) { s with heap:=s.heap.update p (Obj.mapSeq (·.setIfInBounds j u)) }:=
  I.Ie hp ho (yz its n j u) (r.set rv j) (by rw[MY];exact hz) s.toks
 by_cases h0:0<=k
 .have hk:k.toNat=j:=by rw[seqIndex_of h0 h4]at h1;exact Option.some.inj h1
  exact PySem.W.ki_setAt ho h0 (by lia) (by rw[MK,<-hl];exact h4) (by rw[hk];exact⟨_,I',q⟩)
 have hk:(k+(its.toArray.size:Int)).toNat=j:=by rw[seqIndex_neg (by lia) h3]at h1;rw[MK,<-hl];exact Option.some.inj h1
 exact PySem.W.ki_setBack ho (by lia) (by rw[MK,<-hl];exact h3) (by lia) (by rw[hk];exact⟨_,I',q⟩)
def tL(lo hi:Option Int) (n:Nat):(sliceBounds lo hi none n).1=((HT.aD n 0 lo:Nat):Int)/\(sliceBounds lo hi none n).2.1=((HT.aD n n hi:Nat):Int)/\(sliceBounds lo hi none n).2.2=1:=by
 have one:∀i:Int,(sliceBounds (some i) none none n).1=((HT.aD n 0 (some i):Nat):Int):=λi=>by simp only[sliceBounds,HT.aD,Option.getD_none,show(1:Int)>0 by decide,if_true];by_cases h:i<0;{simp only[h,if_true]<;>lia};simp only[h,if_false]<;>lia
 refine⟨?_,?_,rfl⟩
 .cases lo with
  |none=>simp[sliceBounds,HT.aD]
  |some i=>exact one i
 cases hi with
 |none=>simp[sliceBounds,HT.aD]
 |some i=>exact one i
def su(its:QO)(lo hi:Option Int):slicePick its.toArray lo hi none=((its.drop (HT.aD its.length 0 lo)).take (HT.aD its.length its.length hi-HT.aD its.length 0 lo)).toArray:=by obtain⟨h1,h2,h3⟩:=tL lo hi its.toArray.size;unfold slicePick;rw[h1,h2,h3];simp only[sliceRange_one,pick_run,MK]<;>rfl
inductive DG(K:QJ) (x:V)(lo:Option Int)(hi:Option Int)(H:Hp)(Q:VK):Prop
 |mk:∀a xs,(x=.ref a)->(bD K H a xs)->(∀p,H p=none->Q (.ref p) (upd H p (.lst (kI xs lo hi))))->DG K x lo hi H Q
def Hw(K:QJ):V->Option Int->Option Int->Hp->VK->Prop:=λx lo hi H Q=>DG K x lo hi H Q
def EW:ze X (Hw X.K):=by intro pins s U H x v vl vu lo hi sl Q I rx hs pl pu h;obtain⟨a,xs,rfl,hx,q⟩:=h;cases rx;obtain⟨its,r,ht,hz⟩:=I.list hx;have hlen:=r.length;refine⟨"list",_,slot_list_getitem.lookup,ht.isList.typeIs,?_⟩;refine wpAny_getItem_list_slice ht.isList hs pl pu .none (by simp) ?_ (by rw[MK]<;>lia);rw[su,<-hlen];refine⟨.ref s.heap.objs.size,_,I.laid (t':=s.toks) (o:=.lst (kI xs lo hi)) (λb ob q=>ML _ q) (M5 _) ?_,rfl,q _ (I.hok.fresh (M5 _))⟩;exact⟨MZ (nI xs lo hi) hz,_,0,(r.drop (HT.aD xs.length 0 lo)).take (HT.aD xs.length xs.length hi-HT.aD xs.length 0 lo),Mn _ rfl⟩
def kP:V->Bool
 |.aN=>true
 |.bl _=>true
 |.int _=>true
 |.str _=>true
 |_=>false
def qa:V->V->Bool
 |.aN,.aN=>true
 |.bl a,.bl b=>a==b
 |.bl a,.int b=>(if a then 1 else 0)==b
 |.int a,.bl b=>a==(if b then 1 else 0)
 |.int a,.int b=>a==b
 |.str a,.str b=>a==b
 |_,_=>false
def Gp{A:Around}{s:Shared}{y x:V}{u v:Value}(ry:RelV y u)(rx:RelV x v)(fy:kP y=true)(fx:kP x=true):SeqAt.EqAt A s u v (qa y x):=by
 cases y with
 |aN=>
  cases ry;cases x with
  |aN=>cases rx;exact SeqAt.EqAt.same _
  |bl b=>cases rx;exact SeqAt.EqAt.none_bool b
  |int b=>obtain⟨t,rfl⟩:=rx;exact SeqAt.EqAt.none_int b t
  |str b=>obtain⟨t,rfl⟩:=rx;exact SeqAt.EqAt.none_str b t
  |_=>exact absurd (show false=true from fx) MJ
 |bl a=>
  cases ry;cases x with
  |aN=>cases rx;exact SeqAt.EqAt.bool_none a
  |bl b=>cases rx;exact SeqAt.EqAt.bool_bool a b
  |int b=>obtain⟨t,rfl⟩:=rx;exact SeqAt.EqAt.bool_int a b t
  |str b=>obtain⟨t,rfl⟩:=rx;exact SeqAt.EqAt.bool_str a b t
  |_=>exact absurd (show false=true from fx) MJ
 |int a=>
  obtain⟨t',rfl⟩:=ry;cases x with
  |aN=>cases rx;exact SeqAt.EqAt.int_none a t'
  |bl b=>cases rx;exact SeqAt.EqAt.int_bool a t' b
  |int b=>obtain⟨t,rfl⟩:=rx;exact SeqAt.EqAt.int_int a t' b t
  |str b=>obtain⟨t,rfl⟩:=rx;exact SeqAt.EqAt.int_str a t' b t
  |_=>exact absurd (show false=true from fx) MJ
 |str a=>
  obtain⟨t',rfl⟩:=ry;cases x with
  |aN=>cases rx;exact SeqAt.EqAt.str_none a t'
  |bl b=>cases rx;exact SeqAt.EqAt.str_bool a t' b
  |int b=>obtain⟨t,rfl⟩:=rx;exact SeqAt.EqAt.str_int a t' b t
  |str b=>obtain⟨t,rfl⟩:=rx;exact SeqAt.EqAt.str_str a t' b t
  |_=>exact absurd (show false=true from fx) MJ
 |_=>exact absurd (show false=true from fy) MJ
def De(x:V)(u:Value):Bool:=match u with
 |.none=>qa .aN x
 |.bool b=>qa (.bl b) x
 |.int i _=>qa (.int i) x
 |.str z _=>qa (.str z) x
 |_=>false
def Al{x y:V}{u:Value}(r:RelV y u)(f:kP y=true):De x u=qa y x:=by
 cases y with
 |aN=>cases r;rfl
 |bl b=>cases r;rfl
 |int i=>obtain⟨t,rfl⟩:=r;rfl
 |str z=>obtain⟨t,rfl⟩:=r;rfl
 |_=>exact absurd (show false=true from f) MJ
theorem uK{A:Around}{s:Shared}{x:V}{v:Value}(rx:RelV x v)(fx:kP x=true):∀{xs:List V}{us:QO},Vals xs us->xs.all kP=true->∀u∈us,SeqAt.EqAt A s u v (De x u)
 |_,_,.nil,_=>λu hu=>by cases hu
 |y::xs,u::us,.cons r t,f=>λu' hu=>by rw[MG,MA]at f;rcases MH.mp hu with rfl|hu;{rw[Al r f.1];exact Gp r rx f.1 fx};exact uK rx fx t f.2 u' hu
def ud:bO X (.builtin "len") (λxs H Q=>∃p ys,xs=[.ref p]/\(bD X.K H p ys\/bG X.K H p ys)/\Q (.int ys.length) H):=by intro pins s U H xs us Q I r h;obtain⟨p,ys,rfl,hq,q⟩:=h;obtain⟨u,rfl,rx⟩:=vals1 r;cases rx;have hn:=kD;rcases hq with hq|hq;{obtain⟨its,r',pl,hz⟩:=I.list hq;have hlen:=r'.length;exact Calls.call_len_list pl.isList (by simp only[MK]<;>lia) ⟨.int ys.length,H,I.tok _,⟨s.toks+1,by rw[MK,hlen]⟩,q⟩};obtain⟨its,r',pl,hz⟩:=I.tuple hq;have hlen:=r'.length;exact len_tuple pl (by simp only[MK]<;>lia) ⟨.int ys.length,H,I.tok _,⟨s.toks+1,by rw[MK,hlen]⟩,q⟩
def bO.or{f:Value}{r r':List V->Hp->VK->Prop}(h:bO X f r)(h':bO X f r'):bO X f (λxs H Q=>r xs H Q\/r' xs H Q):=by intro pins s U H xs us Q I rs q;rcases q with q|q;{exact h pins s U H xs us Q I rs q};exact h' pins s U H xs us Q I rs q
def tF:bO X (.type "list") (λxs H Q=>∃p ys,xs=[.ref p]/\(bD X.K H p ys\/bG X.K H p ys)/\∀l,H l=none->Q (.ref l) (upd H l (.lst ys))):=by
 intro pins s U H xs us Q I r h;obtain⟨p,ys,rfl,hq,q⟩:=h;obtain⟨u,rfl,rx⟩:=vals1 r;cases rx;have fin:∀(its:QO),Vals ys its->ys.length<=sizeLine->∀(h':Heap) (c':Nat),(∀b o',s.heap.get? b=some o'->h'.get? b=some o')->
   h'.get? s.heap.objs.size=some { cls:=.type "list",dict:=none,data:=.seq its.toArray c',slots:=#[] }->EP X pins U Q (.ref s.heap.objs.size) { s with heap:=h' }:=λits r' hz h' c' kp e=>
  ⟨.ref s.heap.objs.size,_,I.laid (t':=s.toks) kp (M5 _) (show bE X.prog X.w _ h' _ (.lst ys)from⟨hz,its,c',r',e⟩),rfl,q _ (I.hok.fresh (M5 _))⟩
 rcases hq with hq|hq;{obtain⟨its,r',pl,hz⟩:=I.list hq;have hlen:=r'.length;obtain⟨o,ho,hc,n,hd⟩:=pl.isList;exact call_list_seq p (.inl rfl) ho hc hd (λh' c' kp e=>fin its r' hz h' c' kp e) (by simp only[MK]<;>lia)};obtain⟨its,r',pl,hz⟩:=I.tuple hq;have hlen:=r'.length;obtain⟨o,ho,hc,n,hd⟩:=pl;exact call_list_seq p (.inr rfl) ho hc hd (λh' c' kp e=>fin its r' hz h' c' kp e) (by simp only[MK]<;>lia)
def sF:bO X (.type "tuple") (λxs H Q=>∃p ys,xs=[.ref p]/\((bD X.K H p ys/\∀l,H l=none->Q (.ref l) (upd H l (.tup ys)))\/(bG X.K H p ys/\Q (.ref p) H))):=by
 intro pins s U H xs us Q I r h;obtain⟨p,ys,rfl,h⟩:=h;obtain⟨u,rfl,rx⟩:=vals1 r;cases rx;rcases h with⟨hq,q⟩|⟨hq,q⟩
 .obtain⟨its,r',pl,hz⟩:=I.list hq;have hlen:=r'.length;refine call_tuple_list pl.isList (λh' kp=>?_) (by simp only[MK]<;>lia);have I1:Inv X pins U H { s with heap:=h' }:=I.kept (t':=s.toks) kp;have I2:Inv X pins U (upd H h'.objs.size (.tup ys)) { s with heap:=h'.push { cls:=.type "tuple",data:=.seq its.toArray } }:=
   I1.laid (t':=s.toks) (λb o e=>ML _ e) (M5 _) (show bE X.prog X.w _ _ _ (.tup ys)from⟨hz,its,r',IsTup.new _ _⟩)
  exact⟨.ref h'.objs.size,_,I2,rfl,q _ (I1.hok.fresh (M5 _))⟩
 obtain⟨its,r',pl,hz⟩:=I.tuple hq;exact call_tuple_same pl ⟨.ref p,H,I,rfl,q⟩
def Hq(K:QJ)(T:String) (x:V)(H:Hp):Prop:=match x with
 |.str _=>T="str"
 |.int _=>T="int"
 |.ref p=>(T="list"/\∃xs,bD K H p xs)\/(T="tuple"/\∃o,K.lookup p=some o/\o.cls=.type "tuple"/\o.dict=none) \/
   (T="dict"/\((∃kvs,H p=some (.dK kvs))\/∃kvs,H p=some (.dT kvs)))\/(T="set"/\∃S n,H p=some (.set S n))
 |_=>False
def zq{pins:QF}{U:St}{H:Hp}{s:Shared}{T:String}{x:V}{v:Value}(I:Inv X pins U H s)(r:RelV x v)(ty:Hq X.K T x H) : s.TypeIs v T/\∀a,v=.ref a->∃ob,s.heap.get? a=some ob/\ob.dict=none:=by
 cases x with
 |str z=>obtain⟨t,rfl⟩:=r;cases (show T="str" from ty);exact⟨typeIs_str s z t,λ_ e=>nomatch e⟩
 |int i=>obtain⟨t,rfl⟩:=r;cases (show T="int" from ty);exact⟨typeIs_int s i t,λ_ e=>nomatch e⟩
 |ref p=>
  cases r;rcases ty with⟨rfl,xs,hq⟩|⟨rfl,o,hk,hc,hd⟩|⟨rfl,hk⟩|⟨rfl,S,n,hk⟩;{obtain⟨its,_,pl,_⟩:=I.list hq;refine⟨pl.isList.typeIs,λa e=>?_⟩;cases e;obtain⟨o,n,e,c,hd,_⟩:=pl;exact⟨o,e,hd⟩};{refine⟨⟨o,I.dH p o hk,hc⟩,λa e=>?_⟩;cases e;exact⟨o,I.dH _ o hk,hd⟩}
  .have z:∃o,s.heap.get? p=some o/\o.ExactDict:=by rcases hk with⟨kvs,hk⟩|⟨kvs,hk⟩;{obtain⟨_,_,_,_,o,_,_,e,ex,_⟩:=I.hok p _ hk;exact⟨o,e,ex⟩};obtain⟨_,_,_,_,o,_,_,e,ex,_⟩:=I.hok p _ hk;exact⟨o,e,ex⟩
   obtain⟨o,e,ex⟩:=z;refine⟨⟨o,e,ex.1⟩,λa e2=>?_⟩;cases e2;exact⟨o,e,ex.2.1⟩
  obtain⟨o,_,_,_,e,ex,_⟩:=I.hok p _ hk;refine⟨⟨o,e,ex.1⟩,λa e2=>?_⟩;cases e2;exact⟨o,e,ex.2.1⟩
 |_=>exact False.elim ty
def KL(K:QJ)(T:String)(r:V->List V->Hp->VK->Prop)(to:TE):TE:=λU H Q=>to U H λx H1=>Hq K T x H1/\r x [] H1 Q
def LJ(K:QJ)(T:String)(r:V->List V->Hp->VK->Prop)(to:TE)(t:TA):TE:=λU H Q=>to U H λx H1=>Hq K T x H1/\t U H1 λxs H2=>r x xs H2 Q
variable{o e:Expr}{es:QU}{to:TE}{t:TA}{name:Str}{apos cpos:Pos}{T id:String}{r:V->List V->Hp->VK->Prop}
def Ga(pa:PlainAttrs T)(slot:Slot T name id)(hty:typeOf (.builtin id)=pure (.type "method_descriptor"))(hm:Ke X id r)(ho:PE X o to)(hbase:attributeBase o name X.env (eval o X.env)=eval o X.env:=by rfl)(hline:(apos.endLine==cpos.line)=true:=by rfl):PE X (.Call (.Attribute o name apos) [] [] cpos) (KL X.K T r to):=by intro pins s U H Q I h;refine wpAny_Call_method0_late hbase hline (aG (ho pins s U H _ I h) λv s1 ⟨x,H1,I1,r1,ty,q1⟩=>?_);obtain⟨h1,h2⟩:=zq I1 r1 ty;exact⟨T,id,pa,slot,hty,h1,h2,Calls.callWith_builtin rfl (PySem.evalArgs_none (hm pins s1 U H1 x [] v [] Q I1 r1 .nil q1))⟩
def pN(pa:PlainAttrs T)(slot:Slot T name id)(hty:typeOf (.builtin id)=pure (.type "method_descriptor"))(hm:Ke X id r)(ho:PE X o to)(ha:PA X (e::es) t)(hbase:attributeBase o name X.env (eval o X.env)=eval o X.env:=by rfl)(hfew:((backTo cpos (starEach (e::es) X.env)).all (λx=>!x.1)&&(backToKw cpos (keywordEach [] X.env)).all (λx=>x.1.isSome) && decide ((e::es).length+([]:List Keyword).length+(if([]:List Keyword).isEmpty then 0 else 1)<30))=true:=by rfl)(hline:(apos.endLine==cpos.line)=true:=by rfl)(hs:starEach (e::es) X.env=(false,eval e X.env)::starEach es X.env:=by rfl)(hplain:(backTo cpos (starEach es X.env)).any (·.1)=false:=by rfl) : PE X (.Call (.Attribute o name apos) (e::es) [] cpos) (LJ X.K T r to t):=by intro pins s U H Q I h;refine wpAny_Call_method_late hbase hfew hline rfl (aG (ho pins s U H _ I h) λv s1 ⟨x,H1,I1,r1,ty,q1⟩=>?_);obtain⟨h1,h2⟩:=zq I1 r1 ty;refine⟨T,id,pa,slot,hty,h1,h2,?_⟩;have hA:=ha cpos pins s1 U H1 _ I1 q1;rw[hs]at hA⊢;refine Calls.callWith_builtin (by show(false||(backTo cpos (starEach es X.env)).any (·.1))=false;rw[hplain]<;>rfl) (Calls.evalArgs_plain ?_);exact aG hA λus s2 ⟨vs,H2,I2,r2,q2⟩=>hm pins s2 U H2 x vs v us Q I2 r1 r2 q2
end
def qc(X:Cx)(id:String)(r:V->List V->Hp->VK->Prop):Prop:=
 ∀(pins:QF)(s:Shared)(U:St)(H:Hp) (x:V)(xs:List V)(v:Value)(us:QO)(Q:VK),Inv X pins U H s->RelV x v->Vals xs us->r x xs H Q->
  wpAny (model X.prog X.w) X.A (call (.builtin id) (v::us)) (EP X pins U Q) X.xe s
def Vals.one{x:V}{us:QO}(h:Vals [x] us):∃u,us=[u]/\RelV x u:=by cases h with|cons r t=>cases t;exact⟨_,rfl,r⟩
def Vals.two{x y:V}{us:QO}(h:Vals [x,y] us):∃u v,us=[u,v]/\RelV x u/\RelV y v:=by cases h with|cons r t=>cases t with|cons q t=>cases t;exact⟨_,_,rfl,r,q⟩
def Vals.zero:∀{us:QO},Vals [] us->us=[]
 |_,.nil=>rfl
theorem Vals.dropLast{xs:List V}{us:QO}(h:Vals xs us):Vals xs.dropLast us.dropLast:=by
 induction h with
 |nil=>exact .nil
 |cons r t ih=>
  cases t with
  |nil=>exact .nil
  |cons q t'=>exact .cons r ih
theorem Vals.eraseIdx:∀{xs:List V}{us:QO} (i:Nat),Vals xs us->Vals (xs.eraseIdx i) (us.eraseIdx i)
 |_,_,_,.nil=>.nil
 |_,_,0,.cons _ t=>t
 |_,_,i+1,.cons r t=>.cons r (Vals.eraseIdx i t)
theorem Vals.rep{xs:List V}{us:QO}(h:Vals xs us):∀k:Nat,Vals (List.replicate k xs).flatten (List.replicate k us).flatten
 |0=>.nil
 |k+1=>by rw[Nl,Nl,Ny,Ny];exact Vals.append h (Vals.rep h k)
def yE{α:Type}(l:List α):l.eraseIdx (l.length-1)=l.dropLast:=by
 induction l with
 |nil=>rfl
 |cons a r ih=>
  cases r with
  |nil=>rfl
  |cons b r=>
   have e:(a::b::r).length-1=((b::r).length-1)+1:=by have h1:(a::b::r).length=r.length+2:=rfl;have h2:(b::r).length=r.length+1:=rfl;lia
   rw[e,Ou,ih];all_goals rfl
theorem r9{α:Type}:∀(l:List α) (i:Nat),(l.eraseIdx i).length<=l.length
 |[],_=>M5 _
 |_::_,0=>Nz _
 |_::r,i+1=>Nat.succ_le_succ (r9 r i)
theorem foldl_rep(its:QO):∀(k:Nat)(acc:QO), List.foldl (λx1 x2=>x1++x2) acc.toArray (List.replicate k its.toArray)=(acc++(List.replicate k its).flatten).toArray
 |0,acc=>by simp
 |k+1,acc=>by
  have e:acc.toArray++its.toArray=(acc++its).toArray:=by simp
  have e2:(acc++its)++(List.replicate k its).flatten=acc++(List.replicate (k+1) its).flatten:=by rw[Nl,Ny,Mc]
  rw[<-e2,<-foldl_rep its k (acc++its),<-e,Nl,List.foldl_cons]
section
variable{X:Cx}{pins:QF}{U:St}{H:Hp}{s:Shared}{l b:Addr}{xs ys zs:List V}
def Inv.xQ{its its':QO}{n:Nat}{f:QL->QL}{t':Nat}(I:Inv X pins U H s)(hH:H l=some (.lst xs))(e:s.heap.get? l=some { cls:=.type "list",data:=.seq its.toArray n })(hf:f its.toArray=its'.toArray)(hv:Vals ys its')(hz:ys.length<=sizeLine) : Inv X pins U (upd H l (.lst ys)) { s with heap:=s.heap.update l (Obj.mapSeq f),toks:=t' }:=by have q:=PySem.IsL.update e f;rw[hf]at q;refine I.write (x:=l) (e:=l) (by rw[hH];exact trivial) (.inl rfl) (λb' u hb hu=>(Mw s.heap (Obj.mapSeq f) (Ne.symm hb)).trans hu) ⟨_,q⟩ ?_;exact⟨hz,its',_,hv,q⟩
def Inv.Ih{its:QO}{t':Nat}(I:Inv X pins U H s)(hv:Vals ys its)(hz:ys.length<=sizeLine) : Inv X pins U (upd H s.heap.objs.size (.lst ys)) { s with heap:=s.heap.push { cls:=.type "list",data:=.seq its.toArray },toks:=t' }:=
 I.laid (λ_ _ q=>ML _ q) (M5 _) ⟨hz,its,0,hv,Mn _ rfl⟩
theorem Inv.fresh(I:Inv X pins U H s):H s.heap.objs.size=none:=I.hok.fresh (M5 _)
def Inv.tP(I:Inv X pins U H s)(hH:H l=some (.lst xs)):xs.length<=sizeLine/\∃(its:QO) (n:Nat),Vals xs its/\xs.length=its.length/\s.heap.get? l=some { cls:=.type "list",data:=.seq its.toArray n }:=by obtain⟨z,its,n,r,e⟩:=I.hok l _ hH;exact⟨z,its,n,r,r.length,e⟩
def tX{n:Nat}(h:n<=sizeLine):Builtin.List.listTooLong n=false:=by unfold Builtin.List.listTooLong;exact Ms (by lia)
end
section
variable{X:Cx}
def wN:V->List V->Hp->VK->Prop:=λx vs H Q=>∃l xs y,x=.ref l/\vs=[y]/\H l=some (.lst xs)/\xs.length<sizeLine/\Q .aN (upd H l (.lst (xs++[y])))
def f7:qc X "list.append" wN:=by intro pins s U H x vs v us Q I rx rv h;obtain⟨l,xs,y,rfl,rfl,hH,hz,q⟩:=h;cases rx;obtain⟨u,rfl,ru⟩:=rv.one;obtain⟨z,its,n,r,hl,e⟩:=I.tP hH;refine Nm F.slot_list_append ⟨_,e,rfl⟩ F.entry_list_append (F.args_list_append_2 _ _) (PySem.list_append l its.toArray n u (by rw[MK];lia)) ⟨e,?_⟩;refine⟨.aN,_,I.xQ (its':=its++[u]) hH e (by simp) (r.append (.cons ru .nil)) ?_,rfl,q⟩;rw[MV,List.length_singleton];lia
inductive Cr(x:V)(vs:List V)(H:Hp)(Q:VK):Prop
 |mk:∀l xs y,(x=.ref l)->(vs=[])->(H l=some (.lst xs))->(xs[xs.length-1]?=some y)->(Q y (upd H l (.lst xs.dropLast)))->Cr x vs H Q
def Cg:V->List V->Hp->VK->Prop:=λx vs H Q=>Cr x vs H Q
def GR:qc X "list.pop" Cg:=by
 intro pins s U H x vs v us Q I rx rv h;obtain⟨l,xs,y,rfl,rfl,hH,hy,q⟩:=h;cases rx;have hus:=rv.zero;subst hus;obtain⟨z,its,n,r,hl,e⟩:=I.tP hH;obtain⟨u,hu,ru⟩:=r.get hy;have hy':its.toArray[its.toArray.size-1]?=some u:=by show its.toArray[its.length-1]?=some u;rw[<-Mf,<-hl];exact hu
 refine Nm F.slot_list_pop ⟨_,e,rfl⟩ F.entry_list_pop (F.args_list_pop_1 _) (MeetsSeq.list_pop_last l its.toArray n u hy' (by rw[MK];lia)) ⟨e,?_⟩;refine⟨y,_,I.xQ (its':=its.dropLast) hH e ?_ r.dropLast ?_,ru,q⟩;{show its.toArray.eraseIdxIfInBounds (its.toArray.size-1)=its.dropLast.toArray;rw[MK,Q7,yE]};rw[List.length_dropLast];lia
inductive wI(x:V)(vs:List V)(H:Hp)(Q:VK):Prop
 |mk:∀l xs i k y,(x=.ref l)->(vs=[.int i])->(H l=some (.lst xs))->(-(2^63)<=i)->(i<2^63)->(seqIndex? i xs.length=some k)->(xs[k]?=some y)->(Q y (upd H l (.lst (xs.eraseIdx k))))->wI x vs H Q
def uT:V->List V->Hp->VK->Prop:=λx vs H Q=>wI x vs H Q
def Cm:qc X "list.pop" uT:=by
 intro pins s U H x vs v us Q I rx rv h;obtain⟨l,xs,i,k,y,rfl,rfl,hH,h1,h2,hk,hy,q⟩:=h;cases rx;obtain⟨u,rfl,ru⟩:=rv.one;obtain⟨t,rfl⟩:=ru;obtain⟨z,its,n,r,hl,e⟩:=I.tP hH;obtain⟨w,hw,rw'⟩:=r.get hy;refine Nm F.slot_list_pop ⟨_,e,rfl⟩ F.entry_list_pop (F.args_list_pop_2 _ _)
  (MeetsSeq.list_pop_at l its.toArray n i t k w (fitsIndex_both h1 h2) (by rw[MK,<-hl];exact hk) (by rw[<-Mf];exact hw) (by rw[MK];lia)) ⟨e,?_⟩
 refine⟨y,_,I.xQ (its':=its.eraseIdx k) hH e ?_ (r.eraseIdx k) ?_,rw',q⟩;{show its.toArray.eraseIdxIfInBounds k=(its.eraseIdx k).toArray;rw[Q7]};have:=r9 xs k;lia
def len_rep{α:Type}(xs:List α) (k:Nat):(List.replicate k xs).flatten.length=k*xs.length:=by
 induction k with
 |zero=>simp
 |succ k ih=>rw[Nl,Ny,MV,ih,Nat.succ_mul,Nat.add_comm]
end
section
variable{κ:Type} [DecidableEq κ]
def b5(kvs:List (κ×V))(k:κ):Option V:=(kvs.find? λkv=>decide (kv.1=k)).map (·.2)
def putK(kvs:List (κ×V))(k:κ) (v:V):List (κ×V):=
 if(kvs.any λkv=>decide (kv.1=k))=true then kvs.map (λkv=>if kv.1=k then(kv.1,v)else kv)else kvs++[(k,v)]
def oZ{p:κ×V}{r:List (κ×V)}{k:κ}(e:p.1=k):b5 (p::r) k=some p.2:=by simp[b5,O0,e]
def oX{p:κ×V}{r:List (κ×V)}{k:κ}(e:¬p.1=k):b5 (p::r) k=b5 r k:=by simp[b5,O0,e]
theorem uz(k:κ):∀kvs:List (κ×V),(kvs.any λkv=>decide (kv.1=k))=(b5 kvs k).isSome
 |[]=>rfl
 |p::r=>by rw[NQ];by_cases e:p.1=k;{simp only[oZ e,Nn e,Bool.true_or,Option.isSome_some]};rw[oX e,Ms e,Bool.false_or];exact uz k r
def nP(kvs:List (κ×V))(k:κ) (v:V):(putK kvs k v).length<=kvs.length+1:=by unfold putK;split;{rw[M9];lia};rw[MV,MW,List.length_nil];lia
def iG.ir{o:Option V}{u:QK}(r:iG o u):o.isSome=u.isSome:=by
 cases o with
 |none=>cases u with
  |none=>rfl
  |some _=>exact(show False from r).elim
 |some _=>cases u with
  |none=>exact(show False from r).elim
  |some _=>rfl
def KV.val{kvs:List (κ×V)}{vs:List (κ×Value)}(r:KV kvs vs)(k:κ):iG (b5 kvs k) (valueAt vs k):=by
 unfold KV at r;induction r with
 |nil=>exact NO
 |@cons p q ps qs h t ih=>
  obtain⟨h1,h2⟩:=h;by_cases e:p.1=k
  .have e':q.1=k:=h1.symm.trans e;have b:valueAt (q::qs) k=some q.2:=by simp[valueAt,O0,e']
   rw[oZ e,b];exact h2
  have e':¬q.1=k:=λz=>e (h1.trans z);have b:valueAt (q::qs) k=valueAt qs k:=by simp[valueAt,O0,e']
  rw[oX e,b];exact ih
theorem KV.any{kvs:List (κ×V)}{vs:List (κ×Value)}(r:KV kvs vs)(k:κ):(kvs.any λkv=>decide (kv.1=k))=vs.any λkv=>decide (kv.1=k):=by
 unfold KV at r;induction r with
 |nil=>rfl
 |cons h t ih=>rw[NQ,NQ,ih,h.1]
def KV.repl{kvs:List (κ×V)}{vs:List (κ×Value)}(r:KV kvs vs)(k:κ){y:V}{u:Value}(ry:RelV y u) : KV (kvs.map λkv=>if kv.1=k then(kv.1,y)else kv) (vs.map λkv=>if kv.1=k then(kv.1,u)else kv):=by
 unfold KV at r⊢;induction r with
 |nil=>exact .nil
 |@cons p q ps qs h t ih=>rw[Mb,Mb];refine .cons ?_ ih;obtain⟨h1,h2⟩:=h;by_cases e:p.1=k;{rw[if_pos e,if_pos (h1.symm.trans e)];exact⟨h1,ry⟩};rw[if_neg e,if_neg (λz=>e (h1.trans z))];exact⟨h1,h2⟩
def KV.put{kvs:List (κ×V)}{vs:List (κ×Value)}(r:KV kvs vs)(k:κ){y:V}{u:Value}(ry:RelV y u):KV (putK kvs k y) (stored vs k u):=by unfold putK stored;rw[r.any k];by_cases e:(vs.any λkv=>decide (kv.1=k))=true;{rw[if_pos e,if_pos e];exact r.repl k ry};rw[if_neg e,if_neg e];exact Paired.snoc r ⟨rfl,ry⟩
theorem KV.length{kvs:List (κ×V)}{vs:List (κ×Value)}(r:KV kvs vs):kvs.length=vs.length:=Paired.length r
end
def pS{P:Program}{w:World}{k:Key}{u:Value}(r:RelV (kV k) u):(b7 P w).is k u=true:=by
 cases k with
 |inl i=>obtain⟨t,e⟩:=(show ∃t,u=Value.int i t from r);subst e;exact vA P w i t
 |inr x=>obtain⟨t,e⟩:=(show ∃t,u=Value.str x t from r);subst e;exact vg P w x t
theorem rO{P:Program}{w:World}:∀{ks:List Key}{us:QO},Vals (ks.map kV) us->ItemsAre (b7 P w) ks us
 |[],_,r=>by rw[Ot]at r;cases r;exact .nil
 |k::ks,_,r=>by
  rw[Mb]at r;cases r with
  |cons h t=>exact .cons (pS h) (rO t)
abbrev KT(H:Hp):List (List Key×V)->List (List Key×Addr×Value)->Prop:=Paired λp q=>p.1=q.1/\H q.2.1=some (.tup (p.1.map kV))/\RelV p.2 q.2.2
def KT.val{H:Hp}{kvs:List (List Key×V)}{xs:List (List Key×Addr×Value)}(r:KT H kvs xs)(k:List Key):iG (b5 kvs k) ((atKey xs k).map (·.2)):=by
 induction r with
 |nil=>exact NO
 |@cons p q ps qs h t ih=>
  obtain⟨h1,_,h2⟩:=h;by_cases e:p.1=k
  .have e':q.1=k:=h1.symm.trans e;have b:atKey (q::qs) k=some q.2:=by simp[atKey,O0,e']
   rw[oZ e,b];exact h2
  have e':¬q.1=k:=λz=>e (h1.trans z);have b:atKey (q::qs) k=atKey qs k:=by simp[atKey,O0,e']
  rw[oX e,b];exact ih
def KT.repl{H:Hp}{kvs:List (List Key×V)}{xs:List (List Key×Addr×Value)}(r:KT H kvs xs)(k:List Key){y:V}{u:Value}(ry:RelV y u) : KT H (kvs.map λkv=>if kv.1=k then(kv.1,y)else kv) (xs.map (putAt k u)):=by
 induction r with
 |nil=>exact .nil
 |@cons p q ps qs h t ih=>rw[Mb,Mb];refine .cons ?_ ih;obtain⟨h1,h2,h3⟩:=h;unfold putAt;by_cases e:p.1=k;{rw[if_pos e,if_pos (h1.symm.trans e)];exact⟨h1,h2,ry⟩};rw[if_neg e,if_neg (λz=>e (h1.trans z))];exact⟨h1,h2,h3⟩
def KT.put{H:Hp}{kvs:List (List Key×V)}{xs:List (List Key×Addr×Value)}(r:KT H kvs xs)(k:List Key){b:Addr}{y:V}{u:Value}(hb:H b=some (.tup (k.map kV)))(ry:RelV y u) : KT H (putK kvs k y) (storedH xs k b u):=by
 have e:(kvs.any λkv=>decide (kv.1=k))=(atKey xs k).isSome:=by rw[uz,(r.val k).ir,Pf]
 unfold putK storedH;rw[e];by_cases q:(atKey xs k).isSome=true;{rw[if_pos q,if_pos q];exact r.repl k ry};rw[if_neg q,if_neg q];exact Paired.snoc r ⟨rfl,hb,ry⟩
def KT.keeps{H H':Hp}{kvs:List (List Key×V)}{xs:List (List Key×Addr×Value)}(r:KT H kvs xs)(ht:∀b ys,H b=some (.tup ys)->H' b=some (.tup ys)):KT H' kvs xs:=
 Paired.A7 r λ_ _ z=>⟨z.1,ht _ _ z.2.1,z.2.2⟩
section
variable{P:Program}{w:World}{H:Hp}{h:Heap}{a:Addr}
def Dy{u:HO}(ok:cA P w H h)(e:Rd H a u):bE P w H h a u:=e.ok ok
def ni{kvs:List (Key×V)}(ok:cA P w H h)(e:Rd H a (.dK kvs)):kvs.length<=sizeLine/\(a==sysModules)=false/\∃vs,KV kvs vs/\h.DictOf (b7 P w) a vs:=
 show bE P w H h a (.dK kvs)from Dy ok e
def JL{kvs:List (Key×V)}(ok:cA P w H h)(e:H a=some (.dK kvs)):kvs.length<=sizeLine/\(a==sysModules)=false/\∃vs,KV kvs vs/\h.DictOf (b7 P w) a vs:=ni ok (.inl e)
def mq{ks:List Key}(ok:cA P w H h)(e:H a=some (.tup (ks.map kV))):(tupleKind (b7 P w)).is h ks a:=by obtain⟨_,its,r,o,h1,h2,n,h3⟩:=(show bE P w H h a (.tup (ks.map kV))from ok a _ e);exact⟨o,its.toArray,n,h1,h2,h3,by simpa using rO r⟩
def p8{kvs:List (List Key×V)}(ok:cA P w H h)(e:Rd H a (.dT kvs)):kvs.length<=sizeLine/\(a==sysModules)=false /\ ∃xs,KT H kvs xs/\h.DictOfH (tupleKind (b7 P w)) a xs:=by
 obtain⟨z,y,xs,r,o,es,ep,h1,h2,h3,h4,h5⟩:=(show bE P w H h a (.dT kvs)from Dy ok e);refine⟨z,y,xs,r,o,es,ep,h1,h2,h3,h4,λx hx=>?_,h5⟩;have all:∀{l:List (List Key×V)}{m:List (List Key×Addr×Value)},KT H l m->∀x∈m,(tupleKind (b7 P w)).is h x.1 x.2.1:=by
  intro l m q;induction q with
  |nil=>intro x hx;exact nomatch hx
  |@cons p q ps qs hq t ih=>intro x hx;rcases MH.mp hx with e|hx;{subst e;exact mq ok (by rw[<-hq.1];exact hq.2.1)};exact ih x hx
 exact all r x hx
def JQ{kvs:List (List Key×V)}(ok:cA P w H h)(e:H a=some (.dT kvs)):kvs.length<=sizeLine/\(a==sysModules)=false /\ ∃xs,KT H kvs xs/\h.DictOfH (tupleKind (b7 P w)) a xs:=p8 ok (.inl e)
end
def gr(H:Hp)(a:Addr) (y:V)(r:Option V):Prop:=
 (∃kvs k,Rd H a (.dK kvs)/\y=kV k/\r=b5 kvs k)\/∃kvs k b,Rd H a (.dT kvs)/\y=.ref b/\H b=some (.tup (k.map kV))/\r=b5 kvs k
def lX(H:Hp)(a:Addr) (y v:V)(H':Hp):Prop:=
 (∃kvs k,H a=some (.dK kvs)/\y=kV k/\kvs.length<sizeLine/\H'=upd H a (.dK (putK kvs k v))) \/
 ∃kvs k b,H a=some (.dT kvs)/\y=.ref b/\H b=some (.tup (k.map kV))/\kvs.length<sizeLine/\H'=upd H a (.dT (putK kvs k v))
theorem gr.k{H:Hp}{a:Addr}{kvs:List (Key×V)}{k:Key}(e:H a=some (.dK kvs)):gr H a (kV k) (b5 kvs k):=.inl ⟨kvs,k,.inl e,rfl,rfl⟩
def gr.t{H:Hp}{a b:Addr}{kvs:List (List Key×V)}{k:List Key}(e:H a=some (.dT kvs))(eb:H b=some (.tup (k.map kV))):gr H a (.ref b) (b5 kvs k):=.inr ⟨kvs,k,b,.inl e,rfl,eb,rfl⟩
theorem lX.k{H:Hp}{a:Addr}{kvs:List (Key×V)}{k:Key}{v:V}(e:H a=some (.dK kvs))(hl:kvs.length<sizeLine):lX H a (kV k) v (upd H a (.dK (putK kvs k v))):=.inl ⟨kvs,k,e,rfl,hl,rfl⟩
def lX.t{H:Hp}{a b:Addr}{kvs:List (List Key×V)}{k:List Key}{v:V}(e:H a=some (.dT kvs))(eb:H b=some (.tup (k.map kV)))(hl:kvs.length<sizeLine) : lX H a (.ref b) v (upd H a (.dT (putK kvs k v))):=.inr ⟨kvs,k,b,e,rfl,eb,hl,rfl⟩
section
variable{X:Cx}{pins:QF}{U:St}{H:Hp}{s:Shared}{a:Addr}{y v:V}{u r:Value}{o:Option V}{A:Around}{E:QC}
def zV{Q:QC}(hu:A.units+1<cLine)(I:Inv X pins U H s)(g:gr H a y (some v))(ry:RelV y u)(h:∀w' s',Inv X pins U H s'->RelV v w'->Q w' s') : wpAny (model X.prog X.w) A (getItem (.ref a) u) Q E s:=by rcases g with⟨kvs,k,e,ey,l⟩|⟨kvs,k,b,e,ey,eb,l⟩;{subst ey;obtain⟨z,hd,vs,rel,dd⟩:=ni I.hok e;obtain⟨w',hw,rw'⟩:=iG.some_of (v:=v) (o:=valueAt vs k) (by rw[l];exact rel.val k);exact wpAny_getItem_of (pS ry) dd.mapOf hw (h w' _ (I.tok _) rw')};subst ey;cases (show u=Value.ref b from ry);obtain⟨z,hd,xs,rel,dd⟩:=p8 I.hok e;obtain⟨w',hw,rw'⟩:=iG.some_of (v:=v) (o:=(atKey xs k).map (·.2)) (by rw[l];exact rel.val k);obtain⟨p,hp,hp2⟩:=Np.mp hw;refine wpAny_getItem_heap (Ov hu) (mq I.hok eb) dd hp ?_;rw[hp2];exact h w' _ (I.tok _) rw'
def K6{Q:QC}(hu:A.units+1<cLine)(I:Inv X pins U H s)(g:gr H a y o)(ry:RelV y u)(h:∀s',Inv X pins U H s'->Q (.bool o.isSome) s') : wpAny (model X.prog X.w) A (compareOp .In u (.ref a)) Q E s:=by rcases g with⟨kvs,k,e,ey,l⟩|⟨kvs,k,b,e,ey,eb,l⟩;{subst ey;obtain⟨z,hd,vs,rel,dd⟩:=ni I.hok e;refine wpAny_in_of (pS ry) hd dd.mapOf ?_;rw[<-(rel.val k).ir,<-l];exact h _ (I.tok _)};subst ey;cases (show u=Value.ref b from ry);obtain⟨z,hd,xs,rel,dd⟩:=p8 I.hok e;refine wpAny_in_heap (Ov hu) (mq I.hok eb) hd dd ?_;have q:=(rel.val k).ir;rw[Pf]at q;rw[<-q,<-l];exact h _ (I.tok _)
def E9{Q:QC}(hu:A.units+1<cLine)(I:Inv X pins U H s)(g:gr H a y o)(ry:RelV y u)(h:∀s',Inv X pins U H s'->Q (.bool (!o.isSome)) s') : wpAny (model X.prog X.w) A (compareOp .NotIn u (.ref a)) Q E s:=by rcases g with⟨kvs,k,e,ey,l⟩|⟨kvs,k,b,e,ey,eb,l⟩;{subst ey;obtain⟨z,hd,vs,rel,dd⟩:=ni I.hok e;refine wpAny_notIn_of (pS ry) hd dd.mapOf ?_;rw[<-(rel.val k).ir,<-l];exact h _ (I.tok _)};subst ey;cases (show u=Value.ref b from ry);obtain⟨z,hd,xs,rel,dd⟩:=p8 I.hok e;refine wpAny_notIn_heap (Ov hu) (mq I.hok eb) hd dd ?_;have q:=(rel.val k).ir;rw[Pf]at q;rw[<-q,<-l];exact h _ (I.tok _)
def vJ{h':Heap}{t':Nat}{ob:HO}(I:Inv X pins U H s)(mu:AQ (H a))(hs:Heap.SameBut a s.heap h')(he:∃q,h'.get? a=some q)(new:bE X.prog X.w (upd H a ob) h' a ob) : Inv X pins U (upd H a ob) { s with heap:=h',toks:=t' }:=
 I.write (x:=a) (e:=a) mu (.inl rfl) (λb q hb z=>(hs.2 b hb).trans z) he new
def Hh{P:Program}{w:World}{H':Hp}{h':Heap}{kvs:List (Key×V)}{vs:List (Key×Value)}(z:kvs.length<=sizeLine)(hd:(a==sysModules)=false)(rel:KV kvs vs)(dd:h'.DictOf (b7 P w) a vs) : bE P w H' h' a (.dK kvs):=⟨z,hd,vs,rel,dd⟩
def An{H':Hp}{Q:Unit->Shared->Prop}(hu:A.units+1<cLine)(I:Inv X pins U H s)(g:lX H a y v H')(ry:RelV y u)(rv:RelV v r)(h:∀s',Inv X pins U H' s'->Q () s') : wpAny (model X.prog X.w) A (setItem (.ref a) u r) Q E s:=by
 rcases g with⟨kvs,k,e,ey,l,eH⟩|⟨kvs,k,b,e,ey,eb,l,eH⟩
 .subst ey eH;obtain⟨z,hd,vs,rel,dd⟩:=JL I.hok e;have hz:vs.length<=sizeLine:=by rw[<-rel.length];exact z
  have hl:(putK kvs k v).length<=sizeLine:=by have:=nP kvs k v;lia
  refine wpAny_setItem_pairs (hsz:=hz) (pS ry) dd λh' dd' hs=>h _ ?_;have he:∃q,h'.get? a=some q:=let⟨q,_,_,hq,_⟩:=dd';⟨q,hq⟩;exact vJ I (by rw[e];exact NO) hs he (Hh hl hd (rel.put k rv) dd')
 subst ey eH;cases (show u=Value.ref b from ry);obtain⟨z,hd,xs,rel,dd⟩:=JQ I.hok e;have hz:xs.length<=sizeLine:=by rw[<-Paired.length rel];exact z
 have hl:(putK kvs k v).length<=sizeLine:=by have:=nP kvs k v;lia
 refine wpAny_setItem_heap (hsz:=hz) (Ov hu) (mq I.hok eb) dd λh' dd' hs=>h _ ?_;obtain⟨q,es,ep,hq,h2,h3,h4,_,h5⟩:=dd';refine vJ I (by rw[e];exact NO) hs ⟨q,hq⟩ ⟨hl,hd,_,(rel.put k eb rv).keeps λc ys ec=>?_,q,es,ep,hq,h2,h3,h4,h5⟩;rw[ai (JO ec e (λz=>nomatch z))];exact ec
end
section
variable{X:Cx}{pins:QF}{U:St}{H:Hp}{s:Shared}{a:Addr}{kvs:List (Key×V)}{k:Key}{u:Value}{A:Around}{E:QC}
def JM{Q:QC}(I:Inv X pins U H s)(e:Rd H a (.dK kvs))(h:∀t s',Inv X pins U H s'->Q (.int kvs.length t) s'):wpAny (model X.prog X.w) A (call (.builtin "len") [.ref a]) Q E s:=by obtain⟨z,hd,vs,rel,dd⟩:=ni I.hok e;refine call_len_dict hd dd (by rw[<-rel.length];rw[sizeLine_eq]at z;lia) ?_;rw[<-rel.length];exact h _ _ (I.tok _)
end
def vm{X:Cx}{pins:QF}{U:St}{H:Hp}{s:Shared}{a:Addr}{y:V}{o:Option V}(I:Inv X pins U H s)(g:gr H a y o):s.TypeIs (.ref a) "dict":=by rcases g with⟨kvs,k,e,_,_⟩|⟨kvs,k,b,e,_,_,_⟩;{obtain⟨_,_,vs,_,dd⟩:=ni I.hok e;exact dd.typeIs};obtain⟨_,_,xs,_,dd⟩:=p8 I.hok e;exact dd.typeIs
end L2
namespace Km
open PySem PySem.W PySem.Calls PyProof.Rows
def qb{P:Params}{h:Heap}:∀(ns:QX)(vs:QO),WellAll P h vs (ns.map WData.int)->IntsAre vs ns:=by
 intro ns;induction ns with
 |nil=>intro vs w;rw[Ot]at w;cases w;exact .nil
 |cons n ns ih=>
  intro vs w;rw[Mb]at w;cases w with
  |cons a b=>cases a;exact .cons _ _ (ih _ b)
def AB{l:OpenLaw}{n:Nat}(hn:l.most=some n){P:Params}{h:Heap}{args:List WData}{vals:QO}(hpre:l.row.toRowW.claim.pre args=true)(hwl:WellAll P h vals args) : ∃a vs ns,vals=[Value.ref a]/\args=[WData.list (ns.map WData.int)]/\h.get? a=some { cls:=.type "list",data:=.seq vs.toArray }/\IntsAre vs ns/\ns.length<=n:=by
 have hsh:WShape.hasAll [] args [.list .int]=true:=(pre_splitW hpre).1;have hc:l.pre.holds [] { args:=args }=true:=(pre_splitW hpre).2;obtain⟨d,r,rfl,h1,h2⟩:=hasAllW_cons hsh;obtain rfl:=hasAllW_nil h2;obtain⟨xs,rfl,h3⟩:=hasW_list h1;obtain⟨ns,rfl⟩:=items_int h3;have hlen:ns.length<=n:=by
  unfold OpenLaw.pre at hc;have h4:(WTm.not (.lt (.lit (.int (n:Int))) (.len (.arg 0)))).holds [] { args:=[.list (ns.map .int)] }=true:=by have h4:=(holds_andW hc).1;rw[hn]at h4;exact h4
  have h5:=condW_of h4 (w_not (w_lt w_lit (w_len_list (w_arg rfl))));rw[M9]at h5;refine Nat.le_of_not_lt λq=>?_;have q':(n:Int)<((ns.length:Nat):Int):=by lia
  first
   | (rw[Nn q']at h5;exact absurd h5 (by decide))
   | (simp at h5;lia)
 cases hwl with
 |cons w1 w2=>
  cases w2;cases w1 with
  |list ho hall=>exact⟨_,_,ns,rfl,rfl,ho,qb ns _ hall,hlen⟩
def zj(l:OpenLaw)(args:List WData):l.row.toRowW.claim.post args (.bool true) args=true:=
 postW_of (r:=l.row.toRowW) (X:=(true==true))
  (show WShape.has [] (.bool true) .bool=true by first|rfl|decide|simp[WShape.has,WShape.arms,WShape.armsAll])
  (show(WTm.eq .res (.lit (.bool true))).value [] { args:=args,res:=some (.bool true),after:=args }=some (.bool (true==true))from w_eq_bool (w_res rfl) w_lit) rfl
def vo{l:OpenLaw}{n:Nat}{q:Program}{loose:QY}{XP:(QE)->Heap->Prop}{YP:World->Heap->Prop}{d:DefRec}(hn:l.most=some n)(hdf:d.params.defaults=[])(call:∀(w:World)(s₀ s₁:Shared)(mg mb:QE)(fa:Addr)(o:Obj)(pm cd doc:Value)(a:Addr)(vs:QO)(ns:QX), Ground q loose [] XP w s₀ mg mb s₁.heap->YP w s₁.heap-> s₁.heap.get? fa=some o->o.data=.func (docDef d.name d.params d.body d.scope pm cd doc)->s₁.heap.CodeRec cd d.name->mg d.name=some (.ref fa)-> s₁.heap.get? a=some { cls:=.type "list",data:=.seq vs.toArray }->IntsAre vs ns->ns.length<=n->s₁.gens=#[]-> codeAny (model l.prog w) callerA (.call (.ref fa) ⟨[.ref a],[]⟩) (λr s'=>r=.ok (.ret (.bool true))/\OldK s₁.heap s'.heap/\s'.os=s₁.os/\AllBare s'.gens) s₁) : WalkO q loose XP YP l.row.toRowW d [] (λf vs=>PySem.call f vs):=by intro w s₀ s₁ mg mb G Qi fa o pm cd doc dV kV ho hd hcd hD hmg hg args vals as hpre hlay hrd hwl hlo;obtain rfl:dV=.none:=Dflts.none hD hdf;obtain rfl:kV=.none:=Dflts.noKw hD;obtain⟨a,vs,ns,rfl,rfl,hobj,hints,hlen⟩:=AB hn hpre hwl;refine enter_call (OO (call w s₀ s₁ mg mb fa o pm cd doc a vs ns G Qi ho (fd_plain hd) hcd hmg hobj hints hlen hg) λr s' hq=>?_);obtain⟨rfl,h2,h3,h4⟩:=hq;exact⟨.inl ⟨.bool true,.bool true,[],rfl,λ_=>rfl,.bool true,zj l _,λ_=>⟨List.Pairwise.nil,λ_ hm=>(nomatch hm)⟩⟩,h2,h3,h4⟩
end Km
namespace L2
open PySem PySem.Spec PyProof.Rows
theorem rZ:∀{vs:QO}{ns:QX},IntsAre vs ns->Vals (ns.map V.int) vs
 |_,_,.nil=>.nil
 |_,_,.cons n t h=>.cons ⟨t,rfl⟩ (rZ h)
def BQ(H:Hp):Prop:=∀b,H b=none\/∃o xs,H b=some (.d7 o (.lst xs))
end L2
namespace L2
open PySem PySem.Spec PyProof.Rows
def iX(s:Stmt):Arguments:=match s with
 |.FunctionDef _ a _ _ _ _ _ _ _ _=>a
 |_=>{ posonlyargs:=[],args:=[],vararg:=none,kwonlyargs:=[],kw_defaults:=[],kwarg:=none,defaults:=[] }
def fZ(s:Stmt):QV:=match s with
 |.FunctionDef _ _ b _ _ _ _ _ _ _=>b
 |_=>[]
def aA(s:Stmt):Scope:=match s with
 |.FunctionDef _ _ _ _ _ _ sc _ _ _=>sc
 |_=>{ kind:=.function,names:=[],isGenerator:=false,isCoroutine:=false }
abbrev E0:XK:=λ_ _ _=>False
structure qg(K:QJ) (x qual:Str)(st:Stmt)(f:Addr)(fd:FuncData):Prop where
 ex:∃(oc:Value)(od:QN)(kV doc pm:Value)(an:QN)(cdv ct:Value)(osl:QB),
  fd=PySem.W.fnOf x qual (iX st) (fZ st) (aA st) .none kV doc pm an cdv ct/\K.lookup f=some ⟨oc,od,.func fd,osl⟩/\PySem.W.codeIn K cdv qual=true
 kp:PySem.W.keepIn K (.ref f)=true
section
variable{P:Program}{w:World}{K:QJ}{mg:QE}{base:Heap}
def qg.binds{x qual:Str}{st:Stmt}{f:Addr}{fd:FuncData}{ps:QY}(F:qg K x qual st f fd)(h:∀(kV doc pm:Value)(an:QN)(cdv ct:Value)(us:QO),us.length=ps.length->bindArgs (PySem.W.fnOf x qual (iX st) (fZ st) (aA st) .none kV doc pm an cdv ct) ⟨us,[]⟩=pure (ps.zip us)):Binds K fd ps []:=by obtain⟨oc,od,kV,doc,pm,an,cdv,ct,osl,rfl,lk,hcd⟩:=F.ex;exact .all (h kV doc pm an cdv ct)
def Gb{x qual:Str}{st:Stmt}{f:Addr}{oc:Value}{od an:QN}{osl:QB}{kV doc pm cdv ct:Value}(l:K.lookup f=some ⟨oc,od,.func (PySem.W.fnOf x qual (iX st) (fZ st) (aA st) .none kV doc pm an cdv ct),osl⟩)(c:PySem.W.codeIn K cdv qual=true)(k:PySem.W.keepIn K (.ref f)=true):qg K x qual st f (PySem.W.fnOf x qual (iX st) (fZ st) (aA st) .none kV doc pm an cdv ct):=⟨⟨oc,od,kV,doc,pm,an,cdv,ct,osl,rfl,l,c⟩,k⟩
end
section
variable{X:Cx}
def zc:bO X (.builtin "len") (λxs H Q=>∃a kvs,xs=[V.ref a]/\H a=some (.dK kvs)/\Q (.int kvs.length) H):=by intro pins s U H xs us Q I r h;obtain⟨a,kvs,rfl,ha,q⟩:=h;obtain⟨u,rfl,ru⟩:=vals1 r;cases ru;exact JM I (.inl ha) λt s' I'=>⟨.int kvs.length,H,I',⟨t,rfl⟩,q⟩
end
def oV{A B:Prop}(h:B):if false=true then A else B:=by rw[if_neg MJ];exact h
def oq{A B:Prop}(h:A):if true=true then A else B:=by rw[if_pos rfl];exact h
def af(H H':Hp):Prop:=∀b o,H b=some o->H' b=some o
def af.refl(H:Hp):af H H:=λ_ _ h=>h
def af.trans{H H1 H2:Hp}(a:af H H1)(b:af H1 H2):af H H2:=λc o h=>b c o (a c o h)
def af.free{H H':Hp}(e:af H H'){l:Addr}(h:H' l=Option.none):H l=Option.none:=by
 cases q:H l with
 |none=>rfl
 |some o=>rw[e l o q]at h;cases h
def bH(cells:List (Str×Addr)):List (Str×NameKind)->List (Str×Addr)->List (Str×Addr)
 |[],acc=>acc
 | (n,k)::r,acc=>bH cells r (if(k==NameKind.free)=true then(n,(cells.lookup n).getD 0)::acc else acc)
theorem jP{c:Addr}:∀(names:List (Str×NameKind))(acc:List (Str×Addr)),(bH cells names acc).lookup y=some c->((y,NameKind.free)∈names/\(cells.lookup y).getD 0=c)\/acc.lookup y=some c
 |[],_,h=>.inr h
 | (n,k)::r,acc,h=>by
  rcases jP r _ h with⟨a,b⟩|z;{exact .inl ⟨MC _ a,b⟩};clear h;by_cases e:(k==NameKind.free)=true
  .rw[if_pos e]at z;rw[Mi]at z;cases q:(y==n)with
   |true=>
    rw[q]at z;have ek:k=NameKind.free:=by simpa using e
    have en:y=n:=by simpa using q
    subst ek en;exact .inl ⟨M7,Option.some.inj z⟩
   |false=>rw[q]at z;exact .inr z
  rw[if_neg e]at z;exact .inr z
theorem dX:∀(names:List (Str×NameKind))(acc:List (Str×Addr)),((y,NameKind.free)∈names\/∃c,acc.lookup y=some c)->∃c,(bH cells names acc).lookup y=some c
 |[],_,h=>by rcases h with h|h;{cases h};exact h
 | (n,k)::r,acc,h=>by
  refine dX r _ ?_;rcases h with h|⟨c,h⟩;{rcases MH.mp h with e|h;{cases e;refine .inr ⟨(cells.lookup y).getD 0,?_⟩;rw[if_pos (by decide),Mi,Pg]};exact .inl h};by_cases e:(k==NameKind.free)=true
  .rw[if_pos e,Mi];cases q:(y==n)with
   |true=>exact .inr ⟨_,rfl⟩
   |false=>exact .inr ⟨c,h⟩
  rw[if_neg e];exact .inr ⟨c,h⟩
def jI(h:∀n,(n,NameKind.free)∈scope.names->∃c,env.cells.lookup n=some c):closureFor scope env=pure (bH env.cells scope.names []):=by
 have key:∀(names:List (Str×NameKind))(cs:List (Str×Addr)),(∀n,(n,NameKind.free)∈names->∃c,env.cells.lookup n=some c)->
   (forIn names cs λ(x:Str×NameKind)(r:List (Str×Addr))=>(if(x.2==NameKind.free)=true then(cellOf env x.1>>=λa=>pure (ForInStep.yield ((x.1,a)::r)))else pure (ForInStep.yield r):Sem _))=pure (bH env.cells names cs):=by
  intro names
  induction names with
  |nil=>intro cs _;rfl
  |cons p r ih=>
   intro cs hp;obtain⟨n,k⟩:=p;rw[List.forIn_cons];by_cases e:(k==NameKind.free)=true
   .have ek:k=NameKind.free:=by simpa using e
    obtain⟨c,hc⟩:=hp n (by rw[ek];exact M7);rw[if_pos e];have e2:cellOf env n=pure c:=by unfold cellOf;rw[hc]
    show((cellOf env n>>=λa=>pure (ForInStep.yield ((n,a)::cs)))>>=_)=_;rw[e2];show(forIn r ((n,c)::cs) _:Sem _)=_;rw[ih _ λn' h'=>hp n' (MC _ h')];show _=pure (bH env.cells r (if(k==NameKind.free)=true then(n,(env.cells.lookup n).getD 0)::cs else cs));rw[if_pos e,hc];rfl
   rw[if_neg e];show(forIn r cs _:Sem _)=_;rw[ih _ λn' h'=>hp n' (MC _ h')];show _=pure (bH env.cells r (if(k==NameKind.free)=true then(n,(env.cells.lookup n).getD 0)::cs else cs));rw[if_neg e]
 unfold closureFor;have e:=key scope.names [] h;show((forIn scope.names [] λ(x:Str×NameKind)(r:List (Str×Addr))=>(if(x.2==NameKind.free)=true then(cellOf env x.1>>=λa=>pure (ForInStep.yield ((x.1,a)::r)))else pure (ForInStep.yield r):Sem _))>>=λr=>pure r)=_;rw[e];rfl
theorem cu{α:Type}{y:Str}{k:α}:∀{l:List (Str×α)},l.lookup y=some k->(y,k)∈l
 |[],h=>by cases h
 | (n,j)::r,h=>by
  rw[Mi]at h;cases q:(y==n)with
  |true=>
   rw[q]at h;have en:y=n:=by simpa using q
   cases h;rw[en];exact M7
  |false=>rw[q]at h;exact MC _ (cu h)
theorem kY{env:Env}{x:Str}{k:NameKind}:∀{names:List (Str×NameKind)},names.lookup x=some k->(relabel { (default:Scope)with names:=names } env).names.lookup x=some k\/(k=.free/\(relabel { (default:Scope)with names:=names } env).names.lookup x=some .cell)
 |[],h=>by cases h
 | (n,j)::r,h=>by
  have ih:=@kY env x k r;rw[Mi]at h;show List.lookup x ((if(j==NameKind.free&&env.scope.kind == .function&&env.kindOf n==some .cell)=true then(n,NameKind.cell)else(n,j))::_)=_\/(_/\List.lookup x ((if(j==NameKind.free&&env.scope.kind == .function&&env.kindOf n==some .cell)=true then(n,NameKind.cell)else(n,j))::_)=_);cases q:(x==n)with
  |true=>rw[q]at h;cases h;by_cases e:(k==NameKind.free&&env.scope.kind == .function&&env.kindOf n==some .cell)=true;{rw[if_pos e,Mi,q];refine .inr ⟨?_,rfl⟩;have z:=(MA _ _▸(MA _ _▸e).1:_/\_).1;simpa using z};rw[if_neg e,Mi,q];exact .inl rfl
  |false=>rw[q]at h;by_cases e:(j==NameKind.free&&env.scope.kind == .function&&env.kindOf n==some .cell)=true;{rw[if_pos e,Mi,q];exact ih h};rw[if_neg e,Mi,q];exact ih h
theorem oH{env:Env}{x:Str}{k:NameKind}:∀{names:List (Str×NameKind)},(relabel { (default:Scope)with names:=names } env).names.lookup x=some k->names.lookup x=some k\/(names.lookup x=some .free/\k=.cell)
 |[],h=>by cases h
 | (n,j)::r,h=>by
  have ih:=@oH env x k r;have h:List.lookup x ((if(j==NameKind.free&&env.scope.kind == .function&&env.kindOf n==some .cell)=true then(n,NameKind.cell)else(n,j))::(relabel { (default:Scope)with names:=r } env).names)=some k:=h;rw[Mi];cases q:(x==n)with
  |true=>by_cases e:(j==NameKind.free&&env.scope.kind == .function&&env.kindOf n==some .cell)=true;{rw[if_pos e,Mi,q]at h;cases h;have z:=(MA _ _▸(MA _ _▸e).1:_/\_).1;exact .inr ⟨by simpa using z,rfl⟩};rw[if_neg e,Mi,q]at h;exact .inl h
  |false=>by_cases e:(j==NameKind.free&&env.scope.kind == .function&&env.kindOf n==some .cell)=true;{rw[if_pos e,Mi,q]at h;exact ih h};rw[if_neg e,Mi,q]at h;exact ih h
def caps(ix:QW)(U:St):St:=ix.map λi=>(U[i]?).join
def Cx.block(X:Cx)(scope:Scope)(C:Addr)(NB:QY)(s2:Shared)(H2:Hp)(fp:QS):Cx:=
 { X with N:=NB,s₀:=s2,H₀:=H2,env:=compEnvC scope (bH X.env.cells scope.names []) C X.env,outer:=X.stack,ex:=fp,fn:=λ_=>false,pn:=[],xe:=λ_ _=>False }
def l5(X:Cx)(ifs:QU)(t:TT):Prop:=
 ∀(pins:QF)(s:Shared)(U:St)(H:Hp)(Q:Bool->Hp->Prop),Inv X pins U H s->t U H Q->
  wpAny (model X.prog X.w) X.A (forIn ifs true λc r=>if r=true then do let ok <-isTrue c X.env (eval c X.env);pure (ForInStep.yield ok)else pure (ForInStep.yield r)) (TP X pins U Q) X.xe s
def Lk:TT:=λ_ H Q=>Q true H
def EX:l5 X [] Lk:=λ_ _ _ H _ I h=>wpAny_tests_nil ⟨H,I,h⟩
def FG(h:PT X c t):l5 X [c] t:=λpins s U H Q I hw=>wpAny_tests_one (h pins s U H Q I hw)
abbrev c6(its:QO) (n:Nat):Obj:={ cls:=.type "list",data:=.seq its.toArray n }
section
variable{X:Cx}{scope:Scope}{x:Str}{NB:QY}{ix:QW}{pins:QF}{U:St}{H2:Hp}{s2:Shared}{fp:QS}
def tU(ix:QW)(U:St):(caps ix U).length=ix.length:=by unfold caps;rw[M9]
end
section
variable{X:Cx}{scope:Scope}{x:Str}{NB:QY}{ix:QW}{pins:QF}{U:St}{H2:Hp}{s2:Shared}{fp:QS}
def Aj{C D:Addr}{n:Nat}(I2:Inv X pins U H2 s2)(f2:∀b∈fp,dB X pins H2 b)(hD:s2.heap.objs.size<=D)(I4:Inv (X.block scope C NB s2 H2 fp) [(D,c6 its n)] σB H' s4)(rv:Vals ys its)(hz:ys.length<=sizeLine):Inv X pins U (upd H' D (.lst ys)) s4:=by
 have hp:=I4.pin (D,c6 its n) (by show _∈[]++[(D,c6 its n)];simp);have hfree:H' D=none:=hp.2.1;have neD:∀b o,s2.heap.get? b=some o->b≠D:=λb o e=>MO (MN (MB e) hD);have neT:∀b o,H2 b=some o->b≠D:=λb o e=>MO (MN (I2.hok.lt e) hD);have u:Un (frs X.stack) fp H2 H' s2.heap s4.heap:=I4.base;refine I2.sU (ch:=fp) I4.os ⟨u.keep,u.slot,λb o e n hx=>?_,u.there,λb xs e=>?_,λb o v e=>?_,λb ps e=>?_⟩ (λb o e=>?_) I4.bare λb hb=>?_;{rw[ai (neD b o e)];exact u.free b o e n hx};{rw[ai (neT b _ e)];exact u.tups b xs e};{rw[ai (neT b _ e)];exact u.gq b o v e};{rw[ai (neT b _ e)];exact u.gU b ps e}
 .by_cases hb:b=D;{subst hb;rw[aB]at e;cases e;exact⟨hz,its,n,rv,hp.1⟩};rw[ai hb]at e;have ne:∀{c:Addr}{w:HO},H' c=some w->c≠D:=λ{c w} q z=>by rw[z,hfree]at q;cases q
  exact(I4.hok b o e).stay (λ_ _ _ q=>q) (λc q=>by rw[ai (ne q)];exact q) λc xs q=>by rw[ai (ne q)];exact q
 obtain⟨_,g1,g2,g3,g4,g5⟩:=f2 b hb;exact⟨g3,g1,g4,g5⟩
end
end L2
namespace L2
open PySem PySem.Spec PyProof.Rows PySem.W
def dI(a C:Addr)(dd:QN):Heap->Prop:=λh=>∃(t0:Addr)(v1 v2 v3 v4 v5:Value)(sl:QB),h.get? a=some ⟨.ref C,dd,.fields #[.ref t0,v1,v2,v3,v4,v5],sl⟩
def zN{a C:Addr}(x:dI a C dd h):bE P w H h a (.ext (dI a C dd)):=by obtain⟨t0,v1,v2,v3,v4,v5,sl,e⟩:=id x;exact⟨x,⟨_,e⟩,λh1 h2 ⟨t0,v1,v2,v3,v4,v5,sl,e⟩ k=>⟨t0,v1,v2,v3,v4,v5,sl,k _ e⟩⟩
def Inv.zF{a C:Addr}(I:Inv X pins U H s)(e:H a=some (.ext (dI a C dd))):dI a C dd s.heap:=(I.hok a _ e).1
def six(newId:String)(l:List (QK)):Bool:=l.length==6&&(match(l[4]?:Option (QK))with|some (some (Value.builtin n))=>n==newId|_=>false)
def vE(K:Frag)(C:Addr)(bmB:QO):QO->Bool
 |.ref C'::bm=>C'==C&&tailIn K bmB bm
 |_=>false
def iw(K:Frag)(C:Addr)(bmB:QO)(newId:String)(r:QK):Bool:=match K.lookup C with
 |some ob=>(match ob.cls with | .type t=>t == "type" | _=>false)&&(match ob.data with
  |.cls cd=>(vE K C bmB cd.mro&&six newId ob.slots.toList)&&!cd.hasDel&&(nsOkIn K cd.ns&&nsIn K cd.ns "__init__" == some r)
  |_=>false)
 |none=>false
def FP(h:six newId l=true):∃k0 k1 k2 k3 k5,l=[k0,k1,k2,k3,some (.builtin newId),k5]:=by
 unfold six at h;rw[MA]at h;obtain⟨h1,h2⟩:=h;have h1:l.length=6:=Nj h1;rcases l with _|⟨k0,_|⟨k1,_|⟨k2,_|⟨k3,_|⟨k4,_|⟨k5,_|⟨k6,l⟩⟩⟩⟩⟩⟩⟩
 case cons.cons.cons.cons.cons.cons.nil=>
  cases k4 with
  |none=>cases h2
  |some v=>
   cases v with
   |builtin n=>exact⟨k0,k1,k2,k3,k5,by rw[show n=newId from Nj h2]⟩
   |_=>cases h2
 case cons.cons.cons.cons.cons.cons.cons=>cases h1
 all_goals cases h1
def yh{K:Frag}{C:Addr}{bmB l:QO}(h:vE K C bmB l=true):∃bm,l=.ref C::bm/\tailIn K bmB bm=true:=by
 cases l with
 |nil=>cases h
 |cons v bm=>
  cases v with
  |ref a=>have h:(a==C&&tailIn K bmB bm)=true:=h;rw[MA]at h;exact⟨bm,by rw[show a=C from Nj h.1],h.2⟩
  |_=>cases h
structure Lp(C:Addr)(bmB:QO)(newId:String)(r:QK)(h:Heap):Prop where
 obj:∃bm N nm q bs hdct sn sub ab col dd k0 k1 k2 k3 k5 mN,h.get? C=some (excClassObj nm q C N bs bm hdct sn sub ab col dd k0 k1 k2 k3 k5 newId)/\h.Ns N mN/\mN "__init__"=r/\OwnTail h bmB bm
def yb{K:Frag}{h:Heap}{N:Addr}{mg:QE}(X:K.In h)(G:h.Ns N mg)(e:nsIn K N n=some r):mg n=r:=by
 obtain⟨o,es,ep,ho,hd,_,hf⟩:=G;unfold nsIn at e;split at e
 .rename_i c d es' n' sl q;have z:=X _ _ q;rw[ho]at z;cases z;cases hd;split at e
  .rename_i en he;rw[<-hf];unfold nsFind findBy;rw[<-PZ,he];first
    | (cases e;rfl)
    | (split at e<;>cases e<;>rfl)
  rename_i he;rw[<-hf];unfold nsFind findBy;rw[<-PZ,he];split at e;{cases e};cases e;rfl
 cases e
def Fj{K:Frag}{C:Addr}(X:K.In h)(q:iw K C bmB newId r=true):Lp C bmB newId r h:=by
 unfold iw at q;cases ho:K.lookup C with
 |none=>rw[ho]at q;cases q
 |some ob=>
  rw[ho]at q;obtain⟨cls,dd,data,sl⟩:=ob;dsimp only at q;rw[MA]at q;obtain⟨q0,q⟩:=q;have hc:cls=.type "type":=by
   cases cls with
   |type t=>exact congrArg Value.type (Nj q0)
   |_=>cases q0
  subst hc;cases data with
  |cls cd=>
   dsimp only at q;rw[MA,MA,MA,MA]at q;obtain⟨⟨⟨q1,q2⟩,hdel⟩,hok,hni⟩:=q;obtain⟨bm,hm,ht⟩:=yh q1;obtain⟨l⟩:=sl;obtain⟨k0,k1,k2,k3,k5,hs⟩:=FP q2;have hs:l=_:=hs;obtain⟨nm,bs,mro,ns,qn,hd,sn,sub,ab,col,del⟩:=cd;dsimp only at hm hdel hok hni;have hdel:del=false:=by cases del<;>first|rfl|cases hdel
   have hni:=Nj hni;subst hm hdel hs;have G:h.Ns ns (h.nsMap ns):=.of_isNs (isNs_of_in X hok);exact⟨bm,ns,nm,qn,bs,hd,sn,sub,ab,col,dd,k0,k1,k2,k3,k5,_,X _ _ ho,G,yb X G hni,tail_of_in X ht⟩
  |_=>cases q
def Be{a:Addr}(x:bE P w H h a o):∃ob,h.get? a=some ob:=by
 cases o with
 |lst xs=>obtain⟨_,_,_,_,e⟩:=x;exact⟨_,e⟩
 |tup xs=>obtain⟨_,_,_,ob,e,_⟩:=x;exact⟨_,e⟩
 |dK kvs=>obtain⟨_,_,_,_,ob,_,_,e,_⟩:=x;exact⟨_,e⟩
 |dT kvs=>obtain⟨_,_,_,_,ob,_,_,e,_⟩:=x;exact⟨_,e⟩
 |set S n=>obtain⟨ob,_,_,_,e,_⟩:=x;exact⟨_,e⟩
 |ins C dx fs=>obtain⟨_,_,_,e,_⟩:=x;exact⟨_,e⟩
 |own y=>exact x
 |xd fs=>obtain⟨_,⟨od,_,_,e,_⟩,_⟩:=x;exact⟨_,e⟩
 |nR lo hi=>obtain⟨_,_,_,e⟩:=x;exact⟨_,e⟩
 |d7 ob u=>obtain⟨e,_⟩:=x;exact⟨_,e⟩
 |sj ps=>exact⟨_,x⟩
 |met f y=>exact⟨_,x⟩
 |ext φ=>obtain⟨_,e,_⟩:=x;exact e
section
variable{X:Cx}{pins:QF}{U:St}{H:Hp}{s:Shared}{h':Heap}
def Inv.gb(I:Inv X pins U H s){a:Addr}(hn:s.heap.get? a=none):H a=none:=by
 cases z:H a with
 |none=>rfl
 |some o=>obtain⟨ob,e⟩:=Be (I.hok a o z);rw[hn]at e;cases e
def Inv.sR{a:Addr}{t':Nat}(I:Inv X pins U H s)(k:∀b u,s.heap.get? b=some u->h'.get? b=some u)(hn:s.heap.get? a=none)(new:bE X.prog X.w (upd H a o) h' a o) : Inv X pins U (upd H a o) { s with heap:=h',toks:=t' }:=by
 have hf:=I.gb hn;have neA:∀b u,s.heap.get? b=some u->b≠a:=λb u e z=>by rw[z,hn]at e;cases e
 have neT:∀b u,H b=some u->b≠a:=λb u e z=>by rw[z,hf]at e;cases e
 refine I.un ⟨λb u e _ _ _=>k b u e,λb u e _ _ _=>⟨u.slots,k b u e⟩,λb u e n _=>by rw[ai (neA b u e)];exact n,λb u e _=>⟨u,k b u e⟩,λb xs e=>by rw[ai (neT b _ e)];exact e,
  λb u v e=>by rw[ai (neT b _ e)];exact e,λb ps e=>⟨#[],by rw[ai (neT b _ e),e];simp⟩⟩ λb u e=>?_
 by_cases hb:b=a;{subst hb;rw[aB]at e;cases e;exact new};rw[ai hb]at e;exact(I.hok b u e).stay (λc v _ q=>k c v q) (λc q=>by rw[ai (neT c _ q)];exact q) λc xs q=>by rw[ai (neT c _ q)];exact q
end
abbrev lY:QO:=[.type "ValueError",.type "Exception",.type "BaseException",.type "object"]
end L2
namespace L2
open PySem PySem.Spec PyProof.Rows
section
variable{X:Cx}
theorem qJ:∀{xs:List V}{us:QO},Vals xs us->∀(i:Nat)(u:Value),us[i]?=some u->∃x,xs[i]?=some x/\RelV x u
 |_,_,.nil,i,u,h=>by cases h
 |_,_,.cons h r,0,u,e=>by cases e;exact⟨_,rfl,h⟩
 |_,_,.cons h r,i+1,u,e=>qJ r i u e
end
end L2
namespace L2
open PySem PySem.Spec PyProof.Rows PySem.SeqAt PySem.W
mutual
inductive jJ(K:QJ)(H:Hp):V->PyData->Prop
 |aN:jJ K H .aN .none
 |bl (b:Bool):jJ K H (.bl b) (.bool b)
 |int (i:Int):jJ K H (.int i) (.int i)
 |str (x:Str):jJ K H (.str x) (.str x)
 |lst {a:Addr}{xs:List V}{ds:QM}:bD K H a xs->n9 K H xs ds->jJ K H (.ref a) (.list ds)
 |tup {a:Addr}{xs:List V}{ds:QM}:bG K H a xs->n9 K H xs ds->jJ K H (.ref a) (.tuple ds)
inductive n9(K:QJ)(H:Hp):List V->QM->Prop
 |nil:n9 K H [] []
 |cons {x:V}{d:PyData}{xs:List V}{ds:QM}:jJ K H x d->n9 K H xs ds->n9 K H (x::xs) (d::ds)
end
section
variable{X:Cx}{pins:QF}{U:St}{H:Hp}{s:Shared}
mutual
theorem Inv.reads(I:Inv X pins U H s):∀{v:V}{d:PyData}{u:Value},jJ X.K H v d->RelV v u->∃as,Reads s.heap u d as
 |_,_,_,.aN,r=>by cases r;exact⟨_,.none⟩
 |_,_,_,.bl b,r=>by cases r;exact⟨_,.bool b⟩
 |_,_,_,.int i,r=>by obtain⟨t,rfl⟩:=r;exact⟨_,.int i t⟩
 |_,_,_,.str x,r=>by obtain⟨t,rfl⟩:=r;exact⟨_,.str x t⟩
 |_,_,_,.lst hq hs,r=>by cases r;obtain⟨its,rv,p,_⟩:=I.list hq;obtain⟨as,ra⟩:=I.readsAll hs rv;obtain⟨o,ho,hc,n,hd⟩:=p.isList;exact⟨_,.list ho hc hd (by simpa using ra)⟩
 |_,_,_,.tup hq hs,r=>by cases r;obtain⟨its,rv,p,_⟩:=I.tuple hq;obtain⟨as,ra⟩:=I.readsAll hs rv;obtain⟨o,ho,hc,n,hd⟩:=(show s.heap.IsTuple _ its.toArray from p);exact⟨_,.tuple ho hc hd (by simpa using ra)⟩
theorem Inv.readsAll(I:Inv X pins U H s):∀{vs:List V}{ds:QM}{us:QO},n9 X.K H vs ds->Vals vs us->∃as,ReadsAll s.heap us ds as
 |_,_,_,.nil,r=>by cases r;exact⟨_,.nil⟩
 |_,_,_,.cons h hs,r=>by
  cases r with
  |cons r1 r2=>obtain⟨as,ra⟩:=I.reads h r1;obtain⟨bs,rb⟩:=I.readsAll hs r2;exact⟨_,.cons ra rb⟩
end
inductive Dq(K:QJ)(neg:Bool) (x:V) (y:V)(H:Hp)(Q:VK):Prop
 |mk:∀d e,(jJ K H x d)->(jJ K H y e)->(shaped d=true)->(shaped e=true)->(noMix d e=true)->(Q (.bl (if neg then !same d e else same d e)) H)->Dq K neg x y H Q
def Cp(K:QJ)(neg:Bool):R2:=λx y H Q=>Dq K neg x y H Q
def GJ(hu:X.A.units+64<cLine):bw X (compareOp .Eq) (Cp X.K false):=by intro pins s U H x y v u Q I rx ry h;obtain⟨d,e,h1,h2,s1,s2,nm,q⟩:=h;obtain⟨as,ra⟩:=I.reads h1 rx;obtain⟨bs,rb⟩:=I.reads h2 ry;exact eq_dataH_same ra rb s1 s2 hu nm ⟨.bl _,H,I,rfl,q⟩
def FZ(hu:X.A.units+64<cLine):bw X (compareOp .NotEq) (Cp X.K true):=by intro pins s U H x y v u Q I rx ry h;obtain⟨d,e,h1,h2,s1,s2,nm,q⟩:=h;obtain⟨as,ra⟩:=I.reads h1 rx;obtain⟨bs,rb⟩:=I.reads h2 ry;exact ne_dataH_same ra rb s1 s2 hu nm ⟨.bl _,H,I,rfl,q⟩
end
end L2
namespace L2
open PySem PySem.Spec PyProof.Rows PySem.W Builtin Builtin.ObjectAttr
def pG(l:QO):Bool:=match l with
 |.ref _::r=>pG r
 |l=>l==lY
theorem ux(T:String)(hT:lY.contains (.type T)=true):∀(l:QO),pG l=true->l.contains (.type T)=true
 |[],e=>by cases e
 |v::r,e=>by
  cases v with
  |ref c=>rw[PV,ux T hT r e,Bool.or_true]
  |type n=>have e:(Value.type n::r==lY)=true:=e;rw[beq_iff_eq.mp e];exact hT
  |_=>cases e
def Dt:∀(l:QO),pG l=true->l.isEmpty=false
 |[],e=>by cases e
 |_::_,_=>rfl
def HJ(K:Frag)(C:Addr):Bool:=(clsIn K C).any λcd=>pG cd.mro&&cd.hasDict
structure kB(K:Frag)(C:Addr):Prop where
 cd:HJ K C=true
 sa:findIn K (.ref C) "__setattr__"=some (some (.builtin "object.__setattr__"))
 ga:findIn K (.ref C) "__getattribute__"=some (some (.builtin "BaseException.__getattribute__"))
 ng:findIn K (.ref C) "__getattr__"=some none
section
variable{prog:Program}{w:World}{A:Around}{E:QC}{s:Shared}{K:Frag}{x C:Addr}{name:Str}{v:Value}{vs:QL}{sl:QB}
def JI(X:K.In h)(I:InstAt h x ox C od)(F:kB K C)(T:String)(hT:lY.contains (.type T)=true):Looks M h (isInstance (.ref x) (.type T)) true:=by obtain⟨cd,hc,ho⟩:=any_some F.cd;rw[MA]at ho;exact I.type.andThen (looks_mroIn X (by unfold mroIn;rw[hc,Ph,if_neg (by rw[Dt _ ho.1];decide),ux T hT _ ho.1]))
end
section
variable{prog:Program}{w:World}{A:Around}{E:QC}{s:Shared}{K:Frag}{x C:Addr}{ox:Obj}{od:Option Obj}{name:Str}{v:Value}{tk:Tok}{fill expr:Bool}
def BG:builtinKind "BaseException.__getattribute__"=some .slot:=by decide+kernel
def Ak:splitId "BaseException.__getattribute__"=some ("BaseException","__getattribute__"):=by decide+kernel
def D4(X:K.In s.heap)(I:InstAt s.heap x ox C od)(F:kB K C)(hb:wpAny (model prog w) A.in1 («object.__getattribute__» ⟨[.ref x,.str name tk],[]⟩) (λfin s'=>match fin with
   |.done (.ret v)=>wpAny (model prog w) A (handedOut v) Q E s'
   |.again c=>c.quiet=true/\codeAny (model prog w) A c (λr s''=>match r with | .ok (.ret v)=>wpAny (model prog w) A (handedOut v) Q E s''|_=>False) s'
   |_=>False) (λ_ _=>False) s) :
  wpAny (model prog w) A (getAttrBy (.ref x) (.str name tk) fill expr) Q E s:=by
 have L0:=I.type (M:=model prog w);have L1:=looks_findIn (M:=model prog w) X F.ga;have L2:=looks_findIn (M:=model prog w) X F.ng;have FB:=PySem.F.excAttr_ValueError;unfold getAttrBy;refine Mx (M1 (L0.here (M1 (L1.here ?_))));have hx2:(Value.builtin "BaseException.__getattribute__" == Value.builtin "object.__getattribute__")=false:=by decide+kernel
 dsimp only;rw[hx2,Bool.and_false,if_neg MJ];unfold getAttrByItsOwn;refine M1 (L2.here (M1 (Ow (Mx ?_))));unfold callGetattribute;rw[if_neg (by cases expr<;>decide)]
 unfold boundAndCalled;rw[FB.ga.bind];refine M1 (M8 (wpAny_call ?_));refine codeAny_call_builtin FB.ga.plain PySem.F.entry_bexc_ga (@check_slot (model prog w) _ _ _ "BaseException.__getattribute__" "BaseException" "__getattribute__" (.ref x) [.str name tk] [] _ BG Ak (JI X I F "BaseException" (by decide)) (PySem.F.args_bexc_ga (.ref x) (.str name tk)) ?_)
 refine Me hb (λfin s' z=>?_) λ_ _ z=>z.elim
 rcases fin with (_|_|_|_)|_<;>first|exact z|exact z.elim|skip
 .obtain⟨z1,z2⟩:=z;refine⟨z1,OO z2 λr s'' y=>?_⟩
  rcases r with e|(_|_|_|_)<;>first|exact y|exact y.elim
end
section
variable{prog:Program}{w:World}{A:Around}{E:QC}{s:Shared}{K:Frag}{x C:Addr}{ox:Obj}{od:Option Obj}{name:Str}{v:Value}{tk:Tok}{fill expr:Bool}
def EJ(X:K.In s.heap)(I:InstAt s.heap x ox C od)(F:kB K C)(hf:findObj K C od "__class__"=some (.bind (.builtin "getset_descriptor.__get__") (.builtin "object.__class__")))(hm:mroIn K C (.type "object")=some true)(h:Q (some (.ref C)) { s with toks:=s.toks+1 }):wpAny (model prog w) A (getAttr? (.ref x) "__class__") Q E s:=by have L0:=I.type (M:=model prog w);have L1:=looks_find (M:=model prog w) X I hf;unfold getAttr? getAttrBy?;refine M1 (wpAny_mkText (M1 (Ow (D4 (s:={ s with toks:=s.toks+1 }) X I F ?_))));unfold «object.__getattribute__»;refine M1 (M8 (M1 (M8 (M1 (L0.here (s:={ s with toks:=s.toks+1 }) (M1 (L1.here (s:={ s with toks:=s.toks+1 }) ?_)))))));show wpAny _ _ (bindTo (.builtin "getset_descriptor.__get__") (.builtin "object.__class__") (.ref x) (.ref C)) _ _ _;unfold bindTo;dsimp only;refine M1 (Mx (wpAny_call (class_get (s:={ s with toks:=s.toks+1 }) (ox:=ox) (od:=od) X I hm ?_)));refine M8 ?_;show wpAny _ _ (handedOut (.ref C)) _ _ _;exact M8 (M8 h)
structure w9(K:Frag)(C:Addr):Prop extends kB K C where
 ca:findIn K (.ref C) "__class__"=some (some (.builtin "object.__class__"))
 gt:specialIn K (.builtin "object.__class__") "__get__"=some (some (.builtin "getset_descriptor.__get__"))
 tk:takesIn K (.builtin "object.__class__")=some true
def kB.mro(F:kB K C)(T:String)(hT:lY.contains (.type T)=true):mroIn K C (.type T)=some true:=by obtain⟨cd,hc,ho⟩:=any_some F.cd;rw[MA]at ho;unfold mroIn;rw[hc,Ph,if_neg (by rw[Dt _ ho.1];decide),ux T hT _ ho.1]
def ly(F:w9 K C):KitX K (.ref x) (.ref C) (λh=>InstAt h x ox C od) where
 ty:=λ_ _ _ I=>I.type
 it:=λ_ _ X _=>by
  obtain⟨cdD,hcD,_⟩:=any_some F.cd;unfold clsIn at hcD;split at hcD
  .rename_i c' d' cd' sl' ho;intro A' Q' E' s' k q;unfold isType loadHead;exact M1 (wpAny_loadPart (k _ _ (X _ _ ho)) (M8 q))
  .cases hcD
 ne:=λh tp dd its n sl X htp=>by
  obtain⟨cdD,hcD,_⟩:=any_some F.cd;refine Bool.eq_false_iff.mpr λq=>?_
  have e:C=tp:=Value.ref.inj (beq_iff_eq.mp q);subst e;unfold clsIn at hcD;split at hcD
  .rename_i c' d' cd' sl' ho;have z:=(X _ _ ho).symm.trans htp;cases z
  .cases hcD
 ca:=λX I k=>by
  obtain⟨cd,hc,_⟩:=any_some F.cd;exact EJ X I F.1 (by simp only[findObj,hc,Ph,F.ca,F.gt,F.tk]) (F.mro "object" (by decide)) k
end
section
variable{X:Cx}{pins:QF}{U:St}{H:Hp}{s:Shared}{a C:Addr}{dd:QN}
def Inv.Ct(I:Inv X pins U H s)(e:H a=some (.ext (dI a C none))):∃ox,InstAt s.heap a ox C none:=by obtain⟨t0,v1,v2,v3,v4,v5,sl,h⟩:=I.zF e;exact⟨_,h,rfl,rfl,trivial⟩
def Inv.Dd{d:Addr}(I:Inv X pins U H s)(e:H a=some (.ext (dI a C (some d))))(hd:H d=some (.xd fs)):∃(ox od:Obj)(mA:QE),InstAt s.heap a ox C (some od)/\(∀n,lookIn n od=some (mA n))/\∀f,iG (fs.lookup f) (mA f):=by obtain⟨t0,v1,v2,v3,v4,v5,sl,h⟩:=I.zF e;obtain⟨mA,ns,rel⟩:=I.hok d _ hd;obtain⟨od,ho,hl⟩:=rQ ns;exact⟨_,od,mA,⟨h,rfl,rfl,ho⟩,hl,rel⟩
def HR(H:Hp)(a C:Addr):Prop:=H a=some (.ext (dI a C none))\/∃d fs,H a=some (.ext (dI a C (some d)))/\H d=some (.xd fs)
def BY{b:Bool}(I:Inv X pins U H s)(e:HR H a C)(F:w9 X.K C)(k:kitOne X.K (.ref C) c=some b)(h:∀tk,Q (.bool b) { s with toks:=tk }) : wpAny (model X.prog X.w) A (call (.builtin "isinstance") [.ref a,c]) Q E s:=by rcases e with e|⟨d,fs,e,hd⟩;{obtain⟨ox,J⟩:=I.Ct e;exact kia_one (ly F) I.dH J k (λz=>nomatch z) h};obtain⟨ox,od,mA,J,_,_⟩:=I.Dd e hd;exact kia_one (ly F) I.dH J k (λz=>nomatch z) h
def A0:bO X (.builtin "isinstance") (λxs H Q=>∃a C c b,xs=[.ref a,c]/\HR H a C/\w9 X.K C/\(∀u,RelV c u->kitOne X.K (.ref C) u=some b)/\Q (.bl b) H):=by intro pins s U H xs us Q I r h;obtain⟨a,C,c,b,rfl,x,F,k,q⟩:=h;obtain⟨u1,u2,rfl,ru1,ru2⟩:=r.two;cases ru1;exact BY I x F (k u2 ru2) λtk=>⟨.bl b,H,I.tok tk,rfl,q⟩
def Br:bO X (.builtin "isinstance") (λxs H Q=>∃x c t b,xs=[x,c]/\fM X.K H x t/\(∀u,RelV c u->kitOne X.K t u=some b)/\Q (.bl b) H):=by intro pins s U H xs us Q I r h;obtain⟨x,c,t,b,rfl,ty,k,q⟩:=h;obtain⟨u1,u2,rfl,ru1,ru2⟩:=r.two;exact yI I ru1 ty (k u2 ru2) λtk=>⟨.bl b,H,I.tok tk,rfl,q⟩
variable{o e value:Expr}{f y:Str}{pos pos' yp apos:Pos}{ta tv:TE}{es:QU}{t:TA}
end
end L2
namespace L2
open PySem PySem.Spec PyProof.Rows
def bI{a:Addr}(h:H a=none):af H (upd H a o):=λb u e=>by rw[ai (fm e h)];exact e
end L2
namespace Dv
open PySem L2 PySem.W
def br:Key->PyData
 |.inl i=>.int i
 |.inr x=>.str x
def bX(K:Frag)(H:Hp)(a:Addr)(xs:List V):Prop:=Rd H a (.lst xs)\/∃(its:QO) (n:Nat),K.lookup a=some { cls:=.type "list",data:=.seq its.toArray n }/\its.length<=sizeLine/\Vals xs its
def Rd.mono{a:Addr}(s:af H H'):Rd H a u->Rd H' a u
 |.inl h=>.inl (s _ _ h)
 |.inr ⟨o,h⟩=>.inr ⟨o,s _ _ h⟩
theorem bX.mono{a:Addr}(s:af H H'):bX K H a xs->bX K H' a xs
 |.inl h=>.inl (Rd.mono s h)
 |.inr h=>.inr h
def bX.sq{a:Addr}(h:bX K H a xs):bD K H a xs:=by rcases h with h|⟨its,n,hk,hl,r⟩;{exact .inl h};exact .inr ⟨_,its.toArray,n,hk,rfl,rfl,rfl,by rw[MK];exact hl,by simpa using r⟩
theorem bX.get{a:Addr}(I:L2.Inv X pins U H s)(h:bX X.K H a xs):xs.length<=sizeLine/\∃its n,Vals xs its/\s.heap.get? a=some { cls:=.type "list",data:=.seq its.toArray n }:=by rcases h with h|⟨its,n,hk,hl,r⟩;{obtain⟨z,its,n,r,e⟩:=h.ok I.hok;exact⟨z,its,n,r,e⟩};exact⟨by rw[r.length];exact hl,its,n,r,I.dH a _ hk⟩
mutual
inductive Rp(K:Frag)(H:Hp):V->PyData->Prop
 |aN:Rp K H .aN .none
 |bl (b:Bool):Rp K H (.bl b) (.bool b)
 |int (i:Int):Rp K H (.int i) (.int i)
 |str (x:Str):Rp K H (.str x) (.str x)
 |lst {a:Addr}{xs:List V}{ds:QM}:bX K H a xs->ak K H xs ds->Rp K H (.ref a) (.list ds)
 |tup {a:Addr}{xs:List V}{ds:QM}:H a=some (.tup xs)->ak K H xs ds->Rp K H (.ref a) (.tuple ds)
 |dk {a:Addr}{kvs:List (Key×V)}{ds:QA}:H a=some (.dK kvs)->dJ K H kvs ds->Rp K H (.ref a) (.dict ds)
 |dt {a:Addr}{kvs:List (List Key×V)}{ds:QA}:H a=some (.dT kvs)->dO K H kvs ds->Rp K H (.ref a) (.dict ((.none,.none)::ds))
 |exc {a C:Addr}{c:Str}:H a=some (.ext (dI a C none))->nsIn K mainGlobals c=some (some (.ref C))->Rp K H (.ref a) (.dict [(.none,.str c)])
inductive ak(K:Frag)(H:Hp):List V->QM->Prop
 |nil:ak K H [] []
 |cons {x:V}{d:PyData}{xs:List V}{ds:QM}:Rp K H x d->ak K H xs ds->ak K H (x::xs) (d::ds)
inductive dJ(K:Frag)(H:Hp):List (Key×V)->List (PyData×PyData)->Prop
 |nil:dJ K H [] []
 |cons {k:Key}{v:V}{d:PyData}{kvs:List (Key×V)}{ds:QA}:Rp K H v d->dJ K H kvs ds->dJ K H ((k,v)::kvs) ((br k,d)::ds)
inductive dO(K:Frag)(H:Hp):List (List Key×V)->List (PyData×PyData)->Prop
 |nil:dO K H [] []
 |cons {k:List Key}{v:V}{d:PyData}{kvs:List (List Key×V)}{ds:QA}:Rp K H v d->dO K H kvs ds->dO K H ((k,v)::kvs) ((.tuple (k.map br),d)::ds)
end
mutual
theorem Rp.mono(s:af H H'):∀{v:V}{d:PyData},Rp K H v d->Rp K H' v d
 |_,_,.aN=>.aN
 |_,_,.bl b=>.bl b
 |_,_,.int i=>.int i
 |_,_,.str x=>.str x
 |_,_,.lst h r=>.lst (bX.mono s h) (r.mono s)
 |_,_,.tup h r=>.tup (s _ _ h) (r.mono s)
 |_,_,.dk h r=>.dk (s _ _ h) (r.mono s)
 |_,_,.dt h r=>.dt (s _ _ h) (r.mono s)
 |_,_,.exc h n=>.exc (s _ _ h) n
theorem ak.mono(s:af H H'):∀{vs:List V}{ds:QM},ak K H vs ds->ak K H' vs ds
 |_,_,.nil=>.nil
 |_,_,.cons h r=>.cons (h.mono s) (r.mono s)
theorem dJ.mono(s:af H H'):∀{kvs:List (Key×V)}{ds:QA},dJ K H kvs ds->dJ K H' kvs ds
 |_,_,.nil=>.nil
 |_,_,.cons h r=>.cons (h.mono s) (r.mono s)
theorem dO.mono(s:af H H'):∀{kvs:List (List Key×V)}{ds:QA},dO K H kvs ds->dO K H' kvs ds
 |_,_,.nil=>.nil
 |_,_,.cons h r=>.cons (h.mono s) (r.mono s)
end
def nd:PyData->Bool
 |.list ds=>nds ds
 |.tuple ds=>nds ds
 |.dict _=>false
 |_=>true
where nds:QM->Bool
 |[]=>true
 |d::ds=>nd d&&nds ds
mutual
theorem Rp.l6:∀{v:V}{d:PyData},Rp K H v d->nd d=true->jJ K H v d
 |_,_,.aN,_=>.aN
 |_,_,.bl b,_=>.bl b
 |_,_,.int i,_=>.int i
 |_,_,.str x,_=>.str x
 |_,_,.lst h r,e=>.lst h.sq (r.l6 (by rw[nd]at e;exact e))
 |_,_,.tup h r,e=>.tup (bG.of h) (r.l6 (by rw[nd]at e;exact e))
 |_,_,.dk _ _,e=>by rw[nd]at e;cases e
 |_,_,.dt _ _,e=>by rw[nd]at e;cases e
 |_,_,.exc _ _,e=>by rw[nd]at e;cases e
theorem ak.l6:∀{vs:List V}{ds:QM},ak K H vs ds->nd.nds ds=true->n9 K H vs ds
 |_,_,.nil,_=>.nil
 |_,_,.cons h r,e=>by rw[nd.nds,MA]at e;exact .cons (h.l6 e.1) (r.l6 e.2)
end
def jH(H H':Hp):Prop:=∀a xs,H a=some (.tup xs)->H' a=some (.tup xs)
mutual
theorem Rp.lf(s:jH H H'):∀{v:V}{d:PyData},Rp K H v d->Dv.lf d=true->Rp K H' v d
 |_,_,.aN,_=>.aN
 |_,_,.bl b,_=>.bl b
 |_,_,.int i,_=>.int i
 |_,_,.str x,_=>.str x
 |_,_,.lst h r,e=>by rw[Dv.lf]at e;cases e
 |_,_,.tup h r,e=>by rw[Dv.lf]at e;exact .tup (s _ _ h) (r.lf s e)
 |_,_,.dk _ _,e=>by rw[Dv.lf]at e;cases e
 |_,_,.dt _ _,e=>by rw[Dv.lf]at e;cases e
 |_,_,.exc _ _,e=>by rw[Dv.lf]at e;cases e
theorem ak.lf(s:jH H H'):∀{vs:List V}{ds:QM},ak K H vs ds->Dv.lf.lfs ds=true->ak K H' vs ds
 |_,_,.nil,_=>.nil
 |_,_,.cons h r,e=>by rw[Dv.lf.lfs,MA]at e;exact .cons (h.lf s e.1) (r.lf s e.2)
end
section
variable{K:Frag}{H:Hp}
theorem ak.len:∀{vs:List V}{ds:QM},ak K H vs ds->vs.length=ds.length
 |_,_,.nil=>rfl
 |_,_,.cons _ r=>congrArg (·+1) r.len
theorem ak.get:∀{vs:List V}{ds:QM}{i:Nat}{d:PyData},ak K H vs ds->ds[i]?=some d->∃v,vs[i]?=some v/\Rp K H v d
 |_,_,_,_,.nil,e=>by simp at e
 |_,_,0,_,.cons h _,e=>by simp at e;subst e;exact⟨_,rfl,h⟩
 |_,_,i+1,_,.cons _ r,e=>r.get (i:=i) (by simpa using e)
theorem ak.B9:∀{vs:List V}{ds:QM}{i:Nat}{v:V},ak K H vs ds->vs[i]?=some v->∃d,ds[i]?=some d/\Rp K H v d
 |_,_,_,_,.nil,e=>by simp at e
 |_,_,0,_,.cons h _,e=>by simp at e;subst e;exact⟨_,rfl,h⟩
 |_,_,i+1,_,.cons _ r,e=>r.B9 (i:=i) (by simpa using e)
theorem ak.app:∀{vs us:List V}{ds es:QM},ak K H vs ds->ak K H us es->ak K H (vs++us) (ds++es)
 |_,_,_,_,.nil,s=>s
 |_,_,_,_,.cons h r,s=>.cons h (r.app s)
def ak.snoc(r:ak K H vs ds)(h:Rp K H v d):ak K H (vs++[v]) (ds++[d]):=r.app (.cons h .nil)
theorem ak.take:∀{vs:List V}{ds:QM} (n:Nat),ak K H vs ds->ak K H (vs.take n) (ds.take n)
 |_,_,0,_=>.nil
 |_,_,_+1,.nil=>.nil
 |_,_,n+1,.cons h r=>.cons h (r.take n)
theorem ak.drop:∀{vs:List V}{ds:QM} (n:Nat),ak K H vs ds->ak K H (vs.drop n) (ds.drop n)
 |_,_,0,r=>r
 |_,_,_+1,.nil=>.nil
 |_,_,n+1,.cons _ r=>r.drop n
theorem ak.set(h:Rp K H v d):∀{vs:List V}{ds:QM} (i:Nat),ak K H vs ds->ak K H (vs.set i v) (ds.set i d)
 |_,_,_,.nil=>.nil
 |_,_,0,.cons _ r=>.cons h r
 |_,_,i+1,.cons g r=>.cons g (r.set h i)
theorem ak.rev:∀{vs:List V}{ds:QM},ak K H vs ds->ak K H vs.reverse ds.reverse
 |_,_,.nil=>.nil
 |_,_,.cons h r=>by rw[List.reverse_cons,List.reverse_cons];exact r.rev.snoc h
end
inductive cN(K:Frag)(H Hm:Hp):List V->QM->QS->Prop
 |nil:cN K H Hm [] [] []
 |iO {x:V}{d:PyData}{xs:List V}{ds:QM}{fp:QS}:vM d=false->Rp K Hm x d->cN K H Hm xs ds fp->cN K H Hm (x::xs) (d::ds) fp
 |own {b:Addr}{ys:List V}{es:QM}{xs:List V}{ds:QM}{fp:QS}:H b=some (.lst ys)->ak K Hm ys es->b∉fp->cN K H Hm xs ds fp->cN K H Hm (.ref b::xs) (.list es::ds) (b::fp)
inductive qh(K:Frag)(H Hm:Hp):List (List Key×V)->List (PyData×PyData)->QS->Prop
 |nil:qh K H Hm [] [] []
 |own {k:List Key}{b:Addr}{ys:List V}{es:QM}{kvs:List (List Key×V)}{ds:QA}{fp:QS}:H b=some (.lst ys)->ak K Hm ys es->b∉fp->qh K H Hm kvs ds fp->qh K H Hm ((k,.ref b)::kvs) ((.tuple (k.map br),.list es)::ds) (b::fp)
inductive Own(K:Frag)(H Hm:Hp):Kd->V->PyData->QS->Prop
 |sh {v:V}{d:PyData}:Rp K Hm v d->Own K H Hm .sh v d []
 |ow {p:Bool}{a:Addr}{xs:List V}{ds:QM}:H a=some (.lst xs)->ak K Hm xs ds->Own K H Hm (.ow p) (.ref a) (.list ds) [a]
 |dp {p:Bool}{a:Addr}{xs:List V}{ds:QM}{fp:QS}:H a=some (.lst xs)->a∉fp->cN K H Hm xs ds fp->Own K H Hm (.dp p) (.ref a) (.list ds) (a::fp)
 |dk {p:Bool}{a:Addr}{kvs:List (Key×V)}{ds:QA}:H a=some (.dK kvs)->dJ K Hm kvs ds->Own K H Hm (.dk p) (.ref a) (.dict ds) [a]
 |dt {p:Bool}{a:Addr}{kvs:List (List Key×V)}{ds:QA}:H a=some (.dT kvs)->dO K Hm kvs ds->Own K H Hm (.dt p) (.ref a) (.dict ((.none,.none)::ds)) [a]
 |st {p:Bool}{a:Addr}{kvs:List (List Key×V)}{ds:QA}{fp:QS}:H a=some (.dT kvs)->a∉fp->qh K H Hm kvs ds fp->Own K H Hm (.st p) (.ref a) (.dict ((.none,.none)::ds)) (a::fp)
section
variable{K:Frag}{H H' Hm Hm':Hp}
def cN.step(s:af Hm Hm'){xs:List V}{ds:QM}{fp:QS}(i:cN K H Hm xs ds fp):(∀a∈fp,H' a=H a)->cN K H' Hm' xs ds fp:=by
 induction i with
 |nil=>exact λ_=>.nil
 |iO e r _ ih=>exact λh=>.iO e (r.mono s) (ih h)
 |own e r n _ ih=>exact λh=>.own ((h _ M7).trans e) (r.mono s) n (ih λa ha=>h a (MC _ ha))
def cN.live(i:cN K H Hm xs ds fp):∀a∈fp,∃ys,H a=some (.lst ys):=by
 induction i with
 |nil=>exact λ_ h=>absurd h NK
 |iO _ _ _ ih=>exact ih
 |own e _ _ _ ih=>intro a h;rcases MH.mp h with rfl|h;{exact⟨_,e⟩};exact ih a h
def qh.step(s:af Hm Hm'){xs:List (List Key×V)}{ds:QA}{fp:QS}(i:qh K H Hm xs ds fp):(∀a∈fp,H' a=H a)->qh K H' Hm' xs ds fp:=by
 induction i with
 |nil=>exact λ_=>.nil
 |own e r n _ ih=>exact λh=>.own ((h _ M7).trans e) (r.mono s) n (ih λa ha=>h a (MC _ ha))
def qh.live(i:qh K H Hm xs ds fp):∀a∈fp,∃ys,H a=some (.lst ys):=by
 induction i with
 |nil=>exact λ_ h=>absurd h NK
 |own e _ _ _ ih=>intro a h;rcases MH.mp h with rfl|h;{exact⟨_,e⟩};exact ih a h
theorem Own.step{k:Kd}{v:V}{d:PyData}{fp:QS}(o:Own K H Hm k v d fp)(s:af Hm Hm')(h:∀a∈fp,H' a=H a):Own K H' Hm' k v d fp:=by
 cases o with
 |sh r=>exact .sh (r.mono s)
 |ow e r=>exact .ow ((h _ M7).trans e) (r.mono s)
 |dp e n t=>exact .dp ((h _ M7).trans e) n (t.step s λa ha=>h a (MC _ ha))
 |dk e r=>exact .dk ((h _ M7).trans e) (r.mono s)
 |dt e r=>exact .dt ((h _ M7).trans e) (r.mono s)
 |st e n t=>exact .st ((h _ M7).trans e) n (t.step s λa ha=>h a (MC _ ha))
def nH(u:HO):Prop:=∀xs,u≠.tup xs
def jE:nH (.lst xs):=λ_ z=>by cases z
def sd:nH (.dK xs):=λ_ z=>by cases z
def sf:nH (.dT xs):=λ_ z=>by cases z
theorem Own.live(o:Own K H Hm k v d fp):∀a∈fp,∃u,H a=some u/\nH u:=by
 intro a ha;cases o with
 |sh _=>cases ha
 |ow e _=>rw[MR.mp ha];exact⟨_,e,by first|exact jE|exact sd|exact sf⟩
 |dp e _ t=>rcases MH.mp ha with rfl|ha;{exact⟨_,e,by first|exact jE|exact sd|exact sf⟩};obtain⟨ys,e⟩:=t.live a ha;exact⟨_,e,by first|exact jE|exact sd|exact sf⟩
 |dk e _=>rw[MR.mp ha];exact⟨_,e,by first|exact jE|exact sd|exact sf⟩
 |dt e _=>rw[MR.mp ha];exact⟨_,e,by first|exact jE|exact sd|exact sf⟩
 |st e _ t=>rcases MH.mp ha with rfl|ha;{exact⟨_,e,by first|exact jE|exact sd|exact sf⟩};obtain⟨ys,e⟩:=t.live a ha;exact⟨_,e,by first|exact jE|exact sd|exact sf⟩
def cN.Lw(s:af Hm Hm')(i:cN K H Hm xs ds fp):(∀a∈fp,Hm' a=H a)->ak K Hm' xs ds:=by
 induction i with
 |nil=>exact λ_=>.nil
 |iO _ r _ ih=>exact λh=>.cons (r.mono s) (ih h)
 |own e r _ _ ih=>exact λh=>.cons (.lst (.inl (.inl ((h _ M7).trans e))) (r.mono s)) (ih λa ha=>h a (MC _ ha))
def Own.rp(o:Own K H Hm k v d fp)(hk:k.rd=true)(s:af Hm Hm')(h:∀a∈fp,Hm' a=H a):Rp K Hm' v d:=by
 cases o with
 |sh r=>exact r.mono s
 |ow e r=>exact .lst (.inl (.inl ((h _ M7).trans e))) (r.mono s)
 |dp e _ t=>exact .lst (.inl (.inl ((h _ M7).trans e))) (t.Lw s λa ha=>h a (MC _ ha))
 |dk e r=>exact .dk ((h _ M7).trans e) (r.mono s)
 |dt e r=>exact .dt ((h _ M7).trans e) (r.mono s)
 |st _ _ _=>cases hk
def ak.um(s:jH Hm Hm')(r:ak K Hm xs ds)(h:ds.all Dv.lf=true):ak K Hm' xs ds:=r.lf s (by rw[qO];exact h)
theorem cN.flat(s:jH Hm Hm'):∀{xs:List V}{ds:QM}{fp:QS},cN K H Hm xs ds fp->(ds.all λd=>match d with | .list es=>es.all Dv.lf|d=>Dv.lf d)=true->cN K H Hm' xs ds fp
 |_,_,_,.nil,_=>.nil
 |_,_,_,.iO (d:=d) e r t,h=>by rw[MG,MA]at h;refine .iO e (r.lf s ?_) (t.flat s h.2);have h1:=h.1;cases d<;>first|exact h1|cases e
 |_,_,_,.own e r n t,h=>by rw[MG,MA]at h;exact .own e (r.um s h.1) n (t.flat s h.2)
theorem dJ.flat(s:jH Hm Hm'):∀{kvs:List (Key×V)}{ds:QA},dJ K Hm kvs ds->(ds.all λkv=>Dv.lf kv.2)=true->dJ K Hm' kvs ds
 |_,_,.nil,_=>.nil
 |_,_,.cons r t,h=>by rw[MG,MA]at h;exact .cons (r.lf s h.1) (t.flat s h.2)
theorem dO.flat(s:jH Hm Hm'):∀{kvs:List (List Key×V)}{ds:QA},dO K Hm kvs ds->(ds.all λkv=>Dv.lf kv.2)=true->dO K Hm' kvs ds
 |_,_,.nil,_=>.nil
 |_,_,.cons r t,h=>by rw[MG,MA]at h;exact .cons (r.lf s h.1) (t.flat s h.2)
theorem Own.flat(o:Own K H Hm k v d fp)(s:jH Hm Hm')(h:Dv.flat k d=true):Own K H Hm' k v d fp:=by
 cases o with
 |sh r=>exact .sh (r.lf s h)
 |ow e r=>exact .ow e (r.um s h)
 |dp e n t=>exact .dp e n (t.flat s h)
 |dk e r=>exact .dk e (r.flat s h)
 |dt e r=>have h:(Dv.lf .none&&_)=true:=h;rw[MA]at h;exact .dt e (r.flat s h.2)
 |st _ _ _=>cases h
end
def OE(o p:Option HO):Prop:=o=p\/(p=none/\∃xs,o=some (.tup xs))
def OE.rfl':OE o o:=.inl rfl
def OE.trans(h:OE a b)(k:OE b c):OE a c:=by rcases h with rfl|⟨rfl,h⟩;{exact k};rcases k with rfl|⟨rfl,_⟩;{exact .inr ⟨rfl,h⟩};exact .inr ⟨rfl,h⟩
def OE.off{a:Addr}(h:OE (Hm a) p)(hp:p=none)(s:af Hm H)(hu:H a=some u)(nt:nH u):Hm a=none:=by rcases h with e|⟨_,xs,e⟩;{rw[e,hp]};have:=s _ _ e;rw[hu]at this;cases this;exact absurd rfl (nt xs)
structure Gh where
 H0:Hp
 gF:Hp
 pins:List (Nat×Addr)
def Gh.M(g:Gh):QS:=g.pins.map (·.2)
structure Rl(K:Frag)(g:Gh)(E:En)(U:St)(H Hm:Hp)(F:Nat->QS):Prop where
 len:E.length=U.length
 sub:af Hm H
 slot:∀i k d,E[i]?=some (some (k,d))->∃v,U[i]?=some (some v)/\Own K H Hm k v d (F i)
 off:∀i a,a∈F i->Hm a=none
 aX:∀i a,a∈F i->∃u,H a=some u/\nH u
 aM:∀i j a,a∈F i->a∈F j->i=j
 fr:∀p o,p∉g.M->g.H0 p=some o->H p=some o
 new:∀i a,a∈F i->a∈g.M\/g.H0 a=none
 pin:∀q∈g.pins,U[q.1]?=some (some (.ref q.2))/\∃ds,E[q.1]?=some (some (.ow true,.list ds))
 old:∀a,g.H0 a≠none->OE (Hm a) (g.gF a)
structure Tm(K:Frag)(g:Gh)(F:Nat->QS)(H Hm:Hp)(k:Kd) (v:V)(d:PyData)(fp:QS):Prop where
 own:Own K H Hm k v d fp
 off:∀a∈fp,Hm a=none
 aM:∀a∈fp,∀i,a∉F i
 new:∀a∈fp,g.H0 a=none
section
variable{K:Frag}{g:Gh}{E:En}{U:St}{H H' Hm Hm':Hp}{F:Nat->QS}
def Rl.grow(R:Rl K g E U H Hm F)(h:af H H')(s:af Hm Hm')(b:af Hm' H')(o:∀i a,a∈F i->Hm' a=none)(od:∀a,g.H0 a≠none->OE (Hm' a) (Hm a)):Rl K g E U H' Hm' F where
 len:=R.len
 sub:=b
 slot:=λi k d e=>by
  obtain⟨v,h1,h2⟩:=R.slot i k d e;refine⟨v,h1,h2.step s λa ha=>?_⟩
  obtain⟨u,hu,_⟩:=h2.live a ha;rw[hu];exact h _ _ hu
 off:=o
 aX:=λi a ha=>let⟨u,hu,n⟩:=R.aX i a ha;⟨u,h _ _ hu,n⟩
 aM:=R.aM
 fr:=λp o hp ho=>h _ _ (R.fr p o hp ho)
 new:=R.new
 pin:=R.pin
 old:=λa ha=>(od a ha).trans (R.old a ha)
def Rl.more(R:Rl K g E U H Hm F)(s:af Hm Hm')(b:af Hm' H)(o:∀i a,a∈F i->Hm' a=none)(od:∀a,g.H0 a≠none->OE (Hm' a) (Hm a)):Rl K g E U H Hm' F:=R.grow (af.refl _) s b o od
def Rl.yd(R:Rl K g E U H Hm F)(hq:q∈g.pins):F q.1=[q.2]:=by obtain⟨h1,ds,h2⟩:=R.pin q hq;obtain⟨v,h3,h4⟩:=R.slot _ _ _ h2;rw[h1]at h3;cases h3;generalize F q.1=fi at h4;cases h4;rfl
def Rl.notM(R:Rl K g E U H Hm F){i:Nat}(e:E[i]?=some (some (k,d)))(hk:k.pin=false){a:Addr}(ha:a∈F i):g.H0 a=none:=by rcases R.new i a ha with m|m;{obtain⟨q,hq,rfl⟩:=MS.mp m;have:=R.aM i q.1 q.2 ha (by rw[R.yd hq];exact M7);obtain⟨_,ds,h2⟩:=R.pin q hq;rw[<-this,e]at h2;cases h2;cases hk};exact m
def Rl.Jw(R:Rl K g E U H Hm F){a:Addr}(ha:a∈g.M):H a≠none:=λz=>by obtain⟨q,hq,rfl⟩:=MS.mp ha;obtain⟨u,hu,_⟩:=R.aX q.1 q.2 (by rw[R.yd hq];exact M7);rw[z]at hu;cases hu
def Rl.mY(R:Rl K g E U H Hm F){a:Addr}(ha:g.H0 a≠none):H a≠none:=λz=>by
 by_cases m:a∈g.M;{exact R.Jw m z};cases e:g.H0 a with
 |none=>exact ha e
 |some o=>rw[R.fr a o m e]at z;cases z
def Rl.fresh(R:Rl K g E U H Hm F){p:Addr}(h:H p=none){i:Nat}:p∉F i:=λz=>by obtain⟨u,hu,_⟩:=R.aX i p z;rw[h]at hu;cases hu
def Rl.pL(R:Rl K g E U H Hm F){p:Addr}(h:H p=none):Hm p=none:=by
 cases e:Hm p with
 |none=>rfl
 |some o=>rw[R.sub _ _ e]at h;cases h
def Rl.eK(R:Rl K g E U H Hm F){p:Addr}(h:H p=none):g.H0 p=none:=by
 cases e:g.H0 p with
 |none=>rfl
 |some o=>exact absurd h (R.mY (by rw[e];simp))
end
open Classical in
def lend(Hm H:Hp)(fp:QS):Hp:=λa=>if a∈fp then H a else Hm a
open Classical in
def back(Hm:Hp)(fp:QS):Hp:=λa=>if a∈fp then none else Hm a
section
variable{Hm H:Hp}{fp:QS}{a:Addr}
def d8(h:a∈fp):lend Hm H fp a=H a:=by unfold lend;rw[if_pos h]
def b9(h:a∉fp):lend Hm H fp a=Hm a:=by unfold lend;rw[if_neg h]
def gJ(h:a∈fp):back Hm fp a=none:=by unfold back;rw[if_pos h]
def cg(h:a∉fp):back Hm fp a=Hm a:=by unfold back;rw[if_neg h]
def gG(n:∀a∈fp,Hm a=none):af Hm (lend Hm H fp):=λb o e=>by
 have:b∉fp:=λz=>by rw[n b z]at e;cases e
 rw[b9 this];exact e
def jw(s:af Hm H):af (lend Hm H fp) H:=λb o e=>by by_cases h:b∈fp;{rw[d8 h]at e;exact e};rw[b9 h]at e;exact s _ _ e
def tH(s:af Hm H):af (back Hm fp) H:=λb o e=>by by_cases h:b∈fp;{rw[gJ h]at e;cases e};rw[cg h]at e;exact s _ _ e
end
section
variable{K:Frag}{g:Gh}{E:En}{U:St}{H H' Hm Hm':Hp}{F:Nat->QS}{k:Kd}{v:V}{d:PyData}{fp:QS}
def Tm.d7(T:Tm K g F H Hm k v d fp)(R:Rl K g E U H Hm F)(hk:k.fz=true):∃Hm',af Hm Hm'/\Rl K g E U H Hm' F/\Rp K Hm' v d:=by have up:=gG (Hm:=Hm) (H:=H) T.off;refine⟨lend Hm H fp,up,R.more up (jw R.sub) (λi a ha=>?_) λa ha=>.inl (b9 λz=>ha (T.new a z)),T.own.rp (by cases k<;>first|rfl|cases hk) up λa ha=>d8 ha⟩;rw[b9 λz=>T.aM a z i ha];exact R.off i a ha
def ao{α:Type}{l:List α}{i:Nat}{a:α}(h:i<l.length):(l.set i a)[i]?=some a:=by rw[Nd];simp[h]
def ah{α:Type}{l:List α}{i j:Nat}{a:α}(h:i≠j):(l.set i a)[j]?=l[j]?:=by rw[Nd];simp[h]
def Rl.put(R:Rl K g E U H Hm F)(T:Tm K g F H Hm k v d fp){i:Nat}(o:aW E i=true):Rl K g (E.set i (some (k,d))) (U.set i (some v)) H Hm (λj=>if j=i then fp else F j) where
 len:=by rw[MY,MY];exact R.len
 sub:=R.sub
 slot:=λj k' d' e=>by
  by_cases c:j=i
  .subst c;have hl:j<E.length:=by
    rcases Mv j E.length with h|h
    .exact h
    .rw[Mk (by rw[MY];exact h)]at e;cases e
   rw[ao hl]at e;cases e;exact⟨v,ao (R.len▸hl),by rw[if_pos rfl];exact T.own⟩
  .rw[ah (Ne.symm c)]at e;obtain⟨u,h1,h2⟩:=R.slot j k' d' e;exact⟨u,by rw[ah (Ne.symm c)];exact h1,by rw[if_neg c];exact h2⟩
 off:=λj a ha=>by
  by_cases c:j=i
  .rw[if_pos c]at ha;exact T.off a ha
  .rw[if_neg c]at ha;exact R.off j a ha
 aX:=λj a ha=>by
  by_cases c:j=i
  .rw[if_pos c]at ha;exact T.own.live a ha
  .rw[if_neg c]at ha;exact R.aX j a ha
 aM:=λj l a h1 h2=>by
  by_cases c:j=i
  .rw[if_pos c]at h1
   by_cases c':l=i
   .rw[c,c']
   .rw[if_neg c']at h2;exact absurd h2 (T.aM a h1 l)
  .rw[if_neg c]at h1
   by_cases c':l=i
   .rw[if_pos c']at h2;exact absurd h1 (T.aM a h2 j)
   .rw[if_neg c']at h2;exact R.aM j l a h1 h2
 fr:=R.fr
 new:=λj a ha=>by
  by_cases c:j=i
  .rw[if_pos c]at ha;exact .inr (T.new a ha)
  .rw[if_neg c]at ha;exact R.new j a ha
 pin:=λq hq=>by
  obtain⟨h1,ds,h2⟩:=R.pin q hq;have c:i≠q.1:=λz=>by
   unfold aW at o;rw[z,h2]at o;cases o
  exact⟨by rw[ah c];exact h1,ds,by rw[ah c];exact h2⟩
 old:=R.old
theorem Tm.sh(h:Rp K Hm v d):Tm K g F H Hm .sh v d []:=⟨.sh h,(λ_ z=>by cases z),(λ_ z=>by cases z),λ_ z=>by cases z⟩
def Rl.chg(R:Rl K g E U H Hm F){i:Nat}{p:Bool}{ds es:QM}{ys:List V}(e:E[i]?=some (some (.ow p,.list ds)))(r:ak K Hm ys es):∃a xs,U[i]?=some (some (.ref a))/\H a=some (.lst xs)/\ak K Hm xs ds/\Hm a=none/\Rl K g (E.set i (some (.ow p,.list es))) U (upd H a (.lst ys)) Hm F:=by
 obtain⟨v,h1,h2⟩:=R.slot i _ _ e;generalize hf:F i=fi at h2;cases h2 with
 |@ow _ a xs _ ha hr=>
  have ma:a∈F i:=by rw[hf];exact M7
  have na:=R.off i a ma;have up:∀b,b≠a->upd H a (.lst ys) b=H b:=λb hb=>ai hb;have li:i<E.length:=by rcases Mv i E.length with h|h;{exact h};rw[Mk h]at e;cases e
  refine⟨a,xs,h1,ha,hr,na,?_⟩;exact {
   len:=by rw[MY];exact R.len
   sub:=λb o hb=>by
    have:b≠a:=λz=>by rw[z,na]at hb;cases hb
    rw[up b this];exact R.sub b o hb
   slot:=λj k' d' e'=>by
    by_cases c:j=i
    .subst c;rw[ao li]at e';cases e';exact⟨_,h1,by rw[hf];exact .ow aB r⟩
    .rw[ah (Ne.symm c)]at e';obtain⟨u,g1,g2⟩:=R.slot j k' d' e';refine⟨u,g1,g2.step (af.refl _) λb hb=>up b λz=>c (R.aM j i a (z▸hb) ma)⟩
   off:=R.off
   aX:=λj b hb=>by
    by_cases c:b=a
    .rw[c];exact⟨_,aB,jE⟩
    .rw[up b c];exact R.aX j b hb
   aM:=R.aM
   fr:=λq o hq ho=>by
    have:q≠a:=λz=>by
     rcases R.new i a ma with y|y
     .exact hq (z▸y)
     .rw[z,y]at ho;cases ho
    rw[up q this];exact R.fr q o hq ho
   new:=R.new
   pin:=λq hq=>by
    obtain⟨g1,ds',g2⟩:=R.pin q hq
    by_cases c:i=q.1
    .rw[<-c]at g1 g2⊢;rw[e]at g2;cases g2;exact⟨g1,es,ao li⟩
    .exact⟨g1,ds',by rw[ah c];exact g2⟩
   old:=R.old }
theorem Rl.cG(R:Rl K g E U H Hm F){i:Nat}{E':En}{d:PyData}{k:Kd}(e:E[i]?=some (some (k,d)))(h:Dv.cG E i=some E'):∃v Hm' F',U[i]?=some (some v)/\af Hm Hm'/\Rl K g E' U H Hm' F'/\Rp K Hm' v d:=by
 unfold Dv.cG at h;rw[e]at h;have h:(if k.fz=true then some (E.set i (some (.sh,d)))else none)=some E':=h;by_cases hk:k.fz=true
 .rw[if_pos hk]at h;cases h;obtain⟨v,h1,h2⟩:=R.slot i k d e;have up:=gG (Hm:=Hm) (H:=H) (fp:=F i) (R.off i);have rp:=h2.rp (by cases k<;>first|rfl|cases hk) up λa ha=>d8 ha;have li:i<E.length:=by rcases Mv i E.length with h|h;{exact h};rw[Mk h]at e;cases e
  refine⟨v,lend Hm H (F i),λj=>if j=i then []else F j,h1,up,?_,rp⟩;exact {
   len:=by rw[MY];exact R.len
   sub:=jw R.sub
   slot:=λj k' d' e'=>by
    by_cases c:j=i
    .subst c;rw[ao li]at e';cases e';exact⟨v,h1,by rw[if_pos rfl];exact .sh rp⟩
    .rw[ah (Ne.symm c)]at e';obtain⟨u,g1,g2⟩:=R.slot j k' d' e';exact⟨u,g1,by rw[if_neg c];exact g2.step up λ_ _=>rfl⟩
   off:=λj a ha=>by
    by_cases c:j=i
    .rw[if_pos c]at ha;cases ha
    .rw[if_neg c]at ha;rw[b9 λz=>c (R.aM j i a ha z)]
     exact R.off j a ha
   aX:=λj a ha=>by
    by_cases c:j=i
    .rw[if_pos c]at ha;cases ha
    .rw[if_neg c]at ha;exact R.aX j a ha
   aM:=λj l a g1 g2=>by
    by_cases c:j=i
    .rw[if_pos c]at g1;cases g1
    .rw[if_neg c]at g1
     by_cases c':l=i
     .rw[if_pos c']at g2;cases g2
     .rw[if_neg c']at g2;exact R.aM j l a g1 g2
   fr:=R.fr
   new:=λj a ha=>by
    by_cases c:j=i
    .rw[if_pos c]at ha;cases ha
    .rw[if_neg c]at ha;exact R.new j a ha
   pin:=λq hq=>by
    obtain⟨g1,ds',g2⟩:=R.pin q hq;have c:i≠q.1:=λz=>by
     rw[<-z,e]at g2;cases g2;cases hk
    exact⟨g1,ds',by rw[ah c];exact g2⟩
   old:=λa ha=>by
    rw[b9 λz=>ha (R.notM e (by cases k<;>first|rfl|(rename_i p;cases p<;>first|rfl|cases hk)|cases hk) z)]
    exact R.old a ha }
 rw[if_neg hk]at h;cases h
end
end Dv
namespace L2
open PySem PySem.Spec PyProof.Rows
def gh(h:Heap)(e C T:Addr)(dd:QN):Prop:=
 ∃(t0:Addr)(v2 v3 v4 v5:Value)(sl:QB)(oT:Obj)(ts:QL),h.get? e=some ⟨.ref C,dd,.fields #[.ref t0,.ref T,v2,v3,v4,v5],sl⟩/\T≠e/\h.get? T=some oT/\oT.data=.fields ts/\ts[3]?=some .none
structure Way(fs:QS)(e T:Addr)(h h':Heap):Prop where
 keep:∀b o,b≠e->b≠T->b∉fs->h.get? b=some o->h'.get? b=some o
 slot:∀b o,b≠e->b≠T->h.get? b=some o->∃sl,h'.get? b=some { o with slots:=sl }
section
variable{M:Model}{A:Around}{E:QC}{s:Shared}
def lU{L e C t0 T0:Addr}{hadNext:Bool}(hfr:A.frames=some (env::outer))(hl:s.heap.FunFrames base (env::outer))(hf:env.frame=some L)(he:s.heap.get? e=some ⟨.ref C,dd,.fields #[.ref t0,w1,v2,v3,v4,v5],sl0⟩)(q:∀h' T,s.heap.get? T=none->Way (frs (env::outer)) e T s.heap h'->gh h' e C T dd->Q () { s with heap:=h' }) :
  wpAny M A (do let a <-frameOf env;let pl <-entryPlaceOf L hadNext;let b <-EntryCells.newEntry head a .none (rawInt L) .none pl;setField (.ref e) 1 b) (λ_ s'=>wpAny M A (setFlight (.ref e) none) Q E s') E s:=by
 have ene:e∉frs (env::outer):=λhm=>by obtain⟨_,o,ho,hnf⟩:=hl.mem hm;rw[he]at ho;cases ho;exact hnf _ rfl
 refine M1 (wpAny_frameOf_fun hfr hl hf λh1 hs1=>M1 (wpAny_entryPlaceOf λpl hpl=>?_))
 unfold EntryCells.newEntry newFields;refine M1 (Nk ?_ (hpl.sizeOk5 _ _ _ _ _));have he1:h1.get? e=some ⟨.ref C,dd,.fields #[.ref t0,w1,v2,v3,v4,v5],sl0⟩:=(hs1.2.1 e ene).trans he;generalize hO:({ cls:=.type "traceback",dict:=none,data:=.fields ([head,.ref L,.none,rawInt L,.none]++(if pl.isEmpty then List.replicate 6 Value.none else pl)).toArray }:Obj)=oT
 have he2:=ML (h:=h1) oT he1;refine Ox he2 rfl (by show 1<6;decide) ?_
 have ne:h1.objs.size≠e:=Nu (MB he1);have hdT:oT.data=.fields ([head,.ref L,.none,rawInt L,.none]++(if pl.isEmpty then List.replicate 6 Value.none else pl)).toArray:=by rw[<-hO]
 have fr:oT.isFreed=false:=by rw[<-hO];rfl
 have he3:((h1.push oT).update e (Obj.mapFields (·.setIfInBounds 1 (Value.ref h1.objs.size)))).get? e=some ⟨.ref C,dd,.fields #[.ref t0,.ref h1.objs.size,v2,v3,v4,v5],sl0⟩:=OS _ he2 rfl;have hT3:((h1.push oT).update e (Obj.mapFields (·.setIfInBounds 1 (Value.ref h1.objs.size)))).get? h1.objs.size=some oT:=(Mw _ _ (Ne.symm ne)).trans (Mn h1 fr);unfold setFlight;refine M1 (NP he3 rfl (x:=.ref h1.objs.size) rfl ?_);rw[if_pos (show(Value.ref h1.objs.size != Value.none)=true by simp)]
 have sz:s.heap.objs.size=h1.objs.size:=hs1.1.symm;refine Ox hT3 hdT (by simp only[MK,MV,MW,List.length_nil]<;>lia) (q _ h1.objs.size ?_ ⟨λb o b1 b2 b3 hb=>?_,λb o b1 b2 hb=>?_⟩ ?_)
 .exact Oi (N8 sz)
 .have hb1:h1.get? b=some o:=(hs1.2.1 b b3).trans hb;rw[Mw _ _ (Ne.symm b2),Mw _ _ (Ne.symm b1)];exact ML _ hb1
 .obtain⟨sl,hb1⟩:=hs1.2.2 b o hb;refine⟨sl,?_⟩;rw[Mw _ _ (Ne.symm b2),Mw _ _ (Ne.symm b1)];exact ML _ hb1
 .have dt:=Pj hdT (·.setIfInBounds 3 ((none:QN).elim Value.none λf=>rawInt f))
  refine⟨t0,v2,v3,v4,v5,sl0,_,_,?_,ne,OS _ hT3 (Pk dt),dt,?_⟩
  .rw[Mw _ _ ne];exact he3
  .first|(simp;done)|(rcases hpl with rfl|⟨_,_,_,_,_,_,_,rfl⟩<;>simp)
def leave_new{L e C t0:Addr}(hfr:A.frames=some (env::outer))(hl:s.heap.FunFrames base (env::outer))(hf:env.frame=some L)(he:s.heap.get? e=some ⟨.ref C,dd,.fields #[.ref t0,.none,v2,v3,v4,v5],sl0⟩)(q:∀h' T,s.heap.get? T=none->Way (frs (env::outer)) e T s.heap h'->gh h' e C T dd->Q () { s with heap:=h' }):wpAny M A (leaving env (.ref e)) Q E s:=by unfold leaving noteFrame;simp only[hf];refine M1 (M1 (NP he rfl (x:=.none) rfl ?_));rw[if_neg (show ¬((Value.none != Value.none)=true)by decide)];exact lU (T0:=e) hfr hl hf he q
def Cc{L e C T:Addr}(hfr:A.frames=some (env::outer))(hl:s.heap.FunFrames base (env::outer))(hf:env.frame=some L)(ho:gh s.heap e C T dd)(q:∀h' T2,s.heap.get? T2=none->(∀b o,b≠e->b≠T->b≠T2->b∉frs (env::outer)->s.heap.get? b=some o->h'.get? b=some o)->(∀b o,b≠e->b≠T->b≠T2->s.heap.get? b=some o->∃sl,h'.get? b=some { o with slots:=sl })->gh h' e C T2 dd->Q () { s with heap:=h' }):wpAny M A (leaving env (.ref e)) Q E s:=by
 obtain⟨t0,v2,v3,v4,v5,sl0,oT,ts,he,hTe,hT,hdT,h3⟩:=ho;unfold leaving noteFrame;simp only[hf];refine M1 (M1 (NP he rfl (x:=.ref T) rfl ?_));rw[if_pos (show(Value.ref T != Value.none)=true by simp)];refine M1 (NP hT hdT h3 ?_);rw[if_neg (show ¬((Value.none==rawInt L)=true)by simp[rawInt])];refine M1 (Ox hT hdT (NR.mp h3).1 ?_);have other:∀b,b≠T->(s.heap.update T (Obj.mapFields (·.setIfInBounds 3 Value.none))).get? b=s.heap.get? b:=λb hb=>Mw _ _ (Ne.symm hb);have noRec:∀b o,s.heap.get? b=some o->(∀vs,o.data≠.fields vs)->b≠T:=λb o hb hnf z=>by rw[z,hT]at hb;cases hb;exact hnf ts hdT
 refine lU (s:={ s with heap:=s.heap.update T (Obj.mapFields (·.setIfInBounds 3 Value.none)) }) (T0:=T) hfr (hl.of_keeps λb o hb hnf=>⟨o,(other b (noRec b o hb hnf)).trans hb,rfl⟩) hf ((other e (Ne.symm hTe)).trans he) λh' T2 n2 W O=>?_;have n2':s.heap.get? T2=none:=by
  cases c:s.heap.get? T2 with
  |none=>rfl
  |some o=>exfalso;by_cases z:T2=T;{subst z;rw[OS _ hT (Pk (Pj hdT _))]at n2;cases n2};rw[show({ s with heap:=s.heap.update T (Obj.mapFields (·.setIfInBounds 3 Value.none)) }:Shared).heap.get? T2=s.heap.get? T2 from other T2 z,c]at n2;cases n2
 exact q h' T2 n2' (λb o b1 b2 b3 b4 hb=>W.keep b o b1 b3 b4 ((other b b2).trans hb)) (λb o b1 b2 b3 hb=>W.slot b o b1 b3 ((other b b2).trans hb)) O
end
end L2
namespace L2
open PySem PySem.Spec PyProof.Rows PySem.W
def dP(P:Program)(w:World):jM:=λouter H s E e s'=>
 ∃a C T H',e=.ref a/\s'.os=s.os/\AllBare s'.gens/\Un (frs outer) [] H H' s.heap s'.heap/\cA P w H' s'.heap/\gh s'.heap a C T none/\s.heap.get? T=none/\H' T=none/\s.heap.get? a=none/\H' a=some (.ext (dI a C none))/\E (.ref C) (some a) H'
def gh.zF{e C T:Addr}(o:gh h e C T dd):dI e C dd h:=by obtain⟨t0,v2,v3,v4,v5,sl,_,_,he,_⟩:=o;exact⟨t0,_,v2,v3,v4,v5,sl,he⟩
def vW{P:Program}{w:World}{H:Hp}{h h':Heap}{a C:Addr}{fs:QS}{N:Addr->Prop}(ok:cA P w H h)(ha:H a=some (.ext (dI a C none)))(hN:∀b,N b->H b=none)(hf:∀b∈fs,H b=none)(k:∀b o,b≠a->¬N b->b∉fs->h.get? b=some o->h'.get? b=some o)(x:dI a C none h'):cA P w H h':=λb u e=>by by_cases z:b=a;{subst z;rw[ha]at e;cases e;exact zN x};have nn:∀c v,H c=some v->¬N c/\c∉fs:=λc v q=>⟨λy=>(by rw[hN c y]at q;cases q),λy=>(by rw[hf c y]at q;cases q)⟩;refine(ok b u e).stay (λc v hc r=>k c v ?_ ?_ ?_ r) (λc r=>r) λc xs r=>r;{rcases hc with y|y;{rw[y];exact z};intro q;rw[q,ha]at y;cases y};{rcases hc with y|y;{rw[y];exact(nn b u e).1};exact(nn c _ y).1};rcases hc with y|y;{rw[y];exact(nn b u e).2};exact(nn c _ y).2
section
variable{CX:jM}{P:Program}{w:World}{K:Frag}{mg:QE}{base:Heap}{N:QY}{qual:Str}{scope:Scope}{f:Addr}{cd:Value}{A:Around}{outer:List Env}{s0:Shared}{H0:Hp}{E:XK}
def wu{pins:QF}{U:St}{H:Hp}{s:Shared}{a C T:Addr}{h':Heap}{Nw:Addr->Prop}(I:Inv (fK CX P w K mg base N qual scope f cd A outer s0 H0 E) pins U H s)(ha:H a=some (.ext (dI a C none)))(na:s0.heap.get? a=none)(hN:∀b,Nw b->H b=none)(hN0:∀b,Nw b->s0.heap.get? b=none)(hT:Nw T)(k:∀b o,b≠a->¬Nw b->b∉frs (envOfC qual scope s0.heap.objs.size f cd::outer)->s.heap.get? b=some o->h'.get? b=some o)(sl:∀b o,b≠a->¬Nw b->s.heap.get? b=some o->∃sl,h'.get? b=some { o with slots:=sl })(O:gh h' a C T none)(q:E (.ref C) (some a) H):dP P w outer H0 s0 E (.ref a) { s with heap:=h' }:=by
 have B:Un (frs outer) [] H0 H s0.heap s.heap:=I.base;have old:∀b o,s0.heap.get? b=some o->b≠a/\¬Nw b:=λb o e=>⟨(λz=>by rw[z,na]at e;cases e),λz=>by rw[hN0 b z]at e;cases e⟩;have notloc:∀b o,s0.heap.get? b=some o->b∉frs outer->b∉frs (envOfC qual scope s0.heap.objs.size f cd::outer):=λb o e nb z=>by
  have z2:b∈(envOfC qual scope s0.heap.objs.size f cd).frame.toList++frs outer:=by have:frs (envOfC qual scope s0.heap.objs.size f cd::outer)=s0.heap.objs.size::frs outer:=rfl;rw[this]at z;exact z
  rcases MF.mp z2 with y|y
  .have y:some s0.heap.objs.size=some b:=by
    have y0:(envOfC qual scope s0.heap.objs.size f cd).frame=some b:=by simpa using y
    exact y0
   have y:s0.heap.objs.size=b:=Option.some.inj y;exact absurd (MB e) (by rw[<-y];exact Mm _)
  exact nb y
 refine⟨a,C,T,H,rfl,I.os,I.bare,⟨λb o e n nf nx=>?_,λb o e n nf nx=>?_,λb o e n nx=>B.free b o e n nx,λb o e nx=>?_,B.tups,B.gq,B.gU⟩,?_,O,hN0 T hT,hN T hT,na,ha,q⟩;{exact k b o (old b o e).1 (old b o e).2 (notloc b o e nf) (B.keep b o e n nf nx)};{obtain⟨sl1,e1⟩:=B.slot b o e n nf nx;obtain⟨sl2,e2⟩:=sl b _ (old b o e).1 (old b o e).2 e1;exact⟨sl2,e2⟩};{obtain⟨o1,e1⟩:=B.there b o e nx;obtain⟨sl2,e2⟩:=sl b _ (old b o e).1 (old b o e).2 e1;exact⟨_,e2⟩};exact vW I.hok ha hN (I.j6) (λb o b1 b2 b3 e=>k b o b1 b2 b3 e) O.zF
def GW{a C t0:Addr}(I:Inv (fK (dP P w) P w K mg base N qual scope f cd A outer s0 H0 E) pins U H s)(ha:H a=some (.ext (dI a C none)))(he:s.heap.get? a=some ⟨.ref C,none,.fields #[.ref t0,.none,v2,v3,v4,v5],sl0⟩)(na:s0.heap.get? a=none)(q:E (.ref C) (some a) H):(fK (dP P w) P w K mg base N qual scope f cd A outer s0 H0 E).xe (.ref a) s:=by
 refine leave_new (base:=base) (L:=s0.heap.objs.size) I.ok.frames I.stack rfl he λh' T nT W O=>?_;have nT0:s0.heap.get? T=none:=by
  cases c:s0.heap.get? T with
  |none=>rfl
  |some o=>obtain⟨o1,e1⟩:=I.base.there T o c (by show T∉([]:QS);simp);rw[e1]at nT;cases nT
 exact wu (Nw:=λb=>b=T) I ha na (λb z=>by rw[z];exact I.gb nT) (λb z=>by rw[z];exact nT0) rfl (λb o b1 b2 b3 e=>W.keep b o b1 b2 b3 e) (λb o b1 b2 e=>W.slot b o b1 b2 e) O q
def bF:Passes (dP P w) (fK (dP P w) P w K mg base N qual scope f cd A outer s0 H0 E) E:=by
 intro pins U H s e s' I h;obtain⟨a,C,T,H',rfl,os,bare,un,hok,O,nT,hT,na,ha,q⟩:=h;have I':=I.sU (s':=s') (ch:=[]) os un hok bare λb z=>absurd z (by simp);have up:∀b,s.heap.get? b=none->s0.heap.get? b=none:=λb n=>by
  cases c:s0.heap.get? b with
  |none=>rfl
  |some o=>obtain⟨o1,e1⟩:=I.base.there b o c (by show b∉([]:QS);simp);rw[e1]at n;cases n
 refine Cc (base:=base) (L:=s0.heap.objs.size) I'.ok.frames I'.stack rfl O λh' T2 n2 k sl O2=>?_;have nT2:s0.heap.get? T2=none:=by
  cases c:s0.heap.get? T2 with
  |none=>rfl
  |some o=>obtain⟨o1,e1⟩:=I'.base.there T2 o c (by show T2∉([]:QS);simp);rw[e1]at n2;cases n2
 refine wu (Nw:=λb=>b=T\/b=T2) I' ha (up a na) (λb z=>?_) (λb z=>?_) (.inr rfl) (λb o b1 b2 b3 e=>k b o b1 (λz=>b2 (.inl z)) (λz=>b2 (.inr z)) b3 e) (λb o b1 b2 e=>sl b o b1 (λz=>b2 (.inl z)) (λz=>b2 (.inr z)) e) O2 q;{rcases z with rfl|rfl;{exact hT};exact I'.gb n2};rcases z with rfl|rfl;{exact up _ nT};exact nT2
end
section
variable{P:Program}{w:World}{K:Frag}{mg:QE}{base:Heap}{N:QY}{qual:Str}{scope:Scope}{f:Addr}{cd:Value}{A:Around}{outer:List Env}{s0:Shared}{H0:Hp}{E:XK}
def F8(C:Addr)(E:XK)(t:TA):TS:=λ_ U H=>t U H λvs H1=>vs.length<=sizeLine/\∀a,H1 a=none->E (.ref C) (some a) (upd H1 a (.ext (dI a C none)))
def Ci{C:Addr}(hc:iw K C lY "ValueError.__new__" none=true)(hg:Gl (fK (dP P w) P w K mg base N qual scope f cd A outer s0 H0 E) x)(hm:mg x=some (.ref C))(ha:PA (fK (dP P w) P w K mg base N qual scope f cd A outer s0 H0 E) (e::es) t)(hdb:(x==("__debug__":Str))=false:=by decide)(he:starEach (e::es) (envOfC qual scope s0.heap.objs.size f cd)=(false,eval e (envOfC qual scope s0.heap.objs.size f cd))::starEach es (envOfC qual scope s0.heap.objs.size f cd):=by rfl)(hpl:(backTo cpos (starEach es (envOfC qual scope s0.heap.objs.size f cd))).any (·.1)=false:=by rfl) : PS (fK (dP P w) P w K mg base N qual scope f cd A outer s0 H0 E) (.Raise (some (.Call (.Name x np) (e::es) [] cpos)) none pos) (F8 C E t):=by
 intro pins s U H D I h;obtain⟨bm,N0,nm,qn,bs,hd,sn,sub,ab,col,dd,k0,k1,k2,k3,k5,mN,hC,hN,hni,T⟩:=(Fj I.ok.mod.zw hc).obj;refine wpAny_Raise_call_subT (C:=C) (nm:=nm) (q:=qn) (N:=N0) (bs:=bs) (bm:=bm) (hdct:=hd) (sn:=sn) (sub:=sub) (ab:=ab) (col:=col) (dd:=dd) (k0:=k0) (k1:=k1) (k2:=k2) (k3:=k3) (k5:=k5)
  PySem.F.excBase_ValueError (mN:=mN) (T.hasType (by decide)) (I.ok.hd rfl) (by show(backTo cpos (starEach (e::es) (envOfC qual scope s0.heap.objs.size f cd))).any (·.1)=false;rw[he];show(false||(backTo cpos (starEach es (envOfC qual scope s0.heap.objs.size f cd))).any (·.1))=false;rw[hpl];rfl) hni (jZ I hg hm ⟨rfl,?_⟩ hdb)
 have go:=ha cpos pins s U H _ I h;show wpAny (model P w) _ (evalArgs (.ref C) true (backTo cpos (starEach (e::es) (envOfC qual scope s0.heap.objs.size f cd))) []) _ _ _;have go':wpAny (model P w) _ (spliced (backTo cpos (starEach (e::es) (envOfC qual scope s0.heap.objs.size f cd)))) _ _ _:=go;rw[he]at go'⊢;refine Calls.evalArgs_plain (aG go' λus s1 ⟨vs,H1,I1,r,hz,q⟩=>?_);have kp:∀b o,base.get? b=some o->s1.heap.get? b=some o:=I1.bk;refine⟨rfl,by rw[<-r.length];exact hz,kp _ _ hC,hN.keeps kp,T.keeps kp,λh' a M=>?_⟩;obtain⟨hp,g,dr,tk,os⟩:=s1;obtain⟨keeps,new,t0,hx,_,_⟩:=M;have I2:=I1.sR (a:=a) (o:=.ext (dI a C none)) (t':=tk) keeps new (zN ⟨_,_,_,_,_,_,_,hx⟩);have na:s0.heap.get? a=none:=by
  cases c:s0.heap.get? a with
  |none=>rfl
  |some o=>obtain⟨o1,e1⟩:=I1.base.there a o c (by show a∉([]:QS);simp);rw[e1]at new;cases new
 exact GW I2 (aB) hx na (q a (I1.gb new))
end
section
variable{M:Model}{A:Around}{E:QC}{s:Shared}
def DV{L e C T:Addr}(hfr:A.frames=some (env::outer))(hl:s.heap.FunFrames base (env::outer))(hf:env.frame=some L)(ho:gh s.heap e C T dd)(q:∀h' T2,s.heap.get? T2=none->(∀b o,b≠e->b≠T->b≠T2->b∉frs (env::outer)->s.heap.get? b=some o->h'.get? b=some o)->(∀b o,b≠e->b≠T->b≠T2->s.heap.get? b=some o->∃sl,h'.get? b=some { o with slots:=sl })->gh h' e C T2 dd->Q () { s with heap:=h' }):wpAny M A (noteFrame (.ref e) env) (λ_ s'=>wpAny M A (setFlight (.ref e) none) Q E s') E s:=by
 obtain⟨t0,v2,v3,v4,v5,sl0,oT,ts,he,hTe,hT,hdT,h3⟩:=ho;unfold noteFrame;simp only[hf];refine M1 (NP he rfl (x:=.ref T) rfl ?_);rw[if_pos (show(Value.ref T != Value.none)=true by simp)];refine M1 (NP hT hdT h3 ?_);rw[if_neg (show ¬((Value.none==rawInt L)=true)by simp[rawInt])];refine M1 (Ox hT hdT (NR.mp h3).1 ?_);have other:∀b,b≠T->(s.heap.update T (Obj.mapFields (·.setIfInBounds 3 Value.none))).get? b=s.heap.get? b:=λb hb=>Mw _ _ (Ne.symm hb);have noRec:∀b o,s.heap.get? b=some o->(∀vs,o.data≠.fields vs)->b≠T:=λb o hb hnf z=>by rw[z,hT]at hb;cases hb;exact hnf ts hdT
 refine lU (s:={ s with heap:=s.heap.update T (Obj.mapFields (·.setIfInBounds 3 Value.none)) }) (T0:=T) hfr (hl.of_keeps λb o hb hnf=>⟨o,(other b (noRec b o hb hnf)).trans hb,rfl⟩) hf ((other e (Ne.symm hTe)).trans he) λh' T2 n2 W O=>?_;have n2':s.heap.get? T2=none:=by
  cases c:s.heap.get? T2 with
  |none=>rfl
  |some o=>exfalso;by_cases z:T2=T;{subst z;rw[OS _ hT (Pk (Pj hdT _))]at n2;cases n2};rw[show({ s with heap:=s.heap.update T (Obj.mapFields (·.setIfInBounds 3 Value.none)) }:Shared).heap.get? T2=s.heap.get? T2 from other T2 z,c]at n2;cases n2
 exact q h' T2 n2' (λb o b1 b2 b3 b4 hb=>W.keep b o b1 b3 b4 ((other b b2).trans hb)) (λb o b1 b2 b3 hb=>W.slot b o b1 b3 ((other b b2).trans hb)) O
end
section
variable{X:Cx}{pins:QF}{U:St}{H:Hp}{s:Shared}
structure Co(X:Cx)(pins:QF)(H:Hp)(b:Addr):Prop where
 new:X.s₀.heap.get? b=none
 free:H b=none
 loc:b≠X.env.locals
 cell:∀x c,X.env.cells.lookup x=some c->c≠b
 pin:∀p∈X.pn++pins,p.1≠b
def Inv.BA(I:Inv X pins U H s)(hx:X.ex=[]){b:Addr}(n:s.heap.get? b=none):Co X pins H b:=by
 refine⟨?_,I.gb n,λz=>?_,λx c e z=>?_,λp hp z=>?_⟩
 .cases c:X.s₀.heap.get? b with
  |none=>rfl
  |some o=>obtain⟨o1,e1⟩:=I.base.there b o c (by rw[hx];simp);rw[e1]at n;cases n
 .obtain⟨m,⟨o,_,_,ho,_⟩,_⟩:=I.loc;rw[<-z,n]at ho;cases ho
 .obtain⟨v,o,ho,_⟩:=I.cell x c e;rw[z,n]at ho;cases ho
 have:=(I.pin p hp).1;rw[z,n]at this;cases this
def Inv.way{a C:Addr}{h':Heap}{Nw:Addr->Prop}(I:Inv X pins U H s)(ha:H a=some (.ext (dI a C none)))(na:X.s₀.heap.get? a=none)(hN:∀b,Nw b->Co X pins H b)(k:∀b o,b≠a->¬Nw b->b∉frs X.stack->s.heap.get? b=some o->h'.get? b=some o)(sl:∀b o,b≠a->¬Nw b->s.heap.get? b=some o->∃sl,h'.get? b=some { o with slots:=sl })(x:dI a C none h'):Inv X pins U H { s with heap:=h' }:=by
 have B:=I.base;have old:∀b o,X.s₀.heap.get? b=some o->b≠a/\¬Nw b:=λb o e=>⟨(λz=>by rw[z,na]at e;cases e),λz=>by rw[(hN b z).new]at e;cases e⟩;have fre:∀b,H b=none->b≠a:=λb n z=>by rw[z,ha]at n;cases n
 have notst:∀b,b≠X.env.locals->b∉X.fs->b∉frs X.stack:=λb n1 n2 z=>by rcases MH.mp (I.gw b z)with y|y;{exact n1 y};exact n2 y
 have cells:∀y c v,X.env.cells.lookup y=some c->s.heap.IsCell c v->h'.IsCell c v:=λy c v e z=>by obtain⟨o,ho,hd⟩:=z;obtain⟨sl1,e1⟩:=sl c o (fre c (I.cL y c e)) (λz=>(hN c z).cell y c e rfl) ho;exact⟨_,e1,hd⟩
 refine⟨I.ok,I.os,I.bare,⟨λb o e n nf nx=>?_,λb o e n nf nx=>?_,λb o e n nx=>B.free b o e n nx,λb o e nx=>?_,B.tups,B.gq,B.gU⟩,?_,λy c e=>?_,I.free,I.cL,λp hp=>?_,?_,I.len⟩;{refine k b o (old b o e).1 (old b o e).2 (notst b (λz=>?_) nf) (B.keep b o e n nf nx);exact absurd (MN (MB e) I.ok.above) (by rw[z];exact Mm _)};{obtain⟨sl1,e1⟩:=B.slot b o e n nf nx;obtain⟨sl2,e2⟩:=sl b _ (old b o e).1 (old b o e).2 e1;exact⟨sl2,e2⟩};{obtain⟨o1,e1⟩:=B.there b o e nx;obtain⟨sl2,e2⟩:=sl b _ (old b o e).1 (old b o e).2 e1;exact⟨_,e2⟩};{obtain⟨m,⟨o,es,ep,ho,hd,hs,hf⟩,hl⟩:=I.loc;obtain⟨sl1,e1⟩:=sl X.env.locals o (fre _ I.free) (λz=>(hN _ z).loc rfl) ho;refine⟨m,⟨_,es,ep,e1,hd,hs,hf⟩,λi y v h1 h2 h3=>?_⟩;obtain⟨u,r,q⟩:=hl i y v h1 h2 h3;refine⟨u,r,?_⟩;rcases q with q|⟨kk,c,e,z⟩;{exact .inl q};exact .inr ⟨kk,c,e,cells y c _ e z⟩};{obtain⟨v,z⟩:=I.cell y c e;exact⟨v,cells y c v e z⟩};{obtain⟨e,n,ne,nf,d⟩:=I.pin p hp;exact⟨k p.1 p.2 (fre _ n) (λz=>(hN _ z).pin p hp rfl) (notst _ ne nf) e,n,ne,nf,d⟩};exact vW I.hok ha (λb z=>(hN b z).free) I.j6 (λb o b1 b2 b3 e=>k b o b1 b2 b3 e) x
end
abbrev HD:=St->Addr->Addr->Hp->Prop
def fH(X:Cx)(pins:QF)(Hd:HD):Cx:={ X with pn:=X.pn++pins,xe:=λe s'=>∃a C T U H,e=.ref a/\Inv X pins U H s'/\gh s'.heap a C T none/\Co X pins H T/\X.s₀.heap.get? a=none/\H a=some (.ext (dI a C none))/\Hd U C a H }
section
variable{X:Cx}{pins:QF}{U:St}{H:Hp}{s:Shared}{Hd:HD}
def Inv.Jb(I:Inv X pins U H s):Inv (fH X pins Hd) [] U H s:=
 ⟨⟨I.ok.mod,I.ok.kind,I.ok.glob,I.ok.blt,I.ok.above,I.ok.inj,I.ok.has,I.ok.rD,I.ok.hd,I.ok.frames,I.ok.stk,I.ok.zK,I.ok.bs,I.ok.mw,I.ok.lC,I.ok.nV,I.ok.gf,I.ok.p7⟩,I.os,I.bare,I.base,I.loc,I.cell,I.free,I.cL,
  λp hp=>I.pin p (by simpa[fH]using hp),I.hok,I.len⟩
def Inv.pQ(I:Inv (fH X pins Hd) ps2 U H s):Inv X pins U H s:=
 ⟨⟨I.ok.mod,I.ok.kind,I.ok.glob,I.ok.blt,I.ok.above,I.ok.inj,I.ok.has,I.ok.rD,I.ok.hd,I.ok.frames,I.ok.stk,I.ok.zK,I.ok.bs,I.ok.mw,I.ok.lC,I.ok.nV,I.ok.gf,I.ok.p7⟩,I.os,I.bare,I.base,I.loc,I.cell,I.free,I.cL,
  λp hp=>I.pin p (MF.mpr (.inl hp)),I.hok,I.len⟩
def JJ(hx:X.ex=[])(I:Inv (fH X pins Hd) ps2 U H s)(h:dP X.prog X.w X.stack H s (λc o H'=>∃C a,c=.ref C/\o=some a/\Hd U C a H') e s'):(fH X pins Hd).xe e s':=by obtain⟨a,C,T,H',rfl,os,bare,un,hok,O,nT,hT,na,ha,C',a',ec,eo,q⟩:=h;cases ec;cases eo;have J:=I.pQ;have J':=J.sU (s':=s') (ch:=[]) os un hok bare λb z=>absurd z (by simp);have mT:=J.BA hx nT;exact⟨a,C,T,U,H',rfl,J',O,⟨mT.new,hT,mT.loc,mT.cell,mT.pin⟩,(J.BA hx na).new,ha,q⟩
end
def wZ(X:Cx)(a:Addr):Cx:={ X with A:=X.A.mark (some (.ref a)),calm:=false,xe:=λ_ _=>False }
section
variable{X:Cx}{pins:QF}{U:St}{H:Hp}{s:Shared}{a:Addr}
def Inv.Iz(I:Inv X pins U H s):Inv (wZ X a) pins U H s:=
 ⟨⟨I.ok.mod,I.ok.kind,I.ok.glob,I.ok.blt,I.ok.above,I.ok.inj,I.ok.has,I.ok.rD,λz=>(by cases z),I.ok.frames,I.ok.stk,I.ok.zK,I.ok.bs,I.ok.mw,I.ok.lC,I.ok.nV,I.ok.gf,I.ok.p7⟩,I.os,I.bare,I.base,I.loc,I.cell,I.free,I.cL,I.pin,I.hok,I.len⟩
def Inv.yj(ok:X.Ok)(I:Inv (wZ X a) pins U H s):Inv X pins U H s:=
 ⟨ok,I.os,I.bare,I.base,I.loc,I.cell,I.free,I.cL,I.pin,I.hok,I.len⟩
def mW{i:Nat}(I:Inv X pins U H s)(hN:X.N.Nodup)(hi:X.N[i]?=some n)(hk:X.env.scope.names.lookup n=some .local)
  (h:∀s',Inv X pins (U.set i none) H s'->Q () s'):wpAny M A (do bindName X.env n .none;unbindBehindTheSuite X.env n pos) Q E s:=by
 have hcls:(X.env.scope.kind == .class||(X.env.scope.kind == .module&&X.env.locals != X.env.globals))=false:=by rw[I.ok.kind];rfl
 have hl:X.env.kindOf n=some .local:=hk;refine M1 (wpAny_bindName (jr (v:=.aN) I hN hi (.inl hk) rfl (λs1 I1=>?_) (.inr hk)))
 obtain⟨m,hn,hlk⟩:=id I1.loc;have hiσ:i<U.length:=by rw[I.len];exact(N2.mp hi).1
 unfold unbindBehindTheSuite;refine wpAny_onRaise ?_;obtain⟨u,ru,lu⟩:=hlk i n .aN hi (by rw[Ng hiσ]) (.inl hk)
 have hv:m n=some u:=by rcases lu with⟨_,e⟩|⟨z|z,_⟩;{exact e};{rw[hl]at z;cases z};rw[hl]at z;cases z
 refine wpAny_unbindName_local hl hn hv hcls λh' u' hn' hs=>h _ ?_
 obtain⟨oL,_,_,hoL,_⟩:=id hn;refine⟨I1.ok,I1.os,I1.bare,⟨λb o e n hb hx=>?_,λb o e n hb hx=>?_,I1.base.free,λb o e hx=>?_,I1.base.tups,I1.base.gq,I1.base.gU⟩,⟨_,hn',λj y v' e1 e2 e3=>?_⟩,λy c e=>?_,I1.free,I1.cL,λp hp=>?_,?_,by simpa using I.len⟩
 .exact(hs.2 b (MO (MN (MB e) I1.ok.above))).trans (I1.base.keep b o e n hb hx)
 .obtain⟨sl,e1⟩:=I1.base.slot b o e n hb hx;exact⟨sl,(hs.2 b (MO (MN (MB e) I1.ok.above))).trans e1⟩
 .obtain⟨o',e1⟩:=I1.base.there b o e hx;exact⟨o',(hs.2 b (MO (MN (MB e) I1.ok.above))).trans e1⟩
 .by_cases hj:j=i
  .subst hj;rw[Ng hiσ]at e2;cases e2
  .rw[Nh (Ne.symm hj)]at e2;obtain⟨u',r',q⟩:=hlk j y v' e1 (by rw[Nh (Ne.symm hj)];exact e2) e3
   refine⟨u',r',?_⟩;rcases q with⟨k,e⟩|⟨k,c,e,z⟩
   .refine .inl ⟨k,?_⟩;have:y≠n:=λe=>hj (oG hN e1 (e▸hi))
    simp[this,e]
   .exact .inr ⟨k,c,e,z.sameBut hs (I1.qv y c e)⟩
 .obtain⟨w',z⟩:=I1.cell y c e;exact⟨w',z.sameBut hs (I1.qv y c e)⟩
 .obtain⟨e,n,ne,nf,d⟩:=I1.pin p hp;exact⟨(hs.2 p.1 ne).trans e,n,ne,nf,d⟩
 .intro b ob e;refine(I1.hok b ob e).stay (λc w' hc q=>(hs.2 c ?_).trans q) (λ_ q=>q) λ_ _ q=>q
  rintro rfl;rcases hc with hc|hc
  .rw[<-hc,I1.free]at e;cases e
  .rw[I1.free]at hc;cases hc
end
def gone(i:Nat)(D:Ends):Ends:=⟨λU H=>D.nx (U.set i none) H,D.rt,λU H=>D.bk (U.set i none) H,λU H=>D.ct (U.set i none) H⟩
def K1(K:Frag)(B:Addr) (i:Nat)(tb:QF->HD->TS)(th:Addr->TS):TS:=λD U H=>∀pins,tb pins (λσ1 C a H1=>exmOne K (.ref C) (.ref B)=some true/\th a (gone i D) (σ1.set i (some (.ref a))) H1) D U H
section
variable{X:Cx}{x n:Str}{np hpos pos:Pos}{B:Addr}{i:Nat}{body suite:QV}{b₀:Stmt}{tb:QF->HD->TS}{th:Addr->TS}
def HY(hx:X.ex=[])(hst:X.stack=X.env::X.outer)(hfr:X.env.frame=some X.env.locals)(hg:Gl X x)(hm:X.mg x=some (.ref B))(hN:X.N.Nodup)(hi:X.N[i]?=some n)(hk:X.env.scope.names.lookup n=some .local)(hb:∀pins Hd,jA (fH X pins Hd) body (tb pins Hd))(hh:∀a,jA (wZ X a) (b₀::suite) (th a))(hdb:(x==("__debug__":Str))=false:=by decide) : PS X (.Try body [.ExceptHandler (some (.Name x np)) (some n) (b₀::suite) hpos] [] [] pos) (K1 X.K B i tb th):=by
 intro pins s U H D I h;refine wpAny_Try_except (Me (hb pins _ [] s U H D I.Jb (h pins)) (λf s1 h1=>?_) λe s1 h1=>?_)
 .cases f with
  |next=>obtain⟨σ',H',J,q⟩:=h1;exact OM ⟨σ',H',J.pQ,q⟩
  |brk=>obtain⟨σ',H',J,q⟩:=h1;exact⟨σ',H',J.pQ,q⟩
  |cont=>obtain⟨σ',H',J,q⟩:=h1;exact⟨σ',H',J.pQ,q⟩
  |ret u=>obtain⟨v,σ',H',J,r,q⟩:=h1;exact⟨v,σ',H',J.pQ,r,q⟩
 obtain⟨a,C,T,σ1,H1,rfl,J,O,mT,na,ha,hxm,q⟩:=h1;refine DV (base:=X.base) (L:=X.env.locals) (by rw[<-hst];exact J.ok.frames) (by rw[<-hst];exact J.stack) hfr O λh' T2 n2 k sl O2=>?_;have m2:=J.BA hx n2;have J2:Inv X pins σ1 H1 { s1 with heap:=h' }:=J.way (Nw:=λb=>b=T\/b=T2) ha na (λb z=>by rcases z with rfl|rfl;exact mT;exact m2)
  (λb o b1 b2 b3 e=>k b o b1 (λz=>b2 (.inl z)) (λz=>b2 (.inr z)) (by rw[<-hst];exact b3) e) (λb o b1 b2 e=>sl b o b1 (λz=>b2 (.inl z)) (λz=>b2 (.inr z)) e) O2.zF
 refine wpAny_handleBy_cons (codeAny_handlers_test ?_) (by intro z;cases z);refine jZ (X:=wZ X a) J2.Iz hg hm ?_ hdb;obtain⟨t0,v2,v3,v4,v5,sl0,oT,ts,he,hTe,hT,hdT,h3⟩:=id O2;have L:Looks (model X.prog X.w) h' (excMatches (.ref a) (.ref B)) true:=exm_one J2.dH ((Looks.ld he).andThen .now) hxm;refine L.here ?_;show codeAny _ _ _ _ _;refine codeAny_handlers_suite_as ?_;refine wpAny_setFlight_none he rfl (tb:=T2) rfl hT hdT (NR.mp h3).1 ?_;have hup:∀b,b≠T2->(h'.update T2 (Obj.mapFields (·.setIfInBounds 3 Value.none))).get? b=h'.get? b:=λb z=>Mw _ _ (Ne.symm z);have J3:Inv X pins σ1 H1 { s1 with heap:=h'.update T2 (Obj.mapFields (·.setIfInBounds 3 Value.none)) }:=J2.way (s:={ s1 with heap:=h' }) (Nw:=λb=>b=T2) ha na (λb z=>by rw[z];exact m2)
  (λb o b1 b2 b3 e=>(hup b b2).trans e) (λb o b1 b2 e=>⟨o.slots,(hup b b2).trans e⟩) ⟨t0,_,v2,v3,v4,v5,sl0,(hup a (Ne.symm hTe)).trans he⟩
 refine jr (X:=wZ X a) (v:=.ref a) J3.Iz hN hi (.inl hk) rfl (λs4 J4=>?_) (.inr hk);refine Me (hh a pins s4 _ H1 (gone i D) J4 q) (λf s5 h5=>?_) λ_ _ z=>z.elim;cases f with
 |next=>obtain⟨σ',H',J5,q5⟩:=h5;exact mW (J5.yj I.ok) hN hi hk λs6 J6=>⟨_,H',J6,q5⟩
 |brk=>obtain⟨σ',H',J5,q5⟩:=h5;exact mW (J5.yj I.ok) hN hi hk λs6 J6=>⟨_,H',J6,q5⟩
 |cont=>obtain⟨σ',H',J5,q5⟩:=h5;exact mW (J5.yj I.ok) hN hi hk λs6 J6=>⟨_,H',J6,q5⟩
 |ret u=>obtain⟨v,σ',H',J5,r5,q5⟩:=h5;exact mW (J5.yj I.ok) hN hi hk λs6 J6=>⟨v,_,H',J6,r5,q5⟩
end
section
variable{X0:Cx}{pins0:QF}{Hd:HD}{k:Nat}{f:Addr}{fd:FuncData}{ps:QY}{sp:Sp}{dvs:List V}{ds:QO}{x:Str}{p pos:Pos}{e:Expr}{es:QU}{t:TA}
def yK(sp:Sp)(dvs:List V)(Hd:HD)(t:TA):TE:=λU H Q=>t U H λvs H1=>sp (vs++dvs) H1 Q (λc o H'=>∃C a,c=.ref C/\o=some a/\Hd U C a H')
def A8(hex:X0.ex=[])(F:eT X0.prog X0.w X0.K X0.mg X0.base (dP X0.prog X0.w) k f fd ps sp)(hr:b8 k X0.A)(hg:Gl X0 x)(hm:X0.mg x=some (.ref f))(hk:PySem.W.keepIn X0.K (.ref f)=true)(hb:Binds X0.K fd ps ds)(hd:Vals dvs ds)(ha:PA (fH X0 pins0 Hd) (e::es) t)(hdb:(x==("__debug__":Str))=false:=by decide)(he:starEach (e::es) X0.env=(false,eval e X0.env)::starEach es X0.env:=by rfl)(hpl:(backTo pos (starEach es X0.env)).any (·.1)=false:=by rfl) : PE (fH X0 pins0 Hd) (.Call (.Name x p) (e::es) [] pos) (yK sp dvs Hd t):=by
 intro pins s U H Q I h;refine Ol (jZ I hg hm ?_ hdb);refine PySem.W.callWith_K (h₀:=X0.base) I.ok.mod.zw hk (aG (ha pos pins s U H _ I h) λus s1 ⟨vs,H1,I1,r,q⟩=>⟨I1.dH,?_⟩) he hpl;have r2:Vals (vs++dvs) (us++ds):=r.append hd;have hl:(us++ds).length=ps.length:=by rw[<-r2.length];exact F.len _ _ _ _ q
 refine wpAny_call (OO (F.run X0.A X0.stack s1 H1 ⟨us,[]⟩ (us++ds) (vs++dvs) Q _ hr I1.GC (hb s1 us I1.dH hl) r2 q) λr s' hq=>?_);cases r with
 |error e=>exact JJ hex I1 hq
 |ok fl=>
  cases fl with
  |ret u=>exact I1.after hq
  |next=>exact False.elim hq
  |brk=>exact False.elim hq
  |cont=>exact False.elim hq
end
section
variable{P:Program}{w:World}{K:QJ}{mg:QE}{base:Heap}
def qg.Lv{x qual:Str}{st:Stmt}{f:Addr}{fd:FuncData}{N ps:QY}{k:Nat}{sp:Sp}(F:qg K x qual st f fd)(S:bA N ps (aA st))(len:∀vs H Q E,sp vs H Q E->vs.length=ps.length)(hbody:∀(cdv:Value)(A:Around)(outer:List Env)(s:Shared)(H:Hp)(vs:List V)(Q:VK)(E:XK),b8 k (A.deeper (envOfC qual (aA st) s.heap.objs.size f cdv))->sp vs H Q E-> ∃t,jA (fK (dP P w) P w K mg base N qual (aA st) f cdv A outer s H E) (fZ st) t/\t { nx:=λ_ H'=>Q .aN H',rt:=Q } (start N vs) H):eT P w K mg base (dP P w) (k+1) f fd ps sp:=by obtain⟨oc,od,kV,doc,pm,an,cdv,ct,osl,rfl,lk,hcd⟩:=F.ex;refine Jd lk hcd S len λA outer s H vs Q E hr hsp=>?_;obtain⟨t,h,q⟩:=hbody cdv A outer s H vs Q E hr hsp;exact⟨t,h,q⟩
def cO(P:Program)(w:World)(K:QJ)(mg:QE)(base:Heap) (k:Nat) (x:Str)(ps:QY)(sp:Sp):Prop:=
 ∃f fd,mg x=some (.ref f)/\PySem.W.keepIn K (.ref f)=true/\Binds K fd ps []/\eT P w K mg base (dP P w) k f fd ps sp
end
def Ea{k:Nat}(hex:X0.ex=[])(h:cO X0.prog X0.w X0.K X0.mg X0.base k x ps sp)(hr:b8 k X0.A)(hg:Gl X0 x)(ha:PA (fH X0 pins0 Hd) (e::es) t)(hdb:(x==("__debug__":Str))=false:=by decide)(he:starEach (e::es) X0.env=(false,eval e X0.env)::starEach es X0.env:=by rfl)(hpl:(backTo pos (starEach es X0.env)).any (·.1)=false:=by rfl) : PE (fH X0 pins0 Hd) (.Call (.Name x p) (e::es) [] pos) (yK sp [] Hd t):=by obtain⟨f,fd,h1,h2,h3,h4⟩:=h;exact A8 hex h4 hr hg h1 h2 h3 .nil ha hdb he hpl
end L2
namespace Dv
open PySem L2 PySem.W
def WE(X:Cx)(e:Expr):TE:=λU H Q=>∀(pins:QF)(s:Shared),Inv X pins U H s->wpAny (model X.prog X.w) X.A (eval e X.env) (EP X pins U Q) X.xe s
def bz:PE X e (WE X e):=λpins s _ _ _ I h=>h pins s I
def WE.of(h:PE X e t)(q:t U H Q):WE X e U H Q:=λpins s I=>h pins s U H Q I q
def WT(X:Cx)(e:Expr):TT:=λU H Q=>∀(pins:QF)(s:Shared),Inv X pins U H s->wpAny (model X.prog X.w) X.A (isTrue e X.env (eval e X.env)) (TP X pins U Q) X.xe s
def g8:PT X e (WT X e):=λpins s _ _ _ I h=>h pins s I
def WT.of(h:PT X e t)(q:t U H Q):WT X e U H Q:=λpins s I=>h pins s U H Q I q
def rV(X:Cx):QU->TA
 |[],_,H,Q=>Q [] H
 |e::es,U,H,Q=>WE X e U H λv H1=>rV X es U H1 λvs H2=>Q (v::vs) H2
def sel(Y:QW)(U:St):St:=Y.map λi=>(U[i]?).join
def b6{j i:Nat}(h:Y[j]?=some i)(e:U[i]?=some (some v)):(sel Y U)[j]?=some (some v):=by unfold sel;rw[MQ,h];show some (U[i]?).join=_;rw[e];rfl
def XL(X:Cx)(Ex:XK)(x:XC)(g:Gh):Prop:=∀(c:Str)(d:PyData)(C a:Addr)(H':Hp),X.mg c=some (.ref C)->x c d->(∀p o,p∉g.M->g.H0 p=some o->H' p=some o)->H' a=some (.ext (dI a C none))->g.H0 a=none->Ex (.ref C) (some a) H'
def XL.no:XL X Ex xF g:=λ_ _ _ _ _ _ z=>z.elim
def SE(X:Cx)(Ex:XK)(Y:QW)(e:Expr)(d:DE):Prop:=
 ∀(g:Gh)(x:XC)(E:En)(U:St)(H Hm:Hp)(F:Nat->QS)(P:QZ)(Q:VK),XL X Ex x g->Rl X.K g E U H Hm F->d x E P->
  (∀E' k v u H' Hm' F' fp,P E' k v->Rl X.K g E' U H' Hm' F'->af Hm Hm'->Tm X.K g F' H' Hm' k u v fp->Q u H')->WE X e (sel Y U) H Q
def ST(X:Cx)(Ex:XK)(Y:QW)(e:Expr)(d:DT):Prop:=
 ∀(g:Gh)(x:XC)(E:En)(U:St)(H Hm:Hp)(F:Nat->QS)(P:Qg)(Q:Bool->Hp->Prop),XL X Ex x g->Rl X.K g E U H Hm F->d x E P->
  (∀E' b H' Hm' F',P E' b->Rl X.K g E' U H' Hm' F'->af Hm Hm'->Q b H')->WT X e (sel Y U) H Q
inductive aH(X:Cx)(Ex:XK)(Y:QW):QU->List Arg->Prop
 |nil:aH X Ex Y [] []
 |pk {e:Expr}{es:QU}{as:List Arg}{i j:Nat}:PE X e (kW j)->Y[j]?=some i->aH X Ex Y es as->aH X Ex Y (e::es) (.pk i::as)
 |ev {e:Expr}{es:QU}{as:List Arg}{d:DE}:SE X Ex Y e d->aH X Ex Y es as->aH X Ex Y (e::es) (.ev d::as)
inductive Got(K:Frag)(U:St)(Hm:Hp):List Arg->List (Option PyData)->List V->Prop
 |nil:Got K U Hm [] [] []
 |pk {i:Nat}{v:V}{as:List Arg}{os:Qa}{vs:List V}:U[i]?=some (some v)->Got K U Hm as os vs->Got K U Hm (.pk i::as) (none::os) (v::vs)
 |ev {e:DE}{v:V}{d:PyData}{as:List Arg}{os:Qa}{vs:List V}:Rp K Hm v d->Got K U Hm as os vs->Got K U Hm (.ev e::as) (some d::os) (v::vs)
def jC{F:Nat->QS}(R:Rl K g E U H Hm F){i:Nat}(h:here E i=true):∃v,U[i]?=some (some v):=by unfold here at h;split at h;{rename_i kd e;obtain⟨v,h1,_⟩:=R.slot i kd.1 kd.2 e;exact⟨v,h1⟩};cases h
section
variable{X:Cx}{Ex:XK}{Y:QW}{g:Gh}{x:XC}{U:St}
def jh(hx:XL X Ex x g)(S:aH X Ex Y es as):∀{E:En}{H Hm:Hp}{F:Nat->QS}{P:En->List (Option PyData)->Prop}{Q:List V->Hp->Prop},Rl X.K g E U H Hm F->gE as x E P->(∀E' os vs H' Hm' F',P E' os->Rl X.K g E' U H' Hm' F'->af Hm Hm'->Got X.K U Hm' as os vs->Q vs H')->rV X es (sel Y U) H Q:=by
 induction S with
 |nil=>exact λR h q=>q _ _ _ _ _ _ h R (af.refl _) .nil
 |@pk e es as i j hp hj _ ih=>intro E H Hm F P Q R h q;replace h:bK (here E i) _:=h;rw[bY]at h;obtain⟨h1,h2⟩:=h;obtain⟨v,hv⟩:=jC R h1;refine WE.of hp ⟨v,b6 hj hv,ih R h2 λE' os vs H' Hm' F' p R' s G=>q _ _ _ _ _ _ p R' s (.pk hv G)⟩
 |@ev e es as d hd _ ih=>intro E H Hm F P Q R h q;refine hd g x E U H Hm F _ _ hx R h λE1 k v u H1 Hm1 F1 fp p R1 s1 T=>?_;replace p:bK k.fz _:=p;rw[bY]at p;obtain⟨hk,p⟩:=p;obtain⟨Hm2,s2,R2,r⟩:=T.d7 R1 hk;exact ih R2 p λE' os vs H' Hm' F' p' R' s' G=>q _ _ _ _ _ _ p' R' (s1.trans (s2.trans s')) (.ev (r.mono s') G)
def mR{F:Nat->QS}(R:Rl K g E U H Hm F)(s:af Hm Hm1):∀{as:List Arg}{os:Qa}{vs:List V}{ds:QM},Got K U Hm as os vs->fill as E os=some ds->(∀i∈eX as,∀a∈F i,Hm1 a=H a)->ak K Hm1 vs ds:=by
 intro as os vs ds G;induction G generalizing ds with
 |nil=>intro h _;cases h;exact .nil
 |@pk i v as os vs hv G ih=>
  intro h n;rw[fill]at h;split at h
  .rename_i k d e;by_cases hk:k.rd=true
   .rw[if_pos hk]at h;cases hf:fill as E os with
    |none=>rw[hf]at h;cases h
    |some es=>rw[hf]at h;cases h;obtain⟨v',h1,h2⟩:=R.slot i k d e;rw[hv]at h1;cases h1;exact .cons (h2.rp hk s (n i M7)) (ih hf λj hj=>n j (MC _ hj))
   rw[if_neg hk]at h;cases h
  cases h
 |@ev d v u as os vs r G ih=>
  intro h n;rw[fill]at h;cases hf:fill as E os with
  |none=>rw[hf]at h;cases h
  |some es=>rw[hf]at h;cases h;exact .cons (r.mono s) (ih hf n)
theorem kH:∀{is:QW}{E E2:En},cS is E=some E2->E2.length=E.length/\∀j,(j∉is->E2[j]?=E[j]?)/\(j∈is->∃k d,E[j]?=some (some (k,d))/\k.fz=true/\E2[j]?=some (some (.sh,d)))
 |[],E,E2,h=>by cases h;exact⟨rfl,λj=>⟨λ_=>rfl,λz=>by cases z⟩⟩
 |i::r,E,E2,h=>by
  have h:(cG E i).bind (cS r)=some E2:=h;cases hf:cG E i with
  |none=>rw[hf]at h;cases h
  |some E1=>
   rw[hf]at h;obtain⟨l1,g1⟩:=kH (is:=r) (E:=E1) (E2:=E2) h;unfold cG at hf;split at hf
   .rename_i k d e;by_cases hk:k.fz=true
    .rw[if_pos hk]at hf;cases hf;have li:i<E.length:=by rcases Mv i E.length with h|h;{exact h};rw[Mk h]at e;cases e
     rw[MY]at l1;refine⟨l1,λj=>⟨λn=>?_,λm=>?_⟩⟩;{have n1:j≠i:=λz=>n (z▸M7);rw[(g1 j).1 λz=>n (MC _ z),ah (Ne.symm n1)]};by_cases c:j=i;{subst c;by_cases m':j∈r;{obtain⟨k2,d2,e2,_,e3⟩:=(g1 j).2 m';rw[ao li]at e2;cases e2;exact⟨k,d,e,hk,e3⟩};exact⟨k,d,e,hk,by rw[(g1 j).1 m',ao li]⟩};have m':j∈r:=(MH.mp m).resolve_left c;obtain⟨k2,d2,e2,h2,e3⟩:=(g1 j).2 m';rw[ah (Ne.symm c)]at e2;exact⟨k2,d2,e2,h2,e3⟩
    rw[if_neg hk]at hf;cases hf
   cases hf
def tZ{F:Nat->QS}(R:Rl K g E U H Hm F)(hE:(if flat k v=true then some E else cS is E)=some E2)(sH:af H H')(s1:af (lend Hm H (is.flatMap F)) Hm2)(s2:af Hm2 H')(old:∀a,H a≠none->OE (Hm2 a) (lend Hm H (is.flatMap F) a))(o:Own K H' Hm2 k u v fp)(fr:∀a∈fp,H a=none/\Hm2 a=none) : ∃Hm' F',Rl K g E2 U H' Hm' F'/\af Hm Hm'/\Tm K g F' H' Hm' k u v fp:=by
 have mem:∀{a i},a∈F i->i∈is->a∈is.flatMap F:=λha hi=>Mj.mpr ⟨_,hi,ha⟩;have off:∀a∈is.flatMap F,Hm a=none:=λa ha=>by obtain⟨i,_,h⟩:=Mj.mp ha;exact R.off i a h
 have up:af Hm (lend Hm H (is.flatMap F)):=gG off;have aX:∀{i a},a∈F i->H a≠none:=λha z=>by obtain⟨u,hu,_⟩:=R.aX _ _ ha;rw[z]at hu;cases hu
 have nfp:∀a∈fp,∀i,a∉F i:=λa ha i=>R.fresh (fr a ha).1;by_cases hf:flat k v=true
 .rw[if_pos hf]at hE;cases hE;refine⟨back Hm2 (is.flatMap F),F,R.grow sH (λb o e=>?_) (tH s2) (λi a ha=>?_) (λa ha=>?_),λb o e=>?_,⟨o.flat (λa xs h=>?_) hf,λa ha=>?_,nfp,λa ha=>R.eK (fr a ha).1⟩⟩;{rw[cg λz=>by rw[off b z]at e;cases e];exact s1 _ _ (up _ _ e)};{by_cases c:a∈is.flatMap F;{exact gJ c};rw[cg c];obtain⟨w,hw,nt⟩:=R.aX i a ha;exact(old a (aX ha)).off (by rw[b9 c];exact R.off i a ha) s2 (sH _ _ hw) nt};{by_cases c:a∈is.flatMap F;{rw[gJ c,off a c];exact .inl rfl};have h:=old a (R.mY ha);rw[b9 c]at h;rw[cg c];exact h};{rw[cg λz=>by rw[off b z]at e;cases e];exact s1 _ _ (up _ _ e)}
  .have c:a∉is.flatMap F:=λz=>by obtain⟨i,_,hi⟩:=Mj.mp z;obtain⟨w,hw,nt⟩:=R.aX i a hi;have e2:Hm2 a=some w:=s1 _ _ (by rw[d8 z];exact hw);rw[e2]at h;cases h;exact nt xs rfl
   rw[cg c];exact h
  by_cases c:a∈is.flatMap F;{exact gJ c};rw[cg c];exact(fr a ha).2
 rw[if_neg hf]at hE;obtain⟨l2,g2⟩:=kH hE;have R':Rl K g E2 U H' Hm2 (λj=>if j∈is then []else F j):={
  len:=l2.trans R.len
  sub:=s2
  slot:=λj k' d' e'=>by
   by_cases c:j∈is
   .obtain⟨k0,d0,e0,hk0,e1⟩:=(g2 j).2 c;rw[e1]at e';cases e';obtain⟨v',h1,h2⟩:=R.slot j k0 _ e0;refine⟨v',h1,?_⟩;rw[if_pos c];exact .sh ((h2.rp (by cases k0<;>first|rfl|cases hk0) up λa ha=>d8 (mem ha c)).mono s1)
   .rw[(g2 j).1 c]at e';obtain⟨v',h1,h2⟩:=R.slot j k' d' e';refine⟨v',h1,?_⟩;rw[if_neg c];refine h2.step (up.trans s1) λa ha=>?_
    obtain⟨w,hw,_⟩:=h2.live a ha;rw[hw];exact sH _ _ hw
  off:=λj a ha=>by
   by_cases c:j∈is
   .rw[if_pos c]at ha;cases ha
   .rw[if_neg c]at ha;obtain⟨w,hw,nt⟩:=R.aX j a ha;refine(old a (aX ha)).off ?_ s2 (sH _ _ hw) nt;rw[b9]
    .exact R.off j a ha
    .intro z;obtain⟨i,hi,h⟩:=Mj.mp z;exact c (R.aM i j a h ha▸hi)
  aX:=λj a ha=>by
   by_cases c:j∈is
   .rw[if_pos c]at ha;cases ha
   .rw[if_neg c]at ha;obtain⟨w,hw,nt⟩:=R.aX j a ha;exact⟨w,sH _ _ hw,nt⟩
  aM:=λj l a h1 h2=>by
   by_cases c:j∈is
   .rw[if_pos c]at h1;cases h1
   .rw[if_neg c]at h1
    by_cases c':l∈is
    .rw[if_pos c']at h2;cases h2
    .rw[if_neg c']at h2;exact R.aM j l a h1 h2
  fr:=λp o hp ho=>sH _ _ (R.fr p o hp ho)
  new:=λj a ha=>by
   by_cases c:j∈is
   .rw[if_pos c]at ha;cases ha
   .rw[if_neg c]at ha;exact R.new j a ha
  pin:=λq hq=>by
   obtain⟨h1,ds',h2⟩:=R.pin q hq;have c:q.1∉is:=λz=>by
    obtain⟨k0,d0,e0,hk0,_⟩:=(g2 q.1).2 z;rw[h2]at e0;cases e0;cases hk0
   exact⟨h1,ds',by rw[(g2 q.1).1 c];exact h2⟩
  old:=λa ha=>by
   refine(old a (R.mY ha)).trans ?_;rw[b9]
   .exact R.old a ha
   .intro z;obtain⟨i,hi,h⟩:=Mj.mp z;obtain⟨k0,d0,e0,hk0,_⟩:=(g2 i).2 hi;exact ha (R.notM e0 (by cases k0<;>first|rfl|(rename_i p;cases p<;>first|rfl|cases hk0)|cases hk0) h) }
 refine⟨Hm2,_,R',up.trans s1,⟨o,λa ha=>(fr a ha).2,λa ha i=>?_,λa ha=>R.eK (fr a ha).1⟩⟩;by_cases c:i∈is;{rw[if_pos c];simp};rw[if_neg c];exact nfp a ha i
def bU(K:Frag)(f:DR)(r:List V->Hp->VK->Prop):Prop:=
 ∀(H Hm:Hp)(vs:List V)(ds:QM)(P:Qd)(Q:VK),af Hm H->ak K Hm vs ds->f ds P->
  (∀k v u H' Hm' fp,P k v->af H H'->af Hm Hm'->af Hm' H'->(∀a,H a≠none->OE (Hm' a) (Hm a))->Own K H' Hm' k u v fp->(∀a∈fp,H a=none/\Hm' a=none)->Q u H')->r vs H Q
def eu(S:aH X Ex Y es as)(hr:∀U H Q,rV X es U H (λvs H1=>r vs H1 Q)->WE X e U H Q)(D:bU X.K f r):SE X Ex Y e (aa f as):=by
 intro g x E U H Hm F P Q hx R h q;refine hr _ _ _ (jh hx S R h λE1 os vs H1 Hm1 F1 p R1 s1 G=>?_);replace p:ve f as E1 os P:=p;unfold ve at p;rw[<-aR,dS]at p;obtain⟨ds,hf,hg⟩:=p;have off:∀a∈(eX as).flatMap F1,Hm1 a=none:=λa ha=>by obtain⟨i,_,h⟩:=Mj.mp ha;exact R1.off i a h
 have up:=gG (Hm:=Hm1) (H:=H1) off;refine D H1 (lend Hm1 H1 ((eX as).flatMap F1)) vs ds _ Q (jw R1.sub) (mR R1 up G hf λi hi a ha=>d8 (Mj.mpr ⟨i,hi,ha⟩)) hg λk v u H' Hm2 fp p sH sM sS old o fr=>?_;replace p:aq (oR as E1 k v) _:=p;rw[<-aR,wg]at p;obtain⟨E2,ha,p⟩:=p;obtain⟨Hm',F',R',s',T⟩:=tZ R1 (is:=eX as) (t9 ha) sH sM sS old o fr;exact q _ _ _ _ _ _ _ _ p R' (s1.trans s') T
end
end Dv
namespace L2
open PySem PySem.Spec PyProof.Rows
section
variable{X:Cx}
def xC(i j:Int):Prop:=0<j/\j<115792089237316195423570985008687907853269984665640564039457584007913129639936
def B0:bw X (binaryOp .FloorDiv) (rI xC λi j=>.int (i/j)):=CA λi j _ _ _ _ _ hc q=>by
 have h1:(0:Int)<j:=hc.1;have h2:j<115792089237316195423570985008687907853269984665640564039457584007913129639936:=hc.2;refine floordiv_int (by lia) (by rw[Int.fdiv_eq_ediv_of_nonneg i (by lia)];exact q) (.inl (PyProof.noPylong_of_log2 ?_));have:j.natAbs.log2<256:=(Nat.log2_lt (by lia)).mpr (by
  have:(2:Nat)^256=115792089237316195423570985008687907853269984665640564039457584007913129639936:=by decide
  lia)
 lia
end
theorem lZ:∀{us:QO}{ns:QX},IntsAre us ns->Vals (ns.map V.int) us
 |_,_,.nil=>.nil
 |_,_,.cons k t r=>.cons ⟨t,rfl⟩ (lZ r)
section
variable{X:Cx}
def sX:bO X (.builtin "sorted") (λxs H Q=>∃(a:Addr)(ns:QX),xs=[.ref a]/\bD X.K H a (ns.map V.int)/\ns.length<64/\∀(ms:QX)(p:Addr),ms.Perm ns->ms.Pairwise (·<=·)->H p=none->Q (.ref p) (upd H p (.lst (ms.map V.int)))):=by
 intro pins s U H xs us Q I r h;obtain⟨a,ns,rfl,hq,hl,q⟩:=h;obtain⟨u,rfl,ru⟩:=r.one;cases ru;obtain⟨its,rv,p,_⟩:=I.list hq;have hlen:its.length=ns.length:=by rw[<-rv.length,M9]
 refine sorted_ints p.isList (intsAre_of rv) (by lia) λout ms h1 h2 h3=>?_;obtain⟨e,he⟩:=sortedAll_at s.heap its out;have new:s.heap.get? (s.heap.objs.size+1)=none:=Oi (Nz _);have rm:=lZ h1;have ml:ms.length=ns.length:=h2.length_eq;have I2:=I.sR (a:=s.heap.objs.size+1) (o:=.lst (ms.map V.int)) (t':=s.toks) (h':=sortedAll s.heap its out) (λb o hb=>sortedAll_old hb) new
  ⟨by rw[M9,ml];exact Nt (MN hl (by decide)),out.toList,e,rm,by simpa using he⟩
 exact⟨.ref (s.heap.objs.size+1),_,I2,rfl,q ms _ h2 h3 (I.gb new)⟩
end
end L2
namespace TS
open PySem PyProof.Rows
def j9:Bool->Keyed->Array Keyed->Nat->Nat->Nat->StateT SortSt Sem (Option Nat):=sortPriv%PySem.Builtin.gallop
def kK:Array Keyed->Array Keyed->StateT SortSt Sem (Array Keyed):=sortPriv%PySem.Builtin.mergeLo
def kM:Array Keyed->Array Keyed->StateT SortSt Sem (Array Keyed):=sortPriv%PySem.Builtin.mergeHi
section
variable{prog:Program}{w:World}{A:Around}{E:QC}{s:Shared}
def gS(prog:Program)(w:World)(A:Around)(s:Shared)(kd:SortKind)(P:Value->Prop):Prop:=∀(E:QC) x y,P x->P y->∀Q:Bool->Shared->Prop,(∀b,Q b s)->wpAny (model prog w) A (keyLt' kd x y) Q E s
def Good(P:Value->Prop)(xs:Array Keyed):Prop:=∀(i:Nat)(p:Keyed),xs[i]?=some p->P p.1
variable{kd:SortKind}{P:Value->Prop}
def ask{st:SortSt}(L:gS prog w A s kd P)(hk:kindOf st=kd)(hx:P x.1)(hy:P y.1)(h:∀b,Q (some b) st):wpS (model prog w) A E s (lt' x y) Q st:=by rw[lt'_eq];refine L8 (wpS_get ?_);rw[hk];refine L8 (Mp (Ow (L _ _ _ hx hy _ λb=>⟨rfl,?_⟩)));exact M0 (h b)
def aK{st:SortSt}{i:Nat}(hi:i<xs.size)(h:∀p,xs[i]?=some p->Q p st):wpS (model prog w) A E s (elem' xs i) Q st:=by rw[elem'_eq,N9 hi];exact M0 (h _ (N9 hi))
def lR{st:SortSt}{left:Bool}{base n hint:Nat}(L:gS prog w A s kd P)(hk:kindOf st=kd)(hy:P key.1)(G:Good P xs)(hn:base+n<=xs.size)(hh:hint<n)(h:∀k,k<=n->Q (some k) st) : wpS (model prog w) A E s (j9 left key xs base n hint) Q st:=by
 have far:∀(i:Nat){R:Option Bool->SortSt->Prop},i<n->(∀b,R (some b) st)->wpS (model prog w) A E s (do
   let x <-elem' xs (base+i)
   if left then lt' x key else return (<-lt' key x).map (!·)) R st:=λi R hi hR=>by
  refine L8 (aK (by lia) λp hp=>?_)
  cases left with
  |true=>exact ask L hk (G _ _ hp) hy hR
  |false=>exact L8 (ask L hk hy (G _ _ hp) λb=>M0 (hR _))
 unfold j9;refine L8 (far hint hh λb=>?_);dsimp only;split;all_goals
  refine L8 (MD (ME (I:=λ_ c st'=>st'=st/\c.1=none) (Q:=λc st'=>st'=st/\c.1=none) ?step (λ_ _ q=>q) ⟨rfl,rfl⟩) ?post)
  case step=>
   rintro x⟨o,a,c⟩st' _ _⟨rfl,rfl⟩;dsimp only;split
   .exact M0 ⟨rfl,rfl⟩
   .refine L8 (far _ (by lia) λb'=>?_)
    dsimp only;split
    .exact M0 ⟨rfl,rfl⟩
    .exact M0 ⟨rfl,rfl⟩
  case post=>
   rintro⟨o,a,c⟩st'⟨rfl,rfl⟩;dsimp only;refine L8 (MD (ME (I:=λ_ c st''=>st''=st'/\c.1=none/\c.2.2<=n) (Q:=λc st''=>st''=st'/\c.1=none/\c.2.2<=n) ?step2 (λ_ _ q=>q) ⟨rfl,rfl,by dsimp only;lia⟩) ?post2)
   case step2=>
    rintro x⟨o,a,c⟩st'' _ _⟨rfl,rfl,le⟩;dsimp only at le⊢;split
    .exact M0 ⟨rfl,rfl,le⟩
    .refine L8 (far _ (by lia) λb'=>?_)
     dsimp only;split
     .exact M0 ⟨rfl,rfl,le⟩
     .exact M0 ⟨rfl,rfl,by dsimp only;lia⟩
   case post2=>
    rintro⟨o,a,c⟩st''⟨rfl,rfl,le⟩;dsimp only;exact M0 (h _ le)
end
def Pm(xs ys out:Array Keyed) (ia ib:Nat):Prop:=out.toList.Perm (xs.toList.take ia++ys.toList.take ib)
section
variable{xs ys out:Array Keyed}{ia ib k:Nat}
def uP(zs:Array Keyed) (i k:Nat):zs.toList.take (i+k)=zs.toList.take i++(zs.extract i (i+k)).toList:=by rw[Pn,List.take_add,Po];congr 2;lia
def Pm.x(h:Pm xs ys out ia ib) (k:Nat):Pm xs ys (out++xs.extract ia (ia+k)) (ia+k) ib:=by unfold Pm at *;rw[MM,uP xs ia k,Mc];refine(h.append_right _).trans ?_;rw[Mc];exact NL _ NX
def Pm.y(h:Pm xs ys out ia ib) (k:Nat):Pm xs ys (out++ys.extract ib (ib+k)) ia (ib+k):=by unfold Pm at *;rw[MM,uP ys ib k,<-Mc];exact h.append_right _
def jo{zs out:Array Keyed}{i:Nat}(hp:zs[i]?=some p):out.push p=out++zs.extract i (i+1):=by
 obtain⟨hi,e⟩:=NR.mp hp;have:zs.extract i (i+1)=#[p]:=by
  rw[<-e];apply Array.ext;{simp;lia};intro j h1 h2;have:j=0:=by simp at h2;exact h2
  subst this;simp
 rw[this];rfl
def Pm.px{p:Keyed}(h:Pm xs ys out ia ib)(hp:xs[ia]?=some p):Pm xs ys (out.push p) (ia+1) ib:=by rw[jo hp];exact h.x 1
def Pm.py{p:Keyed}(h:Pm xs ys out ia ib)(hp:ys[ib]?=some p):Pm xs ys (out.push p) ia (ib+1):=by rw[jo hp];exact h.y 1
def t7(zs:Array Keyed) (i:Nat):zs.toList=zs.toList.take i++(zs.extract i).toList:=by rw[Pn,Po];have:List.take (zs.size-i) (List.drop i zs.toList)=List.drop i zs.toList:=O1 (by simp);rw[this,Pp]
def Pm.done(h:Pm xs ys out ia ib):(out++xs.extract ia++ys.extract ib).toList.Perm (xs.toList++ys.toList):=by unfold Pm at h;rw[MM,MM,t7 xs ia,t7 ys ib];refine((h.append_right _).append_right _).trans ?_;simp only[Mc];refine NL _ ?_;rw[<-Mc,<-Mc];exact OT _ NX
def Pm.last(h:Pm xs ys out ia ib):(out++ys.extract ib++xs.extract ia).toList.Perm (xs.toList++ys.toList):=by refine List.Perm.trans ?_ h.done;rw[MM,MM,MM,MM,Mc,Mc];exact NL _ NX
end
def dN(st st':SortSt):Prop:=kindOf st'=kindOf st/\arrOf st'=arrOf st/\pendingOf st'=pendingOf st/\failedOf st'=failedOf st
inductive Gn(st:SortSt)(xs ys:Array Keyed) (x:Nat):Option (Array Keyed)×Array Keyed×Nat×Nat×Nat->SortSt->Prop
 |mk:∀(out:Array Keyed) (ia ib mg:Nat)(st':SortSt),dN st st'->Pm xs ys out ia ib->ia+1<xs.size->ib<ys.size->x+1<=ia+ib->Gn st xs ys x (none,out,ia,ib,mg) st'
inductive xo(st:SortSt)(xs ys:Array Keyed):Option (Array Keyed)×Array Keyed×Nat×Nat×Nat->SortSt->Prop
 |mk:∀(r out:Array Keyed) (ia ib mg:Nat)(st':SortSt),dN st st'->r.toList.Perm (xs.toList++ys.toList)->xo st xs ys (some r,out,ia,ib,mg) st'
inductive Du(st:SortSt)(xs ys:Array Keyed) (n y:Nat):Option (Array Keyed)×Array Keyed×Nat×Nat×Nat×Nat->SortSt->Prop
 |mk:∀(out:Array Keyed) (ia ib ac bc:Nat),Pm xs ys out ia ib->ia+1<xs.size->ib<ys.size->y+n<=ia+ib->Du st xs ys n y (none,out,ia,ib,ac,bc) st
inductive n5(st:SortSt)(xs ys:Array Keyed) (n:Nat):Option (Array Keyed)×Array Keyed×Nat×Nat×Nat×Nat->SortSt->Prop
 |dn:∀(r out:Array Keyed) (ia ib ac bc:Nat),r.toList.Perm (xs.toList++ys.toList)->n5 st xs ys n (some r,out,ia,ib,ac,bc) st
 |go:∀(out:Array Keyed) (ia ib ac bc:Nat),Pm xs ys out ia ib->ia+1<xs.size->ib<ys.size->n+1<=ia+ib->n5 st xs ys n (none,out,ia,ib,ac,bc) st
inductive GX(st:SortSt)(xs ys:Array Keyed) (n:Nat):Option (Array Keyed)×Array Keyed×Nat×Nat×Nat×Nat×Nat->SortSt->Prop
 |mk:∀(out:Array Keyed) (ia ib mg ac bc:Nat)(st':SortSt),dN st st'->Pm xs ys out ia ib->ia+1<xs.size->ib<ys.size->n<=ia+ib->GX st xs ys n (none,out,ia,ib,mg,ac,bc) st'
inductive lq(st:SortSt)(xs ys:Array Keyed) (n:Nat):Option (Array Keyed)×Array Keyed×Nat×Nat×Nat×Nat×Nat->SortSt->Prop
 |dn:∀(r out:Array Keyed) (ia ib mg ac bc:Nat)(st':SortSt),dN st st'->r.toList.Perm (xs.toList++ys.toList)->lq st xs ys n (some r,out,ia,ib,mg,ac,bc) st'
 |go:∀(out:Array Keyed) (ia ib mg ac bc:Nat)(st':SortSt),dN st st'->Pm xs ys out ia ib->ia+1<xs.size->ib<ys.size->n<=ia+ib->lq st xs ys n (none,out,ia,ib,mg,ac,bc) st'
section
variable{prog:Program}{w:World}{A:Around}{E:QC}{s:Shared}{kd:SortKind}{P:Value->Prop}
def aY{M:Model}{U α:Type}{a b:Nat}{m1 m2:StateT U Sem α}{Q:α->U->Prop}{st:U}(h1:a=b->wpS M A E s m1 Q st)(h2:a≠b->wpS M A E s m2 Q st):wpS M A E s (if(a==b)=true then m1 else m2) Q st:=by by_cases e:a=b;{rw[if_pos (beq_iff_eq.mpr e)];exact h1 e};rw[if_neg (λz=>e (beq_iff_eq.mp z))];exact h2 e
def av{M:Model}{U α:Type}{c:Prop} [Decidable c]{m1 m2:StateT U Sem α}{Q:α->U->Prop}{st:U}(h1:c->wpS M A E s m1 Q st)(h2:¬c->wpS M A E s m2 Q st):wpS M A E s (if c then m1 else m2) Q st:=by by_cases e:c;{rw[if_pos e];exact h1 e};rw[if_neg e];exact h2 e
def bM{α:Type}{st:SortSt}{zs:Array Keyed}{i:Nat}{f:Keyed->StateT SortSt Sem α}{Q:α->SortSt->Prop}(hi:i<zs.size)(h:∀p,zs[i]?=some p->wpS (model prog w) A E s (f p) Q st):wpS (model prog w) A E s (elem' zs i>>=f) Q st:=L8 (aK hi h)
def t8{α:Type}{st:SortSt}{x y:Keyed}{f:Option Bool->StateT SortSt Sem α}{Q:α->SortSt->Prop}(L:gS prog w A s kd P)(hk:kindOf st=kd)(hx:P x.1)(hy:P y.1)(h:∀b,wpS (model prog w) A E s (f (some b)) Q st):wpS (model prog w) A E s (lt' x y>>=f) Q st:=L8 (ask L hk hx hy h)
def kG{α:Type}{st:SortSt}{left:Bool}{key:Keyed}{xs:Array Keyed}{base n hint:Nat}{f:Option Nat->StateT SortSt Sem α}{Q:α->SortSt->Prop}(L:gS prog w A s kd P)(hk:kindOf st=kd)(hy:P key.1)(G:Good P xs)(hn:base+n<=xs.size)(hh:hint<n)(h:∀k,k<=n->wpS (model prog w) A E s (f (some k)) Q st):wpS (model prog w) A E s (j9 left key xs base n hint>>=f) Q st:=L8 (lR L hk hy G hn hh h)
def Jm{st:SortSt}{xs ys:Array Keyed}{Q:Array Keyed->SortSt->Prop}(L:gS prog w A s kd P)(hk:kindOf st=kd)(G1:Good P xs)(G2:Good P ys)(h1:1<=xs.size)(h2:1<=ys.size)(h:∀zs st',dN st st'->zs.toList.Perm (xs.toList++ys.toList)->Q zs st') : wpS (model prog w) A E s (kK xs ys) Q st:=by
 unfold kK;refine L8 (Mp (Ml ⟨rfl,?_⟩));dsimp only;refine bM (by lia) λp hp=>?_;have pm0:Pm xs ys #[p] 0 1:=by have:Pm xs ys #[] 0 0:=List.Perm.refl _;exact this.py hp
 have g0:dN st st:=⟨rfl,rfl,rfl,rfl⟩;refine aY (λe1=>M0 (h _ _ g0 pm0.done)) (λe1=>?_);refine aY (λe2=>M0 (h _ _ g0 pm0.last)) (λe2=>?_);refine L8 (wpS_get ?_);refine L8 (MD (ME (I:=Gn st xs ys) (Q:=xo st xs ys) ?step ?fin (.mk _ _ _ _ _ g0 pm0 (by lia) (by lia) (by lia))) ?post)
 case post=>
  rintro _ st'⟨r,out,ia,ib,mg,_,g,pr⟩;dsimp only;exact M0 (h _ _ g pr)
 case fin=>
  rintro _ st'⟨out,ia,ib,mg,_,_,_,a,b,c⟩;lia
 case step=>
  rintro x _ st' _ _⟨out,ia,ib,mg,_,g,pm,a1,b1,c1⟩;dsimp only;have hk':kindOf st'=kd:=g.1.trans hk;refine L8 (MD (ME (I:=Du st' xs ys (ia+ib)) (Q:=n5 st' xs ys (ia+ib)) ?step1 ?fin1 (.mk _ _ _ _ _ pm a1 b1 (by lia))) ?post1)
  case fin1=>
   rintro _ _⟨out2,ia2,ib2,ac,bc,_,a,b,c⟩;lia
  case step1=>
   rintro y _ _ _ _⟨out2,ia2,ib2,ac,bc,pm2,a2,b2,c2⟩;dsimp only;refine bM (by lia) λp1 hp1=>?_
   refine bM (by lia) λp2 hp2=>?_
   refine t8 L hk' (G2 _ _ hp1) (G1 _ _ hp2) λb=>?_
   dsimp only;cases b with
   |true=>rw[if_pos rfl];refine bM (by lia) λp3 hp3=>?_;have pm3:=pm2.py hp3;refine aY (λe3=>M0 (n5.dn _ _ _ _ _ _ pm3.done)) (λe3=>?_);refine av (λe4=>?_) (λe4=>?_);{exact M0 (n5.go _ _ _ _ _ pm3 a2 (by lia) (by lia))};exact M0 (Du.mk _ _ _ _ _ pm3 a2 (by lia) (by lia))
   |false=>rw[if_neg MJ];refine bM (by lia) λp3 hp3=>?_;have pm3:=pm2.px hp3;refine aY (λe3=>M0 (n5.dn _ _ _ _ _ _ pm3.last)) (λe3=>?_);refine av (λe4=>?_) (λe4=>?_);{exact M0 (n5.go _ _ _ _ _ pm3 (by lia) b2 (by lia))};exact M0 (Du.mk _ _ _ _ _ pm3 (by lia) b2 (by lia))
  case post1=>
   rintro _ _ (⟨r,out2,ia2,ib2,ac,bc,pr⟩|⟨out2,ia2,ib2,ac,bc,pm2,a2,b2,c2⟩)
   .exact M0 (xo.mk _ _ _ _ _ _ g pr)
   .dsimp only;refine L8 (Mp (Ml ⟨rfl,?_⟩));refine L8 (MD (ME (I:=λ_=>GX st xs ys (ia2+ib2)) (Q:=lq st xs ys (ia2+ib2)) ?step2 (λc st3 q=>by cases q;exact .go _ _ _ _ _ _ _ ‹_› ‹_› ‹_› ‹_› ‹_›) (.mk _ _ _ _ _ _ _ g pm2 a2 b2 (M5 _))) ?post2)
    case step2=>
     rintro y _ st3 _ _⟨out3,ia3,ib3,mg3,ac3,bc3,_,g3,pm3,a3,b3,c3⟩;dsimp only;have hk3:kindOf st3=kd:=g3.1.trans hk;refine av (λe5=>?b1) (λe5=>?b2)
     generalize mg3-1=v;clear e5;revert v;refine ?key
     case b2=>exact ?key mg3
     intro v;refine L8 (MX ?_);refine bM (by lia) λp1 hp1=>?_
     refine kG L hk3 (G2 _ _ hp1) G1 (by lia) (by lia) λk hk1=>?_
     dsimp only;refine av (λk0=>?c1) (λk0=>?c2)
     have pm4:=pm3.x k;refine aY (λe6=>M0 (lq.dn _ _ _ _ _ _ _ _ g3 pm4.last)) (λe6=>?_)
     refine aY (λe7=>M0 (lq.dn _ _ _ _ _ _ _ _ g3 pm4.done)) (λe7=>?_)
     generalize out3++xs.extract ia3 (ia3+k)=o at pm4⊢;have n1:ia3+k+1<xs.size:=by lia
     have n0:ia3<=ia3+k:=by lia
     revert n0 n1 pm4;clear e6 e7 k0;generalize ia3+k=n;clear hk1;generalize k=d;revert o n d;refine ?key2
     case c2=>exact ?key2 out3 ia3 k pm3 a3 (M5 _)
     intro o n d pm4 n1 n0;refine bM (by lia) λp2 hp2=>?_
     have pm5:=pm4.py hp2;refine aY (λe8=>M0 (lq.dn _ _ _ _ _ _ _ _ g3 pm5.done)) (λe8=>?_)
     refine bM (by lia) λp3 hp3=>?_
     refine kG L hk3 (G1 _ _ hp3) G2 (by lia) (by lia) λk2 hk2=>?_
     dsimp only;refine av (λk20=>?d1) (λk20=>?d2)
     have pm6:=pm5.y k2;refine aY (λe9=>M0 (lq.dn _ _ _ _ _ _ _ _ g3 pm6.done)) (λe9=>?_)
     generalize o.push _++ys.extract (ib3+1) (ib3+1+k2)=o2 at pm6⊢;have m1:ib3+1+k2<ys.size:=by lia
     have m0:ib3+1<=ib3+1+k2:=by lia
     revert m0 m1 pm6;clear e9 k20;generalize ib3+1+k2=m;clear hk2;generalize k2=d2;revert o2 m d2;refine ?key3
     case d2=>exact ?key3 _ _ _ pm5 (by lia) (M5 _)
     intro o2 m d2 pm6 m1 m0;refine bM (by lia) λp4 hp4=>?_
     have pm7:=pm6.px hp4;refine aY (λe10=>M0 (lq.dn _ _ _ _ _ _ _ _ g3 pm7.last)) (λe10=>?_)
     refine av (λ_=>?_) (λ_=>?_)
     .exact M0 (lq.go _ _ _ _ _ _ _ g3 pm7 (by lia) (by lia) (by lia))
     .exact M0 (GX.mk _ _ _ _ _ _ _ g3 pm7 (by lia) (by lia) (by lia))
    case post2=>
     rintro _ st3 (⟨r,out3,ia3,ib3,mg3,ac3,bc3,_,g3,pr⟩|⟨out3,ia3,ib3,mg3,ac3,bc3,_,g3,pm3,a3,b3,c3⟩)
     .exact M0 (xo.mk _ _ _ _ _ _ g3 pr)
     .dsimp only;refine L8 (MX ?_);exact M0 (Gn.mk _ _ _ _ _ g3 pm3 a3 b3 (by lia))
end
def Pr(xs ys out:Array Keyed) (na nb:Nat):Prop:=out.toList.Perm (xs.toList.drop na++ys.toList.drop nb)
section
variable{xs ys out:Array Keyed}{na nb k:Nat}
def gP(zs:Array Keyed){i n:Nat}(h:i<=n):zs.toList.drop i=(zs.extract i n).toList++zs.toList.drop n:=by obtain⟨d,rfl⟩:=Nat.exists_eq_add_of_le h;rw[Pn,Po,OU,<-List.drop_drop];exact(Pp d _).symm
def Pr.x(h:Pr xs ys out na nb)(hk:k<=na):Pr xs ys (out++(xs.extract k na).reverse) k nb:=by unfold Pr at *;rw[MM,gP xs hk,NC,Mc];refine(h.append_right _).trans ?_;refine NX.trans ?_;exact OT _ (Pq _)
def Pr.y(h:Pr xs ys out na nb)(hk:k<=nb):Pr xs ys (out++(ys.extract k nb).reverse) na k:=by unfold Pr at *;rw[MM,gP ys hk,NC];refine(h.append_right _).trans ?_;rw[Mc];refine NL _ ?_;refine NX.trans ?_;exact OT _ (Pq _)
def kZ{zs out:Array Keyed}{i:Nat}(h1:1<=i)(hp:zs[i-1]?=some p):out.push p=out++(zs.extract (i-1) i).reverse:=by
 have e:=jo (out:=#[]) hp;rw[show i-1+1=i by lia]at e;have e2:zs.extract (i-1) i=#[p]:=by rw[Array.empty_append]at e;exact e.symm
 rw[e2];rfl
def Pr.px{p:Keyed}(h:Pr xs ys out na nb)(h1:1<=na)(hp:xs[na-1]?=some p):Pr xs ys (out.push p) (na-1) nb:=by rw[kZ h1 hp];exact h.x (by lia)
def Pr.py{p:Keyed}(h:Pr xs ys out na nb)(h1:1<=nb)(hp:ys[nb-1]?=some p):Pr xs ys (out.push p) na (nb-1):=by rw[kZ h1 hp];exact h.y (by lia)
def Pr.done(h:Pr xs ys out na nb):(xs.extract 0 na++ys.extract 0 nb++out.reverse).toList.Perm (xs.toList++ys.toList):=by
 unfold Pr at h;have e1:=gP xs (Mq na);have e2:=gP ys (Mq nb);rw[OV]at e1 e2;rw[MM,MM,NC]
 conv=>rhs;rw[e1,e2]
 rw[Mc,Mc];refine NL _ ?_;refine(NL _ ((Pq _).trans h)).trans ?_;rw[<-Mc,<-Mc];exact OT _ NX
def Pr.first(h:Pr xs ys out na nb):(ys.extract 0 nb++xs.extract 0 na++out.reverse).toList.Perm (xs.toList++ys.toList):=by refine List.Perm.trans ?_ h.done;rw[MM,MM,MM,MM];exact OT _ NX
end
inductive HZ(st:SortSt)(xs ys:Array Keyed) (x:Nat):Option (Array Keyed)×Nat×Nat×Array Keyed×Nat->SortSt->Prop
 |mk:∀(na nb:Nat)(out:Array Keyed) (mg:Nat)(st':SortSt),dN st st'->Pr xs ys out na nb->1<=na->2<=nb->na<=xs.size->nb<=ys.size->na+nb+x+1<=xs.size+ys.size->HZ st xs ys x (none,na,nb,out,mg) st'
inductive ye(st:SortSt)(xs ys:Array Keyed):Option (Array Keyed)×Nat×Nat×Array Keyed×Nat->SortSt->Prop
 |mk:∀(r:Array Keyed) (na nb:Nat)(out:Array Keyed) (mg:Nat)(st':SortSt),dN st st'->r.toList.Perm (xs.toList++ys.toList)->ye st xs ys (some r,na,nb,out,mg) st'
inductive Cz(st:SortSt)(xs ys:Array Keyed) (n y:Nat):Option (Array Keyed)×Nat×Nat×Array Keyed×Nat×Nat->SortSt->Prop
 |mk:∀(na nb:Nat)(out:Array Keyed) (ac bc:Nat),Pr xs ys out na nb->1<=na->2<=nb->na<=xs.size->nb<=ys.size->na+nb+y<=n->Cz st xs ys n y (none,na,nb,out,ac,bc) st
inductive n6(st:SortSt)(xs ys:Array Keyed) (n:Nat):Option (Array Keyed)×Nat×Nat×Array Keyed×Nat×Nat->SortSt->Prop
 |dn:∀(r:Array Keyed) (na nb:Nat)(out:Array Keyed) (ac bc:Nat),r.toList.Perm (xs.toList++ys.toList)->n6 st xs ys n (some r,na,nb,out,ac,bc) st
 |go:∀(na nb:Nat)(out:Array Keyed) (ac bc:Nat),Pr xs ys out na nb->1<=na->2<=nb->na<=xs.size->nb<=ys.size->na+nb+1<=n->n6 st xs ys n (none,na,nb,out,ac,bc) st
inductive Hs(st:SortSt)(xs ys:Array Keyed) (n:Nat):Option (Array Keyed)×Nat×Nat×Array Keyed×Nat×Nat×Nat->SortSt->Prop
 |mk:∀(na nb:Nat)(out:Array Keyed) (mg ac bc:Nat)(st':SortSt),dN st st'->Pr xs ys out na nb->1<=na->2<=nb->na<=xs.size->nb<=ys.size->na+nb<=n->Hs st xs ys n (none,na,nb,out,mg,ac,bc) st'
inductive kX(st:SortSt)(xs ys:Array Keyed) (n:Nat):Option (Array Keyed)×Nat×Nat×Array Keyed×Nat×Nat×Nat->SortSt->Prop
 |dn:∀(r:Array Keyed) (na nb:Nat)(out:Array Keyed) (mg ac bc:Nat)(st':SortSt),dN st st'->r.toList.Perm (xs.toList++ys.toList)->kX st xs ys n (some r,na,nb,out,mg,ac,bc) st'
 |go:∀(na nb:Nat)(out:Array Keyed) (mg ac bc:Nat)(st':SortSt),dN st st'->Pr xs ys out na nb->1<=na->2<=nb->na<=xs.size->nb<=ys.size->na+nb<=n->kX st xs ys n (none,na,nb,out,mg,ac,bc) st'
section
variable{prog:Program}{w:World}{A:Around}{E:QC}{s:Shared}{kd:SortKind}{P:Value->Prop}
def Jx{st:SortSt}(L:gS prog w A s kd P)(hk:kindOf st=kd)(G1:Good P xs)(G2:Good P ys)(h1:1<=xs.size)(h2:1<=ys.size)(h:∀zs st',dN st st'->zs.toList.Perm (xs.toList++ys.toList)->Q zs st') : wpS (model prog w) A E s (kM xs ys) Q st:=by
 unfold kM;refine L8 (Mp (Ml ⟨rfl,?_⟩));dsimp only;refine bM (by lia) λp hp=>?_;have pm0:Pr xs ys #[p] (xs.size-1) ys.size:=by
  have z:Pr xs ys #[] xs.size ys.size:=by unfold Pr;rw[O3 (by simp),O3 (by simp)];exact List.Perm.refl _
  exact z.px h1 hp
 have g0:dN st st:=⟨rfl,rfl,rfl,rfl⟩;refine aY (λe1=>M0 (h _ _ g0 pm0.done)) (λe1=>?_);refine aY (λe2=>M0 (h _ _ g0 pm0.first)) (λe2=>?_);refine L8 (wpS_get ?_);refine L8 (MD (ME (I:=HZ st xs ys) (Q:=ye st xs ys) ?step ?fin (.mk _ _ _ _ _ g0 pm0 (by lia) (by lia) (by lia) (by lia) (by lia))) ?post)
 case post=>
  rintro _ st'⟨r,na,nb,out,mg,_,g,pr⟩;dsimp only;exact M0 (h _ _ g pr)
 case fin=>
  rintro _ st'⟨na,nb,out,mg,_,_,_,a,b,c,d,e⟩;lia
 case step=>
  rintro x _ st' _ _⟨na,nb,out,mg,_,g,pm,a1,b1,c1,d1,f1⟩;dsimp only;have hk':kindOf st'=kd:=g.1.trans hk;refine L8 (MD (ME (I:=Cz st' xs ys (na+nb)) (Q:=n6 st' xs ys (na+nb)) ?step1 ?fin1 (.mk _ _ _ _ _ pm a1 b1 c1 d1 (by lia))) ?post1)
  case fin1=>
   rintro _ _⟨na2,iu,out2,ac,bc,_,a,b,c,d,e⟩;lia
  case step1=>
   rintro y _ _ _ _⟨na2,iu,out2,ac,bc,pm2,a2,b2,c2,d2,f2⟩;dsimp only;refine bM (by lia) λp1 hp1=>?_
   refine bM (by lia) λp2 hp2=>?_
   refine t8 L hk' (G2 _ _ hp1) (G1 _ _ hp2) λb=>?_
   dsimp only;cases b with
   |true=>rw[if_pos rfl];refine bM (by lia) λp3 hp3=>?_;have pm3:=pm2.px (by lia) hp3;refine aY (λe3=>M0 (n6.dn _ _ _ _ _ _ pm3.done)) (λe3=>?_);refine av (λe4=>?_) (λe4=>?_);{exact M0 (n6.go _ _ _ _ _ pm3 (by lia) (by lia) (by lia) (by lia) (by lia))};exact M0 (Cz.mk _ _ _ _ _ pm3 (by lia) (by lia) (by lia) (by lia) (by lia))
   |false=>rw[if_neg MJ];refine bM (by lia) λp3 hp3=>?_;have pm3:=pm2.py (by lia) hp3;refine aY (λe3=>M0 (n6.dn _ _ _ _ _ _ pm3.first)) (λe3=>?_);refine av (λe4=>?_) (λe4=>?_);{exact M0 (n6.go _ _ _ _ _ pm3 (by lia) (by lia) (by lia) (by lia) (by lia))};exact M0 (Cz.mk _ _ _ _ _ pm3 (by lia) (by lia) (by lia) (by lia) (by lia))
  case post1=>
   rintro _ _ (⟨r,na2,iu,out2,ac,bc,pr⟩|⟨na2,iu,out2,ac,bc,pm2,a2,b2,c2,d2,f2⟩)
   .exact M0 (ye.mk _ _ _ _ _ _ g pr)
   .dsimp only;refine L8 (Mp (Ml ⟨rfl,?_⟩));refine L8 (MD (ME (I:=λ_=>Hs st xs ys (na2+iu)) (Q:=kX st xs ys (na2+iu)) ?step2 (λc st3 q=>by cases q;exact .go _ _ _ _ _ _ _ ‹_› ‹_› ‹_› ‹_› ‹_› ‹_› ‹_›) (.mk _ _ _ _ _ _ _ g pm2 a2 b2 c2 d2 (M5 _))) ?post2)
    case step2=>
     rintro y _ st3 _ _⟨na3,nb3,out3,mg3,ac3,bc3,_,g3,pm3,a3,b3,c3,d3,f3⟩;dsimp only;have hk3:kindOf st3=kd:=g3.1.trans hk;refine av (λe5=>?b1) (λe5=>?b2)
     generalize mg3-1=v;clear e5;revert v;refine ?key
     case b2=>exact ?key mg3
     intro v;refine L8 (MX ?_);refine bM (by lia) λp1 hp1=>?_
     refine kG L hk3 (G2 _ _ hp1) G1 (by lia) (by lia) λk hk1=>?_
     dsimp only;refine av (λk0=>?c1) (λk0=>?c2)
     have pm4:=pm3.x hk1;refine aY (λe7=>M0 (kX.dn _ _ _ _ _ _ _ _ g3 pm4.done)) (λe7=>?_)
     generalize out3++(xs.extract k na3).reverse=o at pm4⊢;generalize na3-k=d;have n1:1<=k:=by lia
     revert n1 pm4;clear e7 k0;revert hk1;generalize k=n;revert d o n;refine ?key2
     case c2=>exact ?key2 out3 (na3-k) na3 (M5 _) pm3 (by lia)
     intro o d n hk1 pm4 n1;refine bM (by lia) λp2 hp2=>?_
     have pm5:=pm4.py (by lia) hp2
     refine aY (λe8=>M0 (kX.dn _ _ _ _ _ _ _ _ g3 pm5.first)) (λe8=>?_)
     refine bM (by lia) λp3 hp3=>?_
     refine kG L hk3 (G1 _ _ hp3) G2 (by lia) (by lia) λk2 hk2=>?_
     dsimp only;refine av (λk20=>?d1) (λk20=>?d2)
     have pm6:=pm5.y hk2;refine aY (λe9=>M0 (kX.dn _ _ _ _ _ _ _ _ g3 pm6.first)) (λe9=>?_)
     refine aY (λe9'=>M0 (kX.dn _ _ _ _ _ _ _ _ g3 pm6.done)) (λe9'=>?_)
     have n2:2<=k2:=by lia
     revert n2 pm6;generalize o.push _++(ys.extract k2 (nb3-1)).reverse=o2;generalize nb3-1-k2=d2;clear e9 e9' k20;revert hk2;generalize k2=m;revert d2 o2 m;refine ?key3
     case d2=>exact ?key3 _ _ _ (M5 _) pm5 (by lia)
     intro o2 d2 m hm pm6 n2;refine bM (by lia) λp4 hp4=>?_
     have pm7:=pm6.px (by lia) hp4
     refine aY (λe10=>M0 (kX.dn _ _ _ _ _ _ _ _ g3 pm7.done)) (λe10=>?_)
     refine av (λ_=>?_) (λ_=>?_)
     .exact M0 (kX.go _ _ _ _ _ _ _ g3 pm7 (by lia) (by lia) (by lia) (by lia) (by lia))
     .exact M0 (Hs.mk _ _ _ _ _ _ _ g3 pm7 (by lia) (by lia) (by lia) (by lia) (by lia))
    case post2=>
     rintro _ st3 (⟨r,na3,nb3,out3,mg3,ac3,bc3,_,g3,pr⟩|⟨na3,nb3,out3,mg3,ac3,bc3,_,g3,pm3,a3,b3,c3,d3,f3⟩)
     .exact M0 (ye.mk _ _ _ _ _ _ g3 pr)
     .dsimp only;refine L8 (MX ?_);exact M0 (HZ.mk _ _ _ _ _ g3 pm3 a3 b3 c3 d3 (by lia))
end
structure SB(kd:SortKind)(xs0:Array Keyed)(st:SortSt):Prop where
 perm:(arrOf st).Perm xs0
 kind:kindOf st=kd
 ok:failedOf st=none
theorem SB.size{kd:SortKind}{st:SortSt}(B:SB kd xs0 st):(arrOf st).size=xs0.size:=B.perm.size_eq
def Good.perm(G:Good P ys)(p:xs.Perm ys):Good P xs:=λi q h=>by have m:q∈xs.toList:=Ma (by rw[Mf];exact h);have m2:q∈ys.toList:=(O4.mp p).mem_iff.mp m;obtain⟨j,hj⟩:=NS m2;rw[Mf]at hj;exact G j q hj
section
variable{prog:Program}{w:World}{A:Around}{E:QC}{s:Shared}{kd:SortKind}{P:Value->Prop}{xs0:Array Keyed}
def eY{st:SortSt}{i j:Nat}(L:gS prog w A s kd P)(G:Good P xs0)(B:SB kd xs0 st)(hi:i<xs0.size)(hj:j<xs0.size)(h:∀b,Q (some b) st):wpS (model prog w) A E s (ltAt' i j) Q st:=by rw[ltAt'_eq];refine L8 (wpS_get ?_);have G':=G.perm B.perm;refine L8 (aK (by rw[B.size];exact hi) λp hp=>?_);refine L8 (aK (by rw[B.size];exact hj) λq hq=>?_);exact ask L B.kind (G' _ _ hp) (G' _ _ hq) h
def gm{st:SortSt}{i j:Nat}(B:SB kd xs0 st)(h:∀st',SB kd xs0 st'->pendingOf st'=pendingOf st->Q () st'):wpS (model prog w) A E s (reverseSlice' i j) Q st:=by rw[reverseSlice'_eq];exact MX (h _ ⟨(mirror_perm _ _ _ _).trans B.perm,B.kind,B.ok⟩ rfl)
def Ce{st:SortSt}{lo nrem:Nat}(L:gS prog w A s kd P)(G:Good P xs0)(B:SB kd xs0 st)(h1:1<=nrem)(hn:lo+nrem<=xs0.size)(h:∀m st',SB kd xs0 st'->pendingOf st'=pendingOf st->1<=m->m<=nrem->Q (some m) st') : wpS (model prog w) A E s (countRun' lo nrem) Q st:=by
 unfold countRun';refine L8 (MD (ME (I:=λx c st'=>st'=st/\c.1=none/\c.2=x) (Q:=λc st'=>st'=st/\c.1=none/\1<=c.2/\c.2<=nrem) ?step ?fin ⟨rfl,rfl,rfl⟩) ?post)
 case step=>
  rintro x⟨o,n⟩st' a b⟨rfl,rfl,rfl⟩;dsimp only;refine L8 (eY L G B (by dsimp only at a b;lia) (by dsimp only at a b;lia) λc=>?_)
  dsimp only;refine av (λ_=>M0 ⟨rfl,rfl,by dsimp only at a b⊢;lia,by dsimp only at a b⊢;lia⟩) (λ_=>M0 ⟨rfl,rfl,rfl⟩)
 case fin=>
  rintro⟨o,n⟩st'⟨rfl,rfl,e⟩;dsimp only at e;exact⟨rfl,rfl,by dsimp only;lia,by dsimp only;lia⟩
 case post=>
  rintro⟨o,n⟩st'⟨rfl,rfl,n1,n2⟩;dsimp only at n1 n2⊢;refine aY (λe=>M0 (h _ _ B rfl n1 n2)) (λe=>?_)
  refine av (λn0=>?_) (λn0=>?_)
  .refine L8 (eY L G B (by lia) (by lia) λc=>?_)
   dsimp only;refine av (λ_=>M0 (h _ _ B rfl n1 n2)) (λ_=>?_)
   refine L8 (gm B λst6 B6 p6=>?_)
   refine L8 (Mp (Ml ⟨rfl,?_⟩));refine L8 (MD (ME (I:=λx c st2=>SB kd xs0 st2/\pendingOf st2=pendingOf st'/\c.1=none/\c.2.1=x) (Q:=λc st2=>SB kd xs0 st2/\pendingOf st2=pendingOf st'/\c.1=none/\1<=c.2.1/\c.2.1<=nrem) ?step1 ?fin1 ⟨B6,p6,rfl,rfl⟩) ?post1)
   case step1=>
    rintro x⟨o,m,q⟩st2 a b⟨B2,p2,rfl,rfl⟩;dsimp only at a b⊢;refine L8 (eY L G B2 (by lia) (by lia) λc=>?_)
    dsimp only;refine av (λ_=>?_) (λ_=>?_)
    .refine av (λ_=>?_) (λ_=>?_)
     .exact L8 (gm B2 λst3 B3 p3=>M0 ⟨B3,p3.trans p2,rfl,rfl⟩)
     .exact M0 ⟨B2,p2,rfl,rfl⟩
    .refine L8 (eY L G B2 (by lia) (by lia) λc2=>?_)
     dsimp only;refine av (λ_=>?_) (λ_=>?_)
     .exact M0 ⟨B2,p2,rfl,by dsimp only;lia,by dsimp only;lia⟩
     .exact M0 ⟨B2,p2,rfl,rfl⟩
   case fin1=>
    rintro⟨o,m,q⟩st2⟨B2,p2,rfl,e2⟩;dsimp only at e2;exact⟨B2,p2,rfl,by dsimp only;lia,by dsimp only;lia⟩
   case post1=>
    rintro⟨o,m,q⟩st2⟨B2,p2,rfl,m1,m2⟩;dsimp only at m1 m2⊢;refine av (λ_=>?_) (λ_=>?_)
    .refine L8 (gm B2 λst3 B3 p3=>?_)
     refine L8 (gm B3 λst4 B4 p4=>?_)
     refine L8 (MD (ME (I:=λx c st5=>st5=st4/\c.1=none/\c.2=x) (Q:=λc st5=>st5=st4/\c.1=none/\1<=c.2/\c.2<=nrem) ?stepL2 ?finL2 ⟨rfl,rfl,rfl⟩) ?postL2)
     case stepL2=>
      rintro x⟨o,m⟩st5 a b⟨rfl,rfl,rfl⟩;dsimp only at a b⊢;refine L8 (eY L G B4 (by lia) (by lia) λc=>?_)
      dsimp only;refine av (λ_=>M0 ⟨rfl,rfl,by dsimp only;lia,by dsimp only;lia⟩) (λ_=>M0 ⟨rfl,rfl,rfl⟩)
     case finL2=>
      rintro⟨o,m⟩st5⟨rfl,rfl,e2⟩;dsimp only at e2;exact⟨rfl,rfl,by dsimp only;lia,by dsimp only;lia⟩
     case postL2=>
      rintro⟨o,m⟩st5⟨rfl,rfl,k1,k2⟩;dsimp only at k1 k2⊢;exact M0 (h _ _ B4 (p4.trans (p3.trans p2)) k1 k2)
    .refine L8 (gm B2 λst4 B4 p4=>?_)
     refine L8 (MD (ME (I:=λx c st5=>st5=st4/\c.1=none/\c.2=x) (Q:=λc st5=>st5=st4/\c.1=none/\1<=c.2/\c.2<=nrem) ?stepL3 ?finL3 ⟨rfl,rfl,rfl⟩) ?postL3)
     case stepL3=>
      rintro x⟨o,m⟩st5 a b⟨rfl,rfl,rfl⟩;dsimp only at a b⊢;refine L8 (eY L G B4 (by lia) (by lia) λc=>?_)
      dsimp only;refine av (λ_=>M0 ⟨rfl,rfl,by dsimp only;lia,by dsimp only;lia⟩) (λ_=>M0 ⟨rfl,rfl,rfl⟩)
     case finL3=>
      rintro⟨o,m⟩st5⟨rfl,rfl,e2⟩;dsimp only at e2;exact⟨rfl,rfl,by dsimp only;lia,by dsimp only;lia⟩
     case postL3=>
      rintro⟨o,m⟩st5⟨rfl,rfl,k1,k2⟩;dsimp only at k1 k2⊢;exact M0 (h _ _ B4 (p4.trans p2) k1 k2)
  .have p6:pendingOf st'=pendingOf st':=rfl;refine L8 (Mp (Ml ⟨rfl,?_⟩));refine L8 (MD (ME (I:=λx c st2=>SB kd xs0 st2/\pendingOf st2=pendingOf st'/\c.1=none/\c.2.1=x) (Q:=λc st2=>SB kd xs0 st2/\pendingOf st2=pendingOf st'/\c.1=none/\1<=c.2.1/\c.2.1<=nrem) ?step4 ?fin4 ⟨B,p6,rfl,rfl⟩) ?post4)
   case step4=>
    rintro x⟨o,m,q⟩st2 a b⟨B2,p2,rfl,rfl⟩;dsimp only at a b⊢;refine L8 (eY L G B2 (by lia) (by lia) λc=>?_)
    dsimp only;refine av (λ_=>?_) (λ_=>?_)
    .refine av (λ_=>?_) (λ_=>?_)
     .exact L8 (gm B2 λst3 B3 p3=>M0 ⟨B3,p3.trans p2,rfl,rfl⟩)
     .exact M0 ⟨B2,p2,rfl,rfl⟩
    .refine L8 (eY L G B2 (by lia) (by lia) λc2=>?_)
     dsimp only;refine av (λ_=>?_) (λ_=>?_)
     .exact M0 ⟨B2,p2,rfl,by dsimp only;lia,by dsimp only;lia⟩
     .exact M0 ⟨B2,p2,rfl,rfl⟩
   case fin4=>
    rintro⟨o,m,q⟩st2⟨B2,p2,rfl,e2⟩;dsimp only at e2;exact⟨B2,p2,rfl,by dsimp only;lia,by dsimp only;lia⟩
   case post4=>
    rintro⟨o,m,q⟩st2⟨B2,p2,rfl,m1,m2⟩;dsimp only at m1 m2⊢;refine av (λ_=>?_) (λ_=>?_)
    .refine L8 (gm B2 λst3 B3 p3=>?_)
     refine L8 (gm B3 λst4 B4 p4=>?_)
     refine L8 (MD (ME (I:=λx c st5=>st5=st4/\c.1=none/\c.2=x) (Q:=λc st5=>st5=st4/\c.1=none/\1<=c.2/\c.2<=nrem) ?stepL5 ?finL5 ⟨rfl,rfl,rfl⟩) ?postL5)
     case stepL5=>
      rintro x⟨o,m⟩st5 a b⟨rfl,rfl,rfl⟩;dsimp only at a b⊢;refine L8 (eY L G B4 (by lia) (by lia) λc=>?_)
      dsimp only;refine av (λ_=>M0 ⟨rfl,rfl,by dsimp only;lia,by dsimp only;lia⟩) (λ_=>M0 ⟨rfl,rfl,rfl⟩)
     case finL5=>
      rintro⟨o,m⟩st5⟨rfl,rfl,e2⟩;dsimp only at e2;exact⟨rfl,rfl,by dsimp only;lia,by dsimp only;lia⟩
     case postL5=>
      rintro⟨o,m⟩st5⟨rfl,rfl,k1,k2⟩;dsimp only at k1 k2⊢;exact M0 (h _ _ B4 (p4.trans (p3.trans p2)) k1 k2)
    .refine L8 (gm B2 λst4 B4 p4=>?_)
     refine L8 (MD (ME (I:=λx c st5=>st5=st4/\c.1=none/\c.2=x) (Q:=λc st5=>st5=st4/\c.1=none/\1<=c.2/\c.2<=nrem) ?stepL6 ?finL6 ⟨rfl,rfl,rfl⟩) ?postL6)
     case stepL6=>
      rintro x⟨o,m⟩st5 a b⟨rfl,rfl,rfl⟩;dsimp only at a b⊢;refine L8 (eY L G B4 (by lia) (by lia) λc=>?_)
      dsimp only;refine av (λ_=>M0 ⟨rfl,rfl,by dsimp only;lia,by dsimp only;lia⟩) (λ_=>M0 ⟨rfl,rfl,rfl⟩)
     case finL6=>
      rintro⟨o,m⟩st5⟨rfl,rfl,e2⟩;dsimp only at e2;exact⟨rfl,rfl,by dsimp only;lia,by dsimp only;lia⟩
     case postL6=>
      rintro⟨o,m⟩st5⟨rfl,rfl,k1,k2⟩;dsimp only at k1 k2⊢;exact M0 (h _ _ B4 (p4.trans p2) k1 k2)
def HM{st:SortSt}{lo n k:Nat}(L:gS prog w A s kd P)(G:Good P xs0)(B:SB kd xs0 st)(hn:lo+n<=xs0.size)(h:∀st',SB kd xs0 st'->pendingOf st'=pendingOf st->Q true st') : wpS (model prog w) A E s (binarySort' lo n k) Q st:=by
 unfold binarySort';refine L8 (MD (ME (I:=λx c st'=>SB kd xs0 st'/\pendingOf st'=pendingOf st/\c.1=none) (Q:=λc st'=>SB kd xs0 st'/\pendingOf st'=pendingOf st/\c.1=none) ?step (λ_ _ q=>q) ⟨B,rfl,rfl⟩) ?post)
 case post=>
  rintro⟨o,u⟩st'⟨B1,p1,rfl⟩;exact M0 (h _ B1 p1)
 case step=>
  rintro x⟨o,u⟩st' a b⟨B1,p1,rfl⟩;dsimp only;refine L8 (MD (ME (I:=λy c st2=>st2=st'/\c.1=none/\c.2.2<=x) (Q:=λc st2=>st2=st'/\c.1=none/\c.2.2<=x) ?step1 (λ_ _ q=>q) ⟨rfl,rfl,M5 _⟩) ?post1)
  case step1=>
   rintro y⟨o,l,r⟩st2 _ _⟨rfl,rfl,le⟩;dsimp only at le⊢;refine av (λ_=>M0 ⟨rfl,rfl,le⟩) (λlr=>?_)
   refine L8 (eY L G B1 (by lia) (by lia) λc=>?_)
   dsimp only;refine av (λ_=>M0 ⟨rfl,rfl,by dsimp only;lia⟩) (λ_=>M0 ⟨rfl,rfl,le⟩)
  case post1=>
   rintro⟨o,l,r⟩st2⟨rfl,rfl,le⟩;dsimp only;refine L8 (MX ?_);exact M0 ⟨⟨(bubble_perm _ _ _).trans B1.perm,B1.kind,B1.ok⟩,p1,rfl⟩
end
theorem oS(sa:Nat):∀(l:List Keyed) (i:Nat)(a:Array Keyed),sa+i+l.length<=a.size->((l.zipIdx i).foldl (λa (x:Keyed×Nat)=>a.setIfInBounds (sa+x.2) x.1) a).toList=a.toList.take (sa+i)++(l++a.toList.drop (sa+i+l.length))
 |[],i,a,h=>by simp
 |p::r,i,a,h=>by
  have hl:(p::r).length=r.length+1:=rfl;rw[hl]at h;rw[List.zipIdx_cons,List.foldl_cons,oS sa r (i+1) _ (by rw[Array.size_setIfInBounds];lia)];rw[Oz];have lt:sa+i<a.toList.length:=by simp;lia
  have e1:(a.toList.set (sa+i) p).take (sa+(i+1))=a.toList.take (sa+i)++[p]:=by rw[show sa+(i+1)=sa+i+1 by lia,List.take_succ,List.take_set_of_le (M5 _),Ng lt];rfl
  have e2:(a.toList.set (sa+i) p).drop (sa+(i+1)+r.length)=a.toList.drop (sa+i+(p::r).length):=by rw[List.drop_set_of_lt (by lia),hl];congr 1;lia
  rw[e1,e2];simp
def seg(a:Array Keyed){i j k:Nat}(h1:i<=j)(h2:j<=k):a.toList=a.toList.take i++((a.extract i j).toList++((a.extract j k).toList++a.toList.drop k)):=by have e1:=gP a h1;have e2:=gP a h2;rw[<-e2,<-e1,Pp]
section
variable{prog:Program}{w:World}{A:Around}{E:QC}{s:Shared}{kd:SortKind}{P:Value->Prop}{xs0:Array Keyed}
theorem Good.extract(G:Good P xs) (i j:Nat):Good P (xs.extract i j):=λk p h=>by rw[O5]at h;split at h;{exact G _ _ h};cases h
def Bg{st:SortSt}{i sa na pw sb nb pb:Nat}(L:gS prog w A s kd P)(G:Good P xs0)(B:SB kd xs0 st)(e1:(pendingOf st)[i]?=some (sa,na,pw))(e2:(pendingOf st)[i+1]?=some (sb,nb,pb))(c:sb=sa+na)(n1:1<=na)(n2:1<=nb)(le:sb+nb<=xs0.size)(h:∀st',SB kd xs0 st'->pendingOf st'=((pendingOf st).setIfInBounds i (sa,na+nb,pw)).eraseIdxIfInBounds (i+1)->Q true st'):wpS (model prog w) A E s (mergeAt' i) Q st:=by
 have G':=G.perm B.perm;have sz:=B.size;unfold mergeAt';refine L8 (wpS_get ?_);dsimp only;rw[e1,e2];dsimp only;refine L8 (?_:wpS _ _ _ _ (set _) _ _);unfold wpS;rw[StateT.run_set];refine M8 ⟨rfl,?_⟩;refine L8 (aK (by rw[sz];lia) λp hp=>?_);have B1:SB kd xs0 (SortSt.mk' (kindOf st) (arrOf st) (((pendingOf st).setIfInBounds i (sa,na+nb,pw)).eraseIdxIfInBounds (i+1)) (gallopOf st) (failedOf st)):=⟨B.perm,B.kind,B.ok⟩;refine L8 (lR L B.kind (G' _ _ hp) G' (show sa+na<=(arrOf st).size by lia) (by lia) λk hk=>?_);dsimp only;refine aY (λ_=>M0 (h _ B1 rfl)) (λe3=>?_);refine L8 (aK (show sa+k+(na-k)-1<(arrOf st).size by lia) λp2 hp2=>?_);refine L8 (lR L B.kind (G' _ _ hp2) G' (show sb+nb<=(arrOf st).size by lia) (by lia) λk2 hk2=>?_);dsimp only;refine aY (λ_=>M0 (h _ B1 rfl)) (λe4=>?_);have x1:((arrOf st).extract (sa+k) sb).size=sb-(sa+k):=by rw[P0];lia
 have x2:((arrOf st).extract sb (sb+k2)).size=k2:=by rw[P0];lia
 have fin:∀zs:Array Keyed,zs.toList.Perm (((arrOf st).extract (sa+k) sb).toList++((arrOf st).extract sb (sb+k2)).toList)->(zs.toList.zipIdx.foldl (λa (x:Keyed×Nat)=>a.setIfInBounds (sa+k+x.2) x.1) (arrOf st)).Perm xs0:=λzs pm=>by
  have zl:zs.toList.length=sb+k2-(sa+k):=by rw[pm.length_eq,MV,Mh,Mh,x1,x2];lia
  refine Array.Perm.trans (O4.mpr ?_) B.perm;rw[oS (sa+k) zs.toList 0 (arrOf st) (by lia)];have e:=seg (arrOf st) (show sa+k<=sb by lia) (show sb<=sb+k2 by lia);rw[P1,show sa+k+zs.toList.length=sb+k2 by lia]
  conv=>rhs;rw[e]
  refine NL _ ?_;rw[<-Mc];exact pm.append_right _
 refine av (λ_=>?_) (λ_=>?_)
 .refine L8 (Jm L B.kind (G'.extract _ _) (G'.extract _ _) (show 1<=((arrOf st).extract (sa+k) sb).size by lia) (show 1<=((arrOf st).extract sb (sb+k2)).size by lia) λzs st2 g pm=>?_);obtain⟨g1,g2,g3,g4⟩:=g;refine L8 (MX ?_);refine L8 (wpS_get ?_);refine M0 ?_;have e:(failedOf st2).isNone=true:=by rw[g4];show(failedOf st).isNone=true;rw[B.ok];rfl
  show Q (failedOf st2).isNone _;rw[e];refine h _ ⟨?_,g1.trans B.kind,g4.trans B.ok⟩ g3;show(zs.toList.zipIdx.foldl (λa (x:Keyed×Nat)=>a.setIfInBounds (sa+k+x.2) x.1) (arrOf st2)).Perm xs0;rw[g2];exact fin zs pm
 refine L8 (Jx L B.kind (G'.extract _ _) (G'.extract _ _) (show 1<=((arrOf st).extract (sa+k) sb).size by lia) (show 1<=((arrOf st).extract sb (sb+k2)).size by lia) λzs st2 g pm=>?_);obtain⟨g1,g2,g3,g4⟩:=g;refine L8 (MX ?_);refine L8 (wpS_get ?_);refine M0 ?_;have e:(failedOf st2).isNone=true:=by rw[g4];show(failedOf st).isNone=true;rw[B.ok];rfl
 show Q (failedOf st2).isNone _;rw[e];refine h _ ⟨?_,g1.trans B.kind,g4.trans B.ok⟩ g3;show(zs.toList.zipIdx.foldl (λa (x:Keyed×Nat)=>a.setIfInBounds (sa+k+x.2) x.1) (arrOf st2)).Perm xs0;rw[g2];exact fin zs pm
end
def Cont:Nat->List (Nat×Nat×Nat)->Nat->Prop
 |f,[],lo=>f=lo
 |f,(s,n,_)::r,lo=>s=f/\1<=n/\Cont (f+n) r lo
theorem Cont.le:∀{l:List (Nat×Nat×Nat)}{f lo:Nat},Cont f l lo->f<=lo
 |[],f,lo,h=>N8 h
 | (s,n,p)::r,f,lo,⟨_,h1,h⟩=>by have:=Cont.le h;lia
theorem Cont.two:∀{l:List (Nat×Nat×Nat)}{f lo:Nat} (i:Nat),Cont f l lo->i+1<l.length->∃sa na pw sb nb pb,l[i]?=some (sa,na,pw)/\l[i+1]?=some (sb,nb,pb)/\sb=sa+na/\1<=na/\1<=nb/\sb+nb<=lo
 | (s,n,p)::(s2,n2,p2)::r,f,lo,0,⟨h1,h2,h3,h4,h5⟩,_=>⟨s,n,p,s2,n2,p2,rfl,rfl,by lia,h2,h4,by have:=h5.le;lia⟩
 | (s,n,p)::r,f,lo,i+1,⟨_,_,h⟩,hl=>Cont.two i h (by simpa using hl)
 |[],_,_,_,_,hl=>by simp at hl
 |[_],_,_,0,_,hl=>by simp at hl
theorem Cont.merge:∀{l:List (Nat×Nat×Nat)}{f lo:Nat} (i:Nat){sa na pw sb nb pb:Nat},Cont f l lo->l[i]?=some (sa,na,pw)->l[i+1]?=some (sb,nb,pb)->Cont f ((l.set i (sa,na+nb,pw)).eraseIdx (i+1)) lo
 | (s,n,p)::(s2,n2,p2)::r,f,lo,0,sa,na,pw,sb,nb,pb,⟨h1,h2,h3,h4,h5⟩,e1,e2=>by cases e1;cases e2;refine⟨h1,by lia,?_⟩;rw[<-Nat.add_assoc];exact h5
 | (s,n,p)::r,f,lo,i+1,sa,na,pw,sb,nb,pb,⟨h1,h2,h⟩,e1,e2=>⟨h1,h2,Cont.merge i h e1 e2⟩
 |[],_,_,_,_,_,_,_,_,_,_,e1,_=>by cases e1
 |[_],_,_,0,_,_,_,_,_,_,_,_,e2=>by cases e2
theorem Cont.mod(pw:Nat):∀{l:List (Nat×Nat×Nat)}{f lo:Nat} (j:Nat),Cont f l lo->Cont f (l.modify j λx=>(x.1,x.2.1,pw)) lo
 |[],f,lo,j,h=>by rw[List.modify_nil];exact h
 | (s,n,p)::r,f,lo,0,⟨h1,h2,h⟩=>⟨h1,h2,h⟩
 | (s,n,p)::r,f,lo,j+1,⟨h1,h2,h⟩=>⟨h1,h2,Cont.mod pw j h⟩
theorem Cont.push{n:Nat}(hn:1<=n):∀{l:List (Nat×Nat×Nat)}{f lo:Nat},Cont f l lo->Cont f (l++[(lo,n,0)]) (lo+n)
 |[],f,lo,h=>⟨h.symm,hn,by show f+n=lo+n;rw[show f=lo from h]⟩
 | (s,m,p)::r,f,lo,⟨h1,h2,h⟩=>⟨h1,h2,Cont.push hn h⟩
section
variable{prog:Program}{w:World}{A:Around}{E:QC}{s:Shared}{kd:SortKind}{P:Value->Prop}{xs0:Array Keyed}
def oz{st:SortSt}{i lo:Nat}(L:gS prog w A s kd P)(G:Good P xs0)(B:SB kd xs0 st)(C:Cont 0 (pendingOf st).toList lo)(le:lo<=xs0.size)(hi:i+1<(pendingOf st).size)(h:∀st',SB kd xs0 st'->Cont 0 (pendingOf st').toList lo->Q true st'):wpS (model prog w) A E s (mergeAt' i) Q st:=by obtain⟨sa,na,pw,sb,nb,pb,e1,e2,c,n1,n2,l2⟩:=C.two i (by simpa using hi);refine Bg L G B (by rw[<-Mf];exact e1) (by rw[<-Mf];exact e2) c n1 n2 (by lia) λst' B' p'=>h st' B' ?_;rw[p',Pu,Oz];exact C.merge i e1 e2
def EV{st:SortSt}(L:gS prog w A s kd P)(G:Good P xs0)(B:SB kd xs0 st)(p0:pendingOf st=#[])(h:∀st',SB kd xs0 st'->Q () st'):wpS (model prog w) A E s sortRuns' Q st:=by
 rw[sortRuns'_eq];refine L8 (wpS_get ?_);dsimp only;rw[B.size];refine L8 (MD (ME (I:=λx c st'=>SB kd xs0 st'/\c.1=none/\Cont 0 (pendingOf st').toList c.2/\c.2<=xs0.size) (Q:=λc st'=>SB kd xs0 st'/\c.1=none/\Cont 0 (pendingOf st').toList c.2/\c.2<=xs0.size) ?step (λ_ _ q=>q) ⟨B,rfl,by rw[p0];rfl,Mq _⟩) ?post)
 case step=>
  rintro x⟨o,lo⟩st' _ _⟨B1,rfl,C1,l1⟩;dsimp only at C1 l1⊢;refine av (λ_=>M0 ⟨B1,rfl,C1,l1⟩) (λge=>?_)
  refine L8 (Ce L G B1 (by lia) (by lia) λm st2 B2 p2 m1 m2=>?_)
  dsimp only;have C2:Cont 0 (pendingOf st2).toList lo:=by rw[p2];exact C1
  refine av (λlt=>?_) (λlt=>?_)
  .refine L8 (Mp (Ml ⟨rfl,?_⟩));generalize hf:min (xs0.size-lo) (minRun' xs0.size xs0.size 0)=force;have f1:1<=force:=by lia
   have f2:lo+force<=xs0.size:=by lia
   refine L8 (HM L G B2 f2 λst3 B3 p3=>?_)
   have C3:Cont 0 (pendingOf st3).toList lo:=by rw[p3];exact C2
   refine av (λz=>absurd z (by decide)) (λ_=>?_)
   refine L8 (wpS_get ?_);cases hb:(pendingOf st3).back? with
   |none=>
    dsimp only;refine L8 (MX ?_);refine M0 ⟨⟨B3.perm,B3.kind,B3.ok⟩,rfl,?_,f2⟩;show Cont 0 ((pendingOf st3).push (lo,force,0)).toList (lo+force);rw[NY];exact C3.push f1
   |some t=>
    obtain⟨s1,n1',q1⟩:=t;dsimp only;refine L8 (MD (ME (I:=λy c st4=>SB kd xs0 st4/\c.1=none/\Cont 0 (pendingOf st4).toList lo) (Q:=λc st4=>SB kd xs0 st4/\c.1=none/\Cont 0 (pendingOf st4).toList lo) ?step1 (λ_ _ q=>q) ⟨B3,rfl,C3⟩) ?post1)
    case step1=>
     rintro y⟨o,u⟩st4 _ _⟨B4,rfl,C4⟩;refine L8 (wpS_get ?_);cases hm:(if(pendingOf st4).size>1 then(pendingOf st4)[(pendingOf st4).size-2]? else none)with
     |none=>exact M0 ⟨B4,rfl,C4⟩
     |some t=>
      obtain⟨f1,f2,older⟩:=t;dsimp only;refine av (λ_=>M0 ⟨B4,rfl,C4⟩) (λ_=>?_)
      have s2:(pendingOf st4).size>1:=by
       by_cases z:(pendingOf st4).size>1
       .exact z
       .rw[if_neg z]at hm;cases hm
      refine L8 (oz L G B4 C4 l1 (by lia) λst5 B5 C5=>?_)
      exact av (λz=>absurd z (by decide)) (λ_=>M0 ⟨B5,rfl,C5⟩)
    case post1=>
     rintro⟨o,u⟩st4⟨B4,rfl,C4⟩;dsimp only;refine L8 (MX ?_);refine L8 (MX ?_);refine M0 ⟨⟨B4.perm,B4.kind,B4.ok⟩,rfl,?_,f2⟩;refine id (?_:Cont 0 (((pendingOf st4).modify ((pendingOf st4).size-1) λx=>(x.1,x.2.1,_)).push (lo,force,0)).toList (lo+force))
     rw[NY,P4];exact(C4.mod _ _).push f1
  .have f2:lo+m<=xs0.size:=by lia
   refine L8 (wpS_get ?_);cases hb:(pendingOf st2).back? with
   |none=>
    dsimp only;refine L8 (MX ?_);refine M0 ⟨⟨B2.perm,B2.kind,B2.ok⟩,rfl,?_,f2⟩;show Cont 0 ((pendingOf st2).push (lo,m,0)).toList (lo+m);rw[NY];exact C2.push m1
   |some t=>
    obtain⟨s1,n1',q1⟩:=t;dsimp only;refine L8 (MD (ME (I:=λy c st4=>SB kd xs0 st4/\c.1=none/\Cont 0 (pendingOf st4).toList lo) (Q:=λc st4=>SB kd xs0 st4/\c.1=none/\Cont 0 (pendingOf st4).toList lo) ?step2 (λ_ _ q=>q) ⟨B2,rfl,C2⟩) ?post2)
    case step2=>
     rintro y⟨o,u⟩st4 _ _⟨B4,rfl,C4⟩;refine L8 (wpS_get ?_);cases hm:(if(pendingOf st4).size>1 then(pendingOf st4)[(pendingOf st4).size-2]? else none)with
     |none=>exact M0 ⟨B4,rfl,C4⟩
     |some t=>
      obtain⟨f1,f2,older⟩:=t;dsimp only;refine av (λ_=>M0 ⟨B4,rfl,C4⟩) (λ_=>?_)
      have s2:(pendingOf st4).size>1:=by
       by_cases z:(pendingOf st4).size>1
       .exact z
       .rw[if_neg z]at hm;cases hm
      refine L8 (oz L G B4 C4 l1 (by lia) λst5 B5 C5=>?_)
      exact av (λz=>absurd z (by decide)) (λ_=>M0 ⟨B5,rfl,C5⟩)
    case post2=>
     rintro⟨o,u⟩st4⟨B4,rfl,C4⟩;dsimp only;refine L8 (MX ?_);refine L8 (MX ?_);refine M0 ⟨⟨B4.perm,B4.kind,B4.ok⟩,rfl,?_,f2⟩;refine id (?_:Cont 0 (((pendingOf st4).modify ((pendingOf st4).size-1) λx=>(x.1,x.2.1,_)).push (lo,m,0)).toList (lo+m))
     rw[NY,P4];exact(C4.mod _ _).push m1
 case post=>
  rintro⟨o,lo⟩st'⟨B1,rfl,C1,l1⟩;dsimp only at C1 l1⊢;refine L8 (MD (ME (I:=λy c st4=>SB kd xs0 st4/\c.1=none/\Cont 0 (pendingOf st4).toList lo) (Q:=λc st4=>SB kd xs0 st4/\c.1=none/\Cont 0 (pendingOf st4).toList lo) ?stepE (λ_ _ q=>q) ⟨B1,rfl,C1⟩) ?postE)
  case stepE=>
   rintro y⟨o,u⟩st4 _ _⟨B4,rfl,C4⟩;refine L8 (wpS_get ?_);refine av (λ_=>M0 ⟨B4,rfl,C4⟩) (λgt=>?_)
   refine L8 (oz L G B4 C4 l1 (by(repeat' split)<;>lia) λst5 B5 C5=>?_)
   exact av (λz=>absurd z (by decide)) (λ_=>M0 ⟨B5,rfl,C5⟩)
  case postE=>
   rintro⟨o,u⟩st4⟨B4,rfl,C4⟩;dsimp only;exact M0 (h _ B4)
end
def IsPair(h:Heap)(v:Value):Prop:=∃(a:Addr)(o:Obj) (i j:Int)(t u:Tok) (n:Nat),v=.ref a/\h.get? a=some o/\o.cls=.type "tuple"/\o.data=.seq #[.int i t,.int j u] n
section
variable{prog:Program}{w:World}{A:Around}{E:QC}{s:Shared}
def ID(b:Bool){i j:Int}(h:∀c,Q c s):wpAny (model prog w) A (oneLt' b (.int i t) (.int j u)) Q E s:=by
 cases b with
 |true=>exact oneLt_int (h _)
 |false=>rw[oneLt'_eq];rw[if_neg MJ];refine M1 (?_:wpAny _ _ (compareOp .Lt (.int i t) (.int j u)) _ _ _);exact lt_int (ON (h _))
def x9:gS prog w A s (tuples' true) (IsPair s.heap):=by
 rintro E x y⟨a,o,i,j,t,u,n,rfl,ho,hc,hd⟩⟨a2,o2,i2,j2,t2,u2,n2,rfl,ho2,hc2,hd2⟩Q h;refine M1 (Nq ho hd ?_);refine M1 (Nq ho2 hd2 ?_);dsimp only;refine M1 ?_;refine wpAny_forIn_list _ (λrest r s'=>s'=s/\r.1=none/\∀x∈rest,∃(i j:Int)(t u:Tok),x.1=(Value.int i t,Value.int j u)) _ ?_ ?_ _ _ ⟨rfl,rfl,λx hx=>?_⟩
 .rintro⟨⟨p,q⟩,k⟩rest⟨r,⟨⟩⟩s'⟨rfl,rfl,hall⟩;obtain⟨i3,j3,t3,u3,e⟩:=hall _ M7;dsimp only at e;cases e;dsimp only;refine M1 ((intKind prog w).eqBool (a:=i3) (b:=j3) (O6 _ _ i3 t3) (O6 _ _ j3 u3) ?_);cases decide (i3=j3)with
  |true=>exact M8 ⟨rfl,rfl,λx hx=>hall x (MC _ hx)⟩
  |false=>exact M1 (ID _ λc=>M8 (M8 (h c)))
 .rintro⟨r,⟨⟩⟩s'⟨rfl,rfl,_⟩;exact M8 (h _)
 have hx':x=((Value.int i t,Value.int i2 t2),0)\/x=((Value.int j u,Value.int j2 u2),1):=by simpa using hx
 rcases hx' with rfl|rfl;{exact⟨_,_,_,_,rfl⟩};exact⟨_,_,_,_,rfl⟩
def xH(hv:IsPair s.heap v)(h:∀i t,Q (some (.int i t)) s):wpAny (model prog w) A (firstOfTuple' v) Q E s:=by obtain⟨a,o,i,j,t,u,n,rfl,ho,hc,hd⟩:=hv;unfold firstOfTuple';refine M1 (OR (T:="tuple") ⟨o,ho,hc⟩ ?_);rw[if_neg (by decide)];refine M1 (Nq ho hd (M8 ?_));exact h i t
theorem firsts:∀{vs:QO},(∀v∈vs,IsPair s.heap v)->(∀os:List (QK),os.length=vs.length->(∀o∈os,∃i t,o=some (Value.int i t))->Q os s)->wpAny (model prog w) A (vs.mapM firstOfTuple') Q E s
 |[],_,h=>by rw[List.mapM_nil];exact M8 (h [] rfl λo ho=>(nomatch ho))
 |v::r,hv,h=>by rw[List.mapM_cons];refine M1 (xH (hv v M7) λi t=>?_);refine M1 (firsts (λx hx=>hv x (MC _ hx)) λos ol oh=>?_);refine M8 (h _ (by simp[ol]) λo ho=>?_);rcases MH.mp ho with rfl|ho;{exact⟨i,t,rfl⟩};exact oh o ho
def qA{Q:SortKind->Shared->Prop}(h0:vs≠[])(hv:∀v∈vs,IsPair s.heap v)(h:Q (tuples' true) s):wpAny (model prog w) A (keyKind' vs.toArray) Q E s:=by
 rw[keyKind'_eq,List.mapM_toArray];rw[map_eq_pure_bind,bind_assoc];refine M1 (firsts hv λos ol oh=>?_);rw[pure_bind];have all:os.toArray.all (·.isSome)=true:=by rw[List.all_toArray,MI];intro o ho;obtain⟨i,t,rfl⟩:=oh o ho;rfl
 rw[if_pos all];refine M1 (Ml ?_);have inte:∃us:QO,os.toArray.filterMap id=us.toArray/\us≠[]/\∃ns,IntsAre us ns:=by
  have go:∀os:List (QK),(∀o∈os,∃i t,o=some (Value.int i t))->∃us ns,os.filterMap id=us/\us.length=os.length/\IntsAre us ns:=λos=>by
   induction os with
   |nil=>exact λ_=>⟨[],[],rfl,rfl,.nil⟩
   |cons o r ih=>intro hh;obtain⟨i,t,rfl⟩:=hh o M7;obtain⟨us,ns,e,l,I⟩:=ih λx hx=>hh x (MC _ hx);exact⟨.int i t::us,i::ns,by simp[e],by simp[l],.cons i t I⟩
  obtain⟨us,ns,e,l,I⟩:=go os oh;refine⟨us,?_,λz=>h0 ?_,ns,I⟩;{rw[List.filterMap_toArray,e]};rw[z]at l;have:vs.length=0:=by rw[<-ol,<-l];rfl
  exact List.length_eq_zero_iff.mp this
 obtain⟨us,e,un,ns,I⟩:=inte;rw[e,oneTypeOnly'_eq,List.mapM_toArray,mapM_typeOf_ints I];simp only[map_pure,pure_bind];obtain⟨u0,ur,rfl⟩:=List.exists_cons_of_ne_nil un;have hall:((List.map (λ_=>Value.type "int") (u0::ur)).toArray.all λx=>x==Value.type "int")=true:=by simp only[List.all_toArray,List.all_map,MI];intro _ _;rfl
 have h1:(List.map (λ_=>Value.type "int") (u0::ur)).toArray[0]?=some (Value.type "int"):=by simp
 rw[h1];simp only[hall,if_true,pure_bind];exact M8 h
end
def IsPair.keep{a:Addr}(p:IsPair h v)(ha:h.get? a=some c)(hc:c.cls=.type "list")(k:∀b o,b≠a->h.get? b=some o->h'.get? b=some o):IsPair h' v:=by obtain⟨b,o,i,j,t,u,n,rfl,ho,hco,hd⟩:=p;refine⟨b,o,i,j,t,u,n,rfl,k b o (λz=>?_) ho,hco,hd⟩;rw[z,ha]at ho;cases ho;rw[hc]at hco;injection hco with z;exact absurd z (by decide)
section
variable{prog:Program}{w:World}{A:Around}{E:QC}{s:Shared}
def ym{a:Addr}{n:Nat}(ho:s.heap.get? a=some (seqObj "list" vs.toArray n))(hv:∀v∈vs,IsPair s.heap v)(few:vs.length<=1000)(h:∀us:QL,us.toList.Perm vs->R (.done (.ret .none)) { s with heap:=sortedHeap s.heap a vs us }):wpAny (model prog w) A (Builtin.«list.sort» ⟨[.ref a],[]⟩) R E s:=by
 have line:(1000:Nat)<=sizeLine:=by decide
 have az:a<s.heap.objs.size:=MB ho;rw[list_sort_plain (a:Addr)];refine M1 (Nq ho rfl (?_:_));refine M1 (O7 ho rfl (?_:_) (by simp;lia) (by simp));obtain⟨ep,g1⟩:∃ep,(s.heap.update a (Obj.mapSeq λ_=>#[])).get? a=some (seqObj "list" #[] ep):=⟨_,get?_update_seq ho λ_=>#[]⟩;refine M1 (O8 g1 rfl (?_:_));refine M1 (wpAny_newTuple (?_:_) (by simp;lia));refine M1 (P5 (?_:_));refine Mx (?_:_);have g6:(((s.heap.update a (Obj.mapSeq λ_=>#[])).push (seqObj "tuple" vs.toArray 0)).push (seqObj "list" #[] 0)).get? a=some (seqObj "list" #[] ep):=ML _ (ML _ g1);have keep:∀b o,b≠a->s.heap.get? b=some o->(((s.heap.update a (Obj.mapSeq λ_=>#[])).push (seqObj "tuple" vs.toArray 0)).push (seqObj "list" #[] 0)).get? b=some o:=λb o hb e=>ML _ (ML _ ((Mw _ _ (Ne.symm hb)).trans e));have hv6:∀v∈vs,IsPair (((s.heap.update a (Obj.mapSeq λ_=>#[])).push (seqObj "tuple" vs.toArray 0)).push (seqObj "list" #[] 0)) v:=λv m=>(hv v m).keep ho rfl keep;refine id (?_:wpAny (model prog w) A _ R E { s with heap:=((s.heap.update a (Obj.mapSeq λ_=>#[])).push (seqObj "tuple" vs.toArray 0)).push (seqObj "list" #[] 0) });dsimp only;have psz:(vs.toArray.zip vs.toArray).size=vs.length:=by simp
 have out:∀zs:Array Keyed,zs.Perm (vs.toArray.zip vs.toArray)->(zs.map (·.2)).toList.Perm vs:=λzs p=>by
  have p2:=(O4.mp p).map (·.2);rw[Pw];refine p2.trans ?_;have:((vs.toArray.zip vs.toArray).toList.map (·.2))=vs:=by rw[OW];simp[P6]
  rw[this]
 by_cases h2:vs.toArray.size<2;{rw[if_pos h2,if_pos h2];refine M1 (M8 (?_:_));rw[StateT.run_pure];refine M1 (M8 (?_:_));dsimp only;refine M1 (O8 g6 rfl (?_:_));have o1:=out (vs.toArray.zip vs.toArray) (Array.Perm.refl _);have l1:=o1.length_eq;rw[Mh]at l1;refine M1 (O7 g6 rfl (?_:_) (by simp) (MZ (N8 l1) (by lia)));simp only[P7,P8,if_false];refine M8 (?_:_);exact h _ o1};rw[if_neg h2,if_neg h2];have ne:vs≠[]:=λz=>h2 (by rw[z];decide);refine M1 (qA (s:={ s with heap:=((s.heap.update a (Obj.mapSeq λ_=>#[])).push (seqObj "tuple" vs.toArray 0)).push (seqObj "list" #[] 0) }) ne hv6 (?_:_));refine M1 (Me (EV (kd:=tuples' true) (P:=IsPair (((s.heap.update a (Obj.mapSeq λ_=>#[])).push (seqObj "tuple" vs.toArray 0)).push (seqObj "list" #[] 0))) (xs0:=vs.toArray.zip vs.toArray) (s:={ s with heap:=((s.heap.update a (Obj.mapSeq λ_=>#[])).push (seqObj "tuple" vs.toArray 0)).push (seqObj "list" #[] 0) }) (Q:=λ_ st'=>SB (tuples' true) (vs.toArray.zip vs.toArray) st') x9 (λk p hp=>?_) ⟨Array.Perm.refl _,rfl,rfl⟩ rfl λst' B=>B) ?_ λ_ _ e=>e);{have m:p∈(vs.toArray.zip vs.toArray).toList:=Ma (by rw[Mf];exact hp);rw[OW]at m;exact hv6 _ (OP m).1};rintro⟨⟨⟩,st'⟩s'⟨rfl,B⟩;dsimp only;refine M1 (O8 g6 rfl (?_:_));have o1:=out _ B.perm;have l1:=o1.length_eq;rw[Mh]at l1;refine M1 (O7 g6 rfl (?_:_) (by simp) (MZ (N8 l1) (by lia)));rw[B.ok];simp only[P7,P8,if_false];refine M8 (?_:_);exact h _ o1
end
end TS
namespace L2
open PySem PySem.Spec PyProof.Rows
def zu(p:us.Perm its):∀{ys:List V},Vals ys its->∃zs,zs.Perm ys/\Vals zs us:=by
 induction p with
 |nil=>exact λ{ys} r=>⟨ys,List.Perm.refl _,r⟩
 |cons x _ ih=>
  intro ys r;cases r with
  |cons h r=>obtain⟨zs,p1,r1⟩:=ih r;exact⟨_::zs,p1.cons _,.cons h r1⟩
 |swap x y l=>
  intro ys r;cases r with
  |cons h r=>
   cases r with
   |cons h2 r=>exact⟨_::_::_,OX _ _ _,.cons h2 (.cons h r)⟩
 |trans _ _ ih1 ih2=>intro ys r;obtain⟨zs,p1,r1⟩:=ih2 r;obtain⟨ws,p2,r2⟩:=ih1 r1;exact⟨ws,p2.trans p1,r2⟩
section
variable{X:Cx}
inductive uf(K:QJ)(xs:List V)(H:Hp)(Q:VK):Prop
 |mk:∀(a:Addr)(ys:List V),(xs=[.ref a])->(bG K H a ys)->((∀y∈ys,∃(b:Addr) (i j:Int),y=.ref b/\bG K H b [.int i,.int j]))->(ys.length<=1000)->(∀(zs:List V)(p:Addr),zs.Perm ys->H p=none->Q (.ref p) (upd H p (.lst zs)))->uf K xs H Q
def vX(K:QJ):List V->Hp->VK->Prop:=λxs H Q=>uf K xs H Q
def sD:bO X (.builtin "sorted") (vX X.K):=by
 intro pins s U H xs us Q I r h;obtain⟨a,ys,rfl,hq,tu,few,q⟩:=h;obtain⟨u,rfl,ru⟩:=r.one;cases ru;obtain⟨its,rv,p,_⟩:=I.tuple hq;have hlen:its.length=ys.length:=rv.length.symm;have hv:∀v∈its,TS.IsPair s.heap v:=λv m=>by
  obtain⟨i,hi⟩:=NS m;have go:∀{ys:List V}{its:QO},Vals ys its->∀(i:Nat)(u:Value),its[i]?=some u->∃x,ys[i]?=some x/\RelV x u:=λ{ys its} r=>by
   induction r with
   |nil=>exact λi u h=>(nomatch h)
   |cons h _ ih=>
    intro i u e;cases i with
    |zero=>cases e;exact⟨_,rfl,h⟩
    |succ i=>exact ih i u e
  obtain⟨x,hx,rx⟩:=go rv i v hi;obtain⟨b,i1,j1,rfl,sb⟩:=tu x (Ma hx);cases rx;obtain⟨its2,r2,⟨o2,e2,c2,n2,d2⟩,_⟩:=I.tuple sb;cases r2 with
  |cons ra r3=>
   cases r3 with
   |cons rb r4=>cases r4;obtain⟨t,rfl⟩:=ra;obtain⟨u,rfl⟩:=rb;exact⟨b,o2,i1,j1,t,u,n2,rfl,e2,c2,d2⟩
 have line:(1000:Nat)<=sizeLine:=by decide
 refine Calls.call_function_entry kind_sorted plain_sorted entry_sorted (args_sorted1 _) (?_:_);unfold Builtin.«sorted»;refine M1 (m:=checkCount "sorted" 1 1 _) (M8 (?_:_));obtain⟨o1,ho1,hc1,n1,hd1⟩:=id p;refine M1 (wpAny_collect_seq a (.inr rfl) ho1 hc1 hd1 (λh1 kp=>?_) (by rw[MK];lia));refine M1 (P5 (?_:_) (by rw[List.toList_toArray];lia));rw[List.toList_toArray];have g0:(h1.push (seqObj "list" its.toArray 0)).get? h1.objs.size=some (seqObj "list" its.toArray 0):=Mn _ rfl;have old:∀b o,s.heap.get? b=some o->(h1.push (seqObj "list" its.toArray 0)).get? b=some o:=λb o e=>ML _ (kp b o e);refine id (?_:wpAny _ _ _ _ _ { s with heap:=h1.push (seqObj "list" its.toArray 0) });have hv2:∀v∈its,TS.IsPair (h1.push (seqObj "list" its.toArray 0)) v:=λv m=>by obtain⟨b,o,i,j,t,u,n,e,ho,r⟩:=hv v m;exact⟨b,o,i,j,t,u,n,e,old b o ho,r⟩
 refine M1 (Mx (Oq slot_list_sort ⟨_,g0,rfl⟩ entry_list_sort (TS.ym g0 hv2 (by lia) λout pm=>⟨_,rfl,(?_:_)⟩) (args_list_sort _)));obtain⟨n,hn⟩:=sortedHeap_at (vs:=its) (out:=out) g0;obtain⟨zs,pz,rz⟩:=zu pm rv;have new:s.heap.get? h1.objs.size=none:=by
  cases e:s.heap.get? h1.objs.size with
  |none=>rfl
  |some o=>exact absurd (MB (kp _ _ e)) (Mm _)
 have I2:=I.sR (a:=h1.objs.size) (o:=.lst zs) (t':=s.toks) (h':=sortedHeap (h1.push (seqObj "list" its.toArray 0)) h1.objs.size its out) (λb o hb=>by
   have lt:=MB (kp _ _ hb);rw[sortedHeap_old (MO lt) (by rw[size_push'];exact O9 lt)]
   exact old b o hb) new
  ⟨by rw[pz.length_eq];lia,out.toList,n,rz,by simpa using hn⟩
 exact M8 ⟨_,rfl,.ref h1.objs.size,_,I2,rfl,q zs _ pz (I.gb new)⟩
end
abbrev nk:Obj:={ cls:=.type "cell",data:=.cell none }
def Cx.aL(X:Cx)(scope:Scope) (x:Str)(C c:Addr)(NB:QY)(s2:Shared)(H2:Hp)(fp:QS):Cx:=
 { X with N:=NB,s₀:=s2,H₀:=H2,env:=compEnvC scope ((x,c)::bH X.env.cells scope.names []) C X.env,outer:=X.stack,ex:=fp,fn:=λy=>y==x,pn:=[],xe:=λ_ _=>False }
section
variable{X:Cx}{scope:Scope}{x:Str}{NB:QY}{ix:QW}{pins:QF}{U:St}{H2:Hp}{s2:Shared}{fp:QS}
def om(I2:Inv X pins U H2 s2){c:Addr}(e:X.env.cells.lookup y=some c):c<s2.heap.objs.size:=by obtain⟨v,q⟩:=I2.cell y c e;exact q.lt
end
section
variable{X:Cx}{scope:Scope}{x:Str}{NB:QY}{ix:QW}{pins:QF}{U:St}{H2:Hp}{s2:Shared}{fp:QS}
def x8{C c D:Addr}{n:Nat}(I2:Inv X pins U H2 s2)(f2:∀b∈fp,dB X pins H2 b)(hD:s2.heap.objs.size<=D)(I4:Inv (X.aL scope x C c NB s2 H2 fp) [(D,c6 its n)] σB H' s4)(rv:Vals ys its)(hz:ys.length<=sizeLine):Inv X pins U (upd H' D (.lst ys)) s4:=by
 have hp:=I4.pin (D,c6 its n) (by show _∈[]++[(D,c6 its n)];simp);have hfree:H' D=none:=hp.2.1;have neD:∀b o,s2.heap.get? b=some o->b≠D:=λb o e=>MO (MN (MB e) hD);have neT:∀b o,H2 b=some o->b≠D:=λb o e=>MO (MN (I2.hok.lt e) hD);have u:Un (frs X.stack) fp H2 H' s2.heap s4.heap:=I4.base;refine I2.sU (ch:=fp) I4.os ⟨u.keep,u.slot,λb o e n hx=>?_,u.there,λb xs e=>?_,λb o v e=>?_,λb ps e=>?_⟩ (λb o e=>?_) I4.bare λb hb=>?_;{rw[ai (neD b o e)];exact u.free b o e n hx};{rw[ai (neT b _ e)];exact u.tups b xs e};{rw[ai (neT b _ e)];exact u.gq b o v e};{rw[ai (neT b _ e)];exact u.gU b ps e}
 .by_cases hb:b=D;{subst hb;rw[aB]at e;cases e;exact⟨hz,its,n,rv,hp.1⟩};rw[ai hb]at e;have ne:∀{c:Addr}{w:HO},H' c=some w->c≠D:=λ{c w} q z=>by rw[z,hfree]at q;cases q
  exact(I4.hok b o e).stay (λ_ _ _ q=>q) (λc q=>by rw[ai (ne q)];exact q) λc xs q=>by rw[ai (ne q)];exact q
 obtain⟨_,g1,g2,g3,g4,g5⟩:=f2 b hb;exact⟨g3,g1,g4,g5⟩
end
def F9(K:QJ)(a:Addr):It:=
 ⟨λi H=>∃xs x,bD K H a xs/\xs[i]?=some x,λi H v H'=>∃T,H T=none/\v=.ref T/\∀xs,bD K H a xs->∃x,xs[i]?=some x/\H'=upd H T (.tup [.int i,x]),λi H=>∃xs,bD K H a xs/\xs.length<=i⟩
def Am{P:Program}{w:World}{K:QJ}{elts:QU}{x1:Nat}{pos:Pos}(a e it:Addr)(hne:e≠it) : Turn P w K (.Tuple elts x1 pos) (F9 K a) [e,it] e (λi h=>(∃old,IsEnum h e it i old)/\h.IsListIter it a i) where
 mem:=by simp
 obj:=λi h st b hb=>by
  obtain⟨⟨old,he⟩,o,e1,c,d⟩:=st;rcases MH.mp hb with z|z
  .subst z;exact⟨_,he,λv q=>by cases q⟩
  .have z:b=it:=by simpa using z
   subst z;exact⟨o,e1,λv q=>by rw[d]at q;cases q⟩
 keep:=λi h h' st k=>by
  obtain⟨⟨old,he⟩,li⟩:=st;exact⟨⟨old,k e (by simp) _ he⟩,li.at λo q=>k it (by simp) o q⟩
 item:=by
  intro X hP hw hK hc i pins s U H E I hf st hg;subst hP hw hK;obtain⟨xs,x,hq,hx⟩:=hg;obtain⟨its,rv,p,hz⟩:=I.list hq;obtain⟨u,hu,ru⟩:=rv.get hx;obtain⟨⟨old,he⟩,hit⟩:=st;have fe:=hf e (by simp)
  have fi:=hf it (by simp)
  refine wpAny_pyNext_enum_item he hit p.isList (x:=u) (by simpa using hu) hne λh1 heo hit1 ht1 hz1 hk1=>⟨_,rfl,?_⟩
  refine wpAny_letOwnedTupleGo_enum heo λh2 he2 hs2=>?_
  have elt:e<s.heap.objs.size:=MB he;have ht2:h2.get? s.heap.objs.size=some { cls:=.type "tuple",data:=.seq #[.int i s.toks,u] }:=(hs2.2 _ (Nu elt)).trans ht1;have hfr:H s.heap.objs.size=none:=I.hok.fresh (M5 _);have k2:∀b o,b≠e->b≠it->s.heap.get? b=some o->h2.get? b=some o:=λb o b1 b2 q=>hs2.extBut b o b1 (hk1 b o b1 b2 q)
  have neT:∀b o,H b=some o->b≠s.heap.objs.size:=λb o q z=>by rw[z,hfr]at q;cases q
  have neS:∀b o,s.heap.get? b=some o->b≠s.heap.objs.size:=λb o q=>MO (MB q)
  have nt:∀b o,H b=some o->b≠e/\b≠it:=λb o q=>⟨(λz=>by rw[z,fe.1]at q;cases q),(λz=>by rw[z,fi.1]at q;cases q)⟩
  have nin:∀b,b∉[e,it]->b≠e/\b≠it:=λb hb=>⟨λz=>hb (by simp[z]),λz=>hb (by simp[z])⟩
  have I2:Inv X pins U (upd H s.heap.objs.size (.tup [.int i,x])) { s with heap:=h2,toks:=s.toks+1 }:=by
   refine I.step (g':=s.gens) (d':=s.drawn) (ch:=[e,it]) (λb hb=>?_) (λb o _ _ hc' q _=>k2 b o (nin b hc').1 (nin b hc').2 q) (λb o _ _ hc' q _=>⟨o.slots,k2 b o (nin b hc').1 (nin b hc').2 q⟩)
    (λb o _ q n=>by rw[ai (neS b o q)];exact n) (λb o hc' q=>⟨o,k2 b o (nin b hc').1 (nin b hc').2 q⟩) (λb ys q=>by rw[ai (neT b _ q)];exact q) (λb o v q=>by rw[ai (neT b _ q)];exact q)
    (λb ps q=>⟨#[],by rw[ai (neT b _ q),q];simp⟩) (λm hm=>?_) (λb o q=>?_) I.bare
   .rcases MH.mp hb with z|z
    .subst z;exact⟨fe.2.2.2.1,fe.2.1,fe.2.2.2.2.1,fe.2.2.2.2.2⟩
    .have z:b=it:=by simpa using z
     subst z;exact⟨fi.2.2.2.1,fi.2.1,fi.2.2.2.2.1,fi.2.2.2.2.2⟩
   .obtain⟨o,es,ep,ho,r⟩:=hm;exact⟨o,es,ep,k2 _ o (Ne.symm fe.2.1) (Ne.symm fi.2.1) ho,r⟩
   .by_cases z:b=s.heap.objs.size
    .subst z;rw[aB]at q;cases q;exact⟨(by show 2<=sizeLine;decide),[.int i s.toks,u],.cons ⟨_,rfl⟩ (.cons ru .nil),_,ht2,rfl,_,rfl⟩
    .rw[ai z]at q;refine(I.hok b o q).stay (λc v hc' r=>k2 c v ?_ ?_ r) (λc r=>by rw[ai (neT c _ r)];exact r) λc ys r=>by rw[ai (neT c _ r)];exact r
     .rcases hc' with y|y
      .rw[y];exact(nt b o q).1
      .exact(nt c _ y).1
     .rcases hc' with y|y
      .rw[y];exact(nt b o q).2
      .exact(nt c _ y).2
  refine⟨.ref s.heap.objs.size,_,I2,rfl,⟨s.heap.objs.size,hfr,rfl,λys hy=>⟨x,by rw[I.uV hy hq];exact hx,rfl⟩⟩,⟨⟨_,he2⟩,?_⟩,λb hb=>?_⟩
  .exact hit1.at λo q=>hs2.extBut it o (Ne.symm hne) q
  .rcases MH.mp hb with z|z
   .subst z;rw[ai (MO elt)];exact fe.1
   .have z:b=it:=by simpa using z
    subst z;obtain⟨o,q,_⟩:=id hit;rw[ai (MO (MB q))];exact fi.1
 done:=by
  intro X hP hw hK hc i pins s U H E I hf st hg;subst hP hw hK;obtain⟨xs,hq,hx⟩:=hg;obtain⟨its,rv,p,hz⟩:=I.list hq;obtain⟨⟨old,he⟩,hit⟩:=st;obtain⟨f0,f1,f2,f3,f4,f5⟩:=hf it (by simp)
  have hl:=rv.length;exact wpAny_pyNext_enum_end (I.ok.hd hc) he hit p.isList (by simp;lia) λh' eb=>⟨rfl,I.turned (t':=s.toks) (λb o hb q=>eb b o hb q) f0 f1 f3 f4 f5⟩
 self:=λ_ _ _ _ _ st h=>by
  obtain⟨⟨old,he⟩,_⟩:=st;exact wpAny_pyIter_enum he h
section
variable{X:Cx}
inductive AU(K:QJ)(R:(It->Hp->Prop))(vs:List V)(H1:Hp):Prop
 |mk:∀a,(vs=[.ref a])->((∃xs,bD K H1 a xs))->(R (F9 K a) H1)->AU K R vs H1
def Ja(K:QJ)(ta:TA):TI:=λU H R=>ta U H λvs H1=>AU K R vs H1
def Fe{elts:QU}{x1:Nat}{tp p pos:Pos}{e:Expr}{ta:TA}(hg:Gl X "enumerate")(hm:X.mg "enumerate"=none)(ha:PA X [e] ta)(hs:starEach [e] X.env=[(false,eval e X.env)]:=by rfl) : PI X (.Tuple elts x1 tp) (.Call (.Name "enumerate" p) [e] [] pos) (Ja X.K ta):=by
 intro pins s U H R I h;refine Call_ (j7 I hg hm boot_enumerate (Oj (aG (ha pos pins s U H _ I h) λus s1 ⟨vs,H1,I1,r1,q1⟩=>?_) hs rfl));obtain⟨a,ev,⟨xs,hq⟩,q⟩:=q1;subst ev;obtain⟨u,rfl,ru⟩:=r1.one;cases ru;obtain⟨its,rv,pl,hz⟩:=I1.list hq;refine call_enumerate_list pl.isList λh' he hit hsz hk=>?_;refine wpAny_pyIter_enum he ?_;have I2:Inv X pins U H1 { s1 with heap:=h' }:=I1.kept (t':=s1.toks) hk;refine⟨s1.heap.objs.size+1,[s1.heap.objs.size+1,s1.heap.objs.size],_,_,H1,rfl,I2,Am a _ _ (Nat.succ_ne_self _),⟨⟨_,he⟩,hit⟩,λb hb=>?_,q⟩;have hb:s1.heap.objs.size<=b:=by
  rcases MH.mp hb with z|z;{rw[z];exact Nz _};have z:b=s1.heap.objs.size:=by simpa using z
  rw[z];exact M5 _
 exact I1.oO hb (I1.hok.fresh hb)
end
section
variable{prog:Program}{w:World}{A:Around}{R:Result->Shared->Prop}{s:Shared}
abbrev iu(prog:Program)(w:World)(A:Around)(env:Env)(R:Result->Shared->Prop):QC:=notedBy (model prog w) A env λe s'=>R (.error e) s'
end
section
variable{X:Cx}
inductive xg(x:V)(vs:List V)(H:Hp)(Q:VK):Prop
 |mk:∀(l:Addr)(xs:List V) (y:V) (j:Nat) (z:V),(x=.ref l)->(vs=[y])->(H l=some (.lst xs))->(kP y=true)->(xs.all kP=true)->(xs[j]?=some z)->(qa z y=true)->((∀(m:Nat) z,m<j->xs[m]?=some z->qa z y=false))->(Q (.int j) H)->xg x vs H Q
def G7:V->List V->Hp->VK->Prop:=λx vs H Q=>xg x vs H Q
def BD:qc X "list.index" G7:=by
 intro pins s U H x vs v us Q I rx rv h;obtain⟨l,xs,y,j,z,rfl,rfl,hH,fy,fx,hj,hit,hno,q⟩:=h;cases rx;obtain⟨u,rfl,ru⟩:=rv.one;obtain⟨hz,its,n,r,hl,e⟩:=I.tP hH;have at_:∀(m:Nat)(w:Value),its[m]?=some w->∃z,xs[m]?=some z/\De y w=qa z y:=λm w hm=>by obtain⟨z,h1,h2⟩:=qJ r m w hm;exact⟨z,h1,Al h2 (MI.mp fx z (Ma h1))⟩
 have hlt:j<its.length:=by have:=(N2.mp hj).1;lia
 have line:sizeLine<2^62:=by decide
 refine Nm F.slot_list_index ⟨_,e,rfl⟩ F.entry_list_index (F.args_list_index_2 _ _) (SeqAt.list_indexAt l its.toArray n none #[] u (De y) j (by simpa using hlt) (by lia) ?_ ?_) ⟨e,?_,⟨.int j,H,I.tok _,⟨_,rfl⟩,q⟩⟩;{obtain⟨z2,h1,h2⟩:=at_ j _ (MP hlt);rw[hj]at h1;cases h1;exact h2.trans hit}
 .intro m hm hmj;have hm':m<its.length:=by simpa using hm
  obtain⟨z2,h1,h2⟩:=at_ m _ (MP hm');exact h2.trans (hno m z2 hmj h1)
 intro w hw;exact uK ru fy r fx w (by simpa using hw)
end
end L2
namespace L2
open PySem PySem.Spec PyProof.Rows PySem.W
section
variable{X:Cx}
def Jq{bs:QT}{its:QO}(rv:Vals (bs.map V.bl) its){i:Nat}(h:its[i]?=some v):v=.bool (bs.getD i false)/\i<bs.length:=by
 obtain⟨x,hx,rx⟩:=qJ rv i v h;rw[MQ]at hx;cases e:bs[i]? with
 |none=>rw[e]at hx;cases hx
 |some b=>rw[e]at hx;cases hx;cases rx;exact⟨by rw[N6,e];rfl,(N2.mp e).1⟩
def AF(hc:X.calm=true):bO X (.builtin "sum") (λxs H Q=>∃(a:Addr)(bs:QT),xs=[.ref a]/\bD X.K H a (bs.map V.bl)/\Q (.int (preSum (λi=>if bs.getD i false=true then 1 else 0) bs.length)) H):=by
 intro pins s U H xs us Q I r h;obtain⟨a,bs,rfl,hq,q⟩:=h;obtain⟨u,rfl,ru⟩:=vals1 r;cases ru;obtain⟨its,rv,p,_⟩:=I.list hq;have hl:=p.isList;have hlt:a<s.heap.objs.size:=by obtain⟨o,ho,_⟩:=id hl;exact MB ho
 have hh:X.A.in1.handled=none:=by simp[I.ok.hd hc]
 have hn:its.toArray.size=bs.length:=by rw[MK,<-rv.length,M9]
 refine call_sum_walkAnyB (PX hl ?_);refine⟨_,_,_,_,_,_,_,λi=>if bs.getD i false=true then 1 else 0,rfl,(Walks.list hh _ a (MO hlt) its.toArray).toS,?_,?_,?_,?_⟩;{exact⟨⟨_,Mn _ rfl,rfl,rfl⟩,hl.push _⟩};{intro b hb;show b<(s.heap.push _).objs.size;rw[OY];rcases MH.mp hb with rfl|hb;{exact P9 _};rcases MH.mp hb with rfl|hb;{exact O9 hlt};cases hb}
 .intro i v hP;have hP':its[i]?=some v:=by simpa using hP
  exact .inr ⟨_,(Jq rv hP').1,rfl⟩
 intro s' t' mv;obtain⟨h',g,d,t,os⟩:=s';obtain⟨m1,m2,m3,m4,m5⟩:=mv;dsimp only at m1 m2 m3 m4;subst m2 m3 m4;rw[hn];exact⟨.int _,H,I.kept (t':=t) (old_kept m1),⟨_,rfl⟩,q⟩
def zQ:bO X (.builtin "isinstance") (λxs H Q=>∃a C t ys b,xs=[.ref a,.ref t]/\HR H a C/\w9 X.K C/\H t=some (.tup ys)/\(∀us,Vals ys us->kitAny X.K (.ref C) us=some b)/\Q (.bl b) H):=by intro pins s U H xs us Q I r h;obtain⟨a,C,t,ys,b,rfl,e,F,ht,k,q⟩:=h;obtain⟨u1,u2,rfl,ru1,ru2⟩:=r.two;cases ru1;cases ru2;obtain⟨its,rv,p,_⟩:=I.tuple (.inl (.inl ht));obtain⟨o,ho,hc,n,hd⟩:=p;obtain⟨oc,od,odt,osl⟩:=o;dsimp only at hc hd;subst hc hd;rcases e with e|⟨d,fs,e,he⟩;{obtain⟨ox,J⟩:=I.Ct e;exact kia_tup (ly F) I.dH J ho (k _ rv) (λz=>nomatch z) λtk=>⟨.bl b,H,I.tok tk,rfl,q⟩};obtain⟨ox,od,mA,J,_,_⟩:=I.Dd e he;exact kia_tup (ly F) I.dH J ho (k _ rv) (λz=>nomatch z) λtk=>⟨.bl b,H,I.tok tk,rfl,q⟩
end
end L2
namespace Dv
open PySem L2 PySem.W
section
variable{K:Frag}{H Hm:Hp}{P:Qd}{Q:VK}
def aZ(K:Frag)(H Hm:Hp)(P:Qd)(Q:VK):Prop:=∀k v u H' Hm' fp,P k v->af H H'->af Hm Hm'->af Hm' H'->(∀a,H a≠none->OE (Hm' a) (Hm a))->Own K H' Hm' k u v fp->(∀a∈fp,H a=none/\Hm' a=none)->Q u H'
def aZ.sc(q:aZ K H Hm P Q)(s:af Hm H)(p:P .sh v)(r:Rp K Hm u v):Q u H:=q _ _ _ _ _ [] p (af.refl _) (af.refl _) s (λ_ _=>.inl rfl) (.sh r) λ_ z=>by cases z
def ie(s:af Hm H){p:Addr}(h:H p=none):Hm p=none:=by
 cases e:Hm p with
 |none=>rfl
 |some o=>rw[s _ _ e]at h;cases h
def aZ.nl(q:aZ K H Hm P Q)(s:af Hm H){p:Addr}(pp:P (.ow false) (.list ds))(hp:H p=none)(r:ak K Hm xs ds):Q (.ref p) (upd H p (.lst xs)):=
 q _ _ _ _ Hm [p] pp (bI hp) (af.refl _) (s.trans (bI hp)) (λ_ _=>.inl rfl) (.ow aB r) λa ha=>by rw[MR.mp ha];exact⟨hp,ie s hp⟩
def aZ.nt(q:aZ K H Hm P Q)(s:af Hm H){p:Addr}(pp:P .sh (.tuple ds))(hp:H p=none)(r:ak K Hm xs ds):Q (.ref p) (upd H p (.tup xs)):=by
 have n:=ie s hp;have s2:=bI (o:=.tup xs) n;refine q _ _ _ _ (upd Hm p (.tup xs)) [] pp (bI hp) s2 (λb o e=>?_) (λa ha=>.inl (ai λz=>ha (z▸hp))) (.sh (.tup aB (r.mono s2))) λ_ z=>by cases z
 by_cases c:b=p;{rw[c,aB]at e⊢;exact e};rw[ai c]at e⊢;exact s _ _ e
end
def r2(r:R2):List V->Hp->VK->Prop:=λvs H Q=>match vs with
 |[x,y]=>r x y H Q
 |_=>False
def r1(r:V->Hp->VK->Prop):List V->Hp->VK->Prop:=λvs H Q=>match vs with
 |[x]=>r x H Q
 |_=>False
def cI(h:ak K H vs [a]):∃x,vs=[x]/\Rp K H x a:=by
 cases h with
 |cons h t=>cases t;exact⟨_,rfl,h⟩
def fB(h:ak K H vs [a,b]):∃x y,vs=[x,y]/\Rp K H x a/\Rp K H y b:=by
 cases h with
 |cons h t=>obtain⟨y,rfl,h2⟩:=cI t;exact⟨_,_,rfl,h,h2⟩
def bw.or(h:bw X f r)(k:bw X f s):bw X f λx y H Q=>r x y H Q\/s x y H Q:=λpins st U H x y v u Q I a b z=>z.elim (h pins st U H x y v u Q I a b) (k pins st U H x y v u Q I a b)
section
variable{X:Cx}{Ex:XK}{Y:QW}
def ko(ho:bw X (binaryOp op) r)(D:bU X.K f (r2 r))(S:aH X Ex Y [a,b] as):SE X Ex Y (.BinOp a op b pos) (aa f as):=eu (r:=r2 r) S (λU H Q h=>WE.of (JW ho bz bz) h) D
def JD(ho:Df X (unaryOp op) r)(D:bU X.K f (r1 r))(S:aH X Ex Y [a] as):SE X Ex Y (.UnaryOp op a pos) (aa f as):=eu (r:=r1 r) S (λU H Q h=>WE.of (IY ho bz) h) D
def Ge(ho:bw X (compareOp op) r)(hm:behindInMarks op b=false)(D:bU X.K f (r2 r))(S:aH X Ex Y [a,b] as):SE X Ex Y (.Compare a [op] [b] pos) (aa f as):=eu (r:=r2 r) S (λU H Q h=>WE.of (EM ho bz bz hm) h) D
def J8(ho:lO X r)(hs:ki b)(D:bU X.K f (r2 r))(S:aH X Ex Y [a,b] as):SE X Ex Y (.Subscript a b pos) (aa f as):=eu (r:=r2 r) S (λU H Q h=>WE.of (C6 ho bz bz hs) h) D
end
def k9(g:Int->Int->PyData):DR:=λds P=>match ds with
 |[.int a,.int b]=>P .sh (g a b)
 |_=>False
def sN(C:Int->Int->Prop)(g:Int->Int->PyData):DR:=λds P=>match ds with
 |[.int a,.int b]=>C a b/\P .sh (g a b)
 |_=>False
def qU{Z:Prop}{f:Int->Int->Prop}(h:match ds with|[PyData.int a,.int b]=>f a b|_=>False)(k:∀a b,ds=[.int a,.int b]->f a b->Z):Z:=by split at h;{exact k _ _ rfl h};exact h.elim
def kU{g:Int->Int->PyData}{gv:Int->Int->V}(hg:∀a b Hm,Rp K Hm (gv a b) (g a b)):bU K (k9 g) (r2 (lN gv)):=by intro H Hm vs ds P Q s r h q;refine qU h λa b e p=>?_;subst e;obtain⟨x,y,rfl,h1,h2⟩:=fB r;cases h1;cases h2;exact⟨a,b,rfl,rfl,aZ.sc q s p (hg a b Hm)⟩
def qB{g:Int->Int->PyData}{gv:Int->Int->V}(hg:∀a b Hm,Rp K Hm (gv a b) (g a b)):bU K (sN C g) (r2 (rI C gv)):=by intro H Hm vs ds P Q s r h q;refine qU h λa b e p=>?_;subst e;obtain⟨x,y,rfl,h1,h2⟩:=fB r;cases h1;cases h2;exact⟨a,b,rfl,rfl,p.1,aZ.sc q s p.2 (hg a b Hm)⟩
inductive z0(K:Frag) (x:V) (y:V)(H:Hp)(Q:VK):Prop
 |mk:∀l b xs zs,(x=.ref l)->(y=.ref b)->(bX K H l xs)->(bX K H b zs)->(xs.length+zs.length<=sizeLine)->(∀p,H p=none->Q (.ref p) (upd H p (.lst (xs++zs))))->z0 K x y H Q
def CN(K:Frag):R2:=λx y H Q=>z0 K x y H Q
section
variable{X:Cx}
def Eb:bw X (binaryOp .Add) (CN X.K):=by
 intro pins s U H x y v u Q I rx ry h;obtain⟨l,b,xs,zs,rfl,rfl,hH,hB,hz,q⟩:=h;cases rx;cases ry;obtain⟨z,its,n,r,e⟩:=hH.get I;obtain⟨z2,its2,n2,r2,e2⟩:=hB.get I;have hl:=r.length;have hl2:=r2.length;refine PySem.P.add_list e e2 ?_ (by rw[MK,MK];lia);have ea:its.toArray++its2.toArray=(its++its2).toArray:=by simp
 rw[ea];exact⟨.ref _,_,I.Ih (t':=s.toks) (r.append r2) (by rw[MV];lia),rfl,q _ I.fresh⟩
end
def Kz(f:PyData->Prop):QM->Prop
 |[x]=>f x
 |_=>False
def wJ(f:PyData->PyData->Prop):QM->Prop
 |[x,y]=>f x y
 |_=>False
def Kv(f:PyData->PyData->PyData->Prop):QM->Prop
 |[x,y,z]=>f x y z
 |_=>False
def uG(d:PyData)(f:Int->Prop):Prop:=match d with
 |.int i=>f i
 |_=>False
def mX(r:Rp K H x d)(h:uG d f):∃i,x=.int i/\f i:=by
 cases r with
 |int i=>exact⟨i,rfl,h⟩
 |_=>exact h.elim
def HC(r:ak K H vs ds)(h:Kz f ds):∃x d,vs=[x]/\ds=[d]/\Rp K H x d/\f d:=by
 cases r with
 |nil=>exact h.elim
 |cons h1 r=>
  cases r with
  |nil=>exact⟨_,_,rfl,rfl,h1,h⟩
  |cons=>exact h.elim
def l8(r:ak K H vs ds)(h:wJ f ds):∃x y d e,vs=[x,y]/\ds=[d,e]/\Rp K H x d/\Rp K H y e/\f d e:=by
 cases r with
 |nil=>exact h.elim
 |cons h1 r=>
  cases r with
  |nil=>exact h.elim
  |cons h2 r=>
   cases r with
   |nil=>exact⟨_,_,_,_,rfl,rfl,h1,h2,h⟩
   |cons=>exact h.elim
def Hl(r:ak K H vs ds)(h:Kv f ds):∃x y z d e d',vs=[x,y,z]/\ds=[d,e,d']/\Rp K H x d/\Rp K H y e/\Rp K H z d'/\f d e d':=by
 cases r with
 |nil=>exact h.elim
 |cons h1 r=>
  cases r with
  |nil=>exact h.elim
  |cons h2 r=>
   cases r with
   |nil=>exact h.elim
   |cons h3 r=>
    cases r with
    |nil=>exact⟨_,_,_,_,_,_,rfl,rfl,h1,h2,h3,h⟩
    |cons=>exact h.elim
def fE:DR:=λds P=>wJ (λx y=>match x,y with
 |.int a,.int b=>P .sh (.int (a+b))
 |.list a,.list b=>a.length+b.length<=sizeLine/\P (.ow false) (.list (a++b))
 |.tuple a,.tuple b=>(a≠[]/\a.length+b.length<=sizeLine)/\P .sh (.tuple (a++b))
 |.str a,.str b=>a.length+b.length<=sizeLine/\P .sh (.str (a++b))
 |_,_=>False) ds
def CP(K:Frag):R2:=λx y H Q=>(((lN λi j=>.int (i+j)) x y H Q\/CN K x y H Q)\/DJ K x y H Q)\/∃i j,x=.str i/\y=.str j/\i.length+j.length<=sizeLine/\Q (.str (i++j)) H
def Ff:bw X (binaryOp .Add) (CP X.K):=((HK.or Eb).or D9).or xm
def Ej:bU K fE (r2 (CP K)):=by
 intro H Hm vs ds P Q s r h q;obtain⟨x,y,d,e,rfl,rfl,h1,h2,h⟩:=l8 r h;cases h1 with
 |int a=>
  cases h2 with
  |int b=>exact .inl (.inl (.inl ⟨_,_,rfl,rfl,aZ.sc q s h (.int _)⟩))
  |_=>exact h.elim
 |lst a1 r1=>
  cases h2 with
  |lst a2 r2=>exact .inl (.inl (.inr ⟨_,_,_,_,rfl,rfl,bX.mono s a1,bX.mono s a2,by rw[r1.len,r2.len];exact h.1,λp hp=>aZ.nl q s h.2 hp (r1.app r2)⟩))
  |_=>exact h.elim
 |@tup a xs ds1 a1 r1=>
  cases h2 with
  |@tup b ys ds2 a2 r2=>refine .inl (.inr ⟨_,_,_,_,rfl,rfl,bG.of (s _ _ a1),bG.of (s _ _ a2),λz=>h.1.1 ?_,by rw[r1.len,r2.len];exact h.1.2,λz=>?_,λ_ p hp=>aZ.nt q s h.2 hp (r1.app r2)⟩);{subst z;cases r1;rfl};subst z;cases r2;have h:P .sh (.tuple (ds1++[])):=h.2;rw[NI]at h;exact aZ.sc q s h (.tup a1 r1)
  |_=>exact h.elim
 |str a=>
  cases h2 with
  |str b=>exact .inr ⟨_,_,rfl,rfl,h.1,aZ.sc q s h.2 (.str _)⟩
  |_=>exact h.elim
 |_=>exact h.elim
inductive zA(K:Frag) (x:V) (y:V)(H:Hp)(Q:VK):Prop
 |mk:∀l k xs,(x=.ref l)->(y=.int k)->(bX K H l xs)->(-(2^63)<=k)->(k<2^63)->(xs.length*k.toNat<=sizeLine)->(∀p,H p=none->Q (.ref p) (upd H p (.lst (List.replicate k.toNat xs).flatten)))->zA K x y H Q
def CD(K:Frag):R2:=λx y H Q=>zA K x y H Q
section
variable{X:Cx}
open PyProof.Rows in
def FA:bw X (binaryOp .Mult) (CD X.K):=by
 intro pins s U H x y v u Q I rx ry h;obtain⟨l,k,xs,rfl,rfl,hH,h1,h2,hz,q⟩:=h;cases rx;obtain⟨t,rfl⟩:=ry;obtain⟨z,its,n,r,e⟩:=hH.get I;have hl:=r.length;have hlen:its.toArray.size*k.toNat<=sizeLine:=by rw[MK,<-hl];exact hz
 have hcap:¬its.toArray.size*k.toNat>(2^63-1)/8:=by
  have:(sizeLine:Nat)<=(2^63-1)/8:=by decide
  lia
 have hfit:¬(!Builtin.List.listFitsIndex k)=true:=by rw[fitsIndex_both h1 h2];exact MJ
 have hlong:¬Builtin.List.listTooLong (its.toArray.size*k.toNat)=true:=by rw[tX hlen];exact MJ
 have hnew:List.foldl (λx1 x2=>x1++x2) #[] (List.replicate (if its.toArray.isEmpty=true then 0 else k.toNat) its.toArray)=(List.replicate k.toNat its).flatten.toArray:=by
  have f0:∀m:Nat,List.foldl (λx1 x2=>x1++x2) #[] (List.replicate m its.toArray)=(List.replicate m its).flatten.toArray:=λm=>by have:=foldl_rep its m [];rw[List.nil_append]at this;exact this
  rw[f0];cases its with
  |nil=>simp
  |cons a r'=>rw[if_neg (by simp)]
 refine wpAny_binaryOp_repeat_ref (T:="list") (U:="int") (by decide) ⟨_,e,rfl⟩ (λs'=>typeIs_int s' k t) noFill_list_mul F.fills_int_mul F.slot_int_rmul repeat_list F.slot_int_index.lookup
  (Nm F.slot_int_rmul (typeIs_int s k t) F.entry_int_rmul (F.args_int_rmul_2 _ _) (int___rmul___int_list k t l its.toArray n)
   ⟨e,rfl,⟨_,e,rfl⟩,Nm F.slot_list_mul ⟨_,e,rfl⟩ F.entry_list_mul (F.args_list_mul_2 _ _) (AutoListH.list___mul___list_int_3 l its.toArray n k t hfit hcap hlong) ⟨e,?_⟩⟩)
 rw[hnew];exact⟨.ref _,_,I.Ih (t':=s.toks) (r.rep k.toNat) (by rw[len_rep,Nat.mul_comm];exact hz),rfl,q _ I.fresh⟩
end
theorem ak.rep(r:ak K H xs ds):∀n:Nat,ak K H (List.replicate n xs).flatten (List.replicate n ds).flatten
 |0=>.nil
 |n+1=>by rw[Nl,Nl,Ny,Ny];exact r.app (r.rep n)
def iJ:DR:=λds P=>match ds with
 |[.int a,.int b]=>iC a b/\P .sh (.int (a*b))
 |[.list a,.int k]=>(-(2^63)<=k/\k<2^63/\a.length*k.toNat<=sizeLine)/\P (.ow false) (.list (List.replicate k.toNat a).flatten)
 |_=>False
def C0(K:Frag):R2:=λx y H Q=>(rI iC λi j=>.int (i*j)) x y H Q\/CD K x y H Q
def Ef:bw X (binaryOp .Mult) (C0 X.K):=HW.or FA
def Ep:bU K iJ (r2 (C0 K)):=by
 intro H Hm vs ds P Q s r h q;unfold iJ at h;split at h;{obtain⟨x,y,rfl,h1,h2⟩:=fB r;cases h1;cases h2;exact .inl ⟨_,_,rfl,rfl,h.1,aZ.sc q s h.2 (.int _)⟩}
 .obtain⟨x,y,rfl,h1,h2⟩:=fB r;cases h2;cases h1 with
  |lst a1 r1=>exact .inr ⟨_,_,_,rfl,rfl,bX.mono s a1,h.1.1,h.1.2.1,by rw[r1.len];exact h.1.2.2,λp hp=>aZ.nl q s h.2 hp (r1.rep _)⟩
 exact h.elim
end Dv
namespace L2
open PySem PySem.Spec PyProof.Rows
section
variable{prog:Program}{w:World}{A:Around}{E:QC}{s:Shared}
def sC{t sl:Addr}{items:QL}{vl vu:Value}{lo hi:Option Int}{Q:QC}(ht:IsTup s.heap t items)(hs:s.heap.IsSliceOf sl vl vu .none)(pl:IsPart vl lo)(pu:IsPart vu hi)(w0:HT.aD items.size 0 lo=0)(w1:HT.aD items.size items.size hi=items.size)(h:Q (.ref t) s):wpAny (model prog w) A (getItem (.ref t) (.ref sl)) Q E s:=by
 obtain⟨os,hos,hcs,hds⟩:=id hs;have hTs:s.TypeIs (.ref sl) "slice":=⟨os,hos,hcs⟩;unfold getItem;refine Mx (?_:_);refine M1 (wpAny_sequenceKey ht.typeIs (by decide) (?_:_));refine M1 (wpAny_callSpecial?_slot (name:=Str.ofString "__getitem__") ht.typeIs Oo
  (Oq Oo ht.typeIs entry_tuple_getitem (?_:_) (args_tuple_getitem _ _)))
 refine id (?_:wpAny _ _ (Builtin.Tuple.tupleItemsOf (.ref t)>>=_) _ _ s);refine M1 (tupleItemsOf_ ht (?_:_));refine M1 (OR hTs (?_:_));rw[if_pos (by decide)];refine M1 (HT.jl hs pl pu (?_:_));have yes:(((HT.aD items.size 0 lo:Nat):Int)==0&&(1:Int)==1&&(HT.aD items.size items.size hi-HT.aD items.size 0 lo)==items.size)=true:=by rw[w0,w1,Nat.sub_zero];simp
 refine id (?_:wpAny _ _ (if(((HT.aD items.size 0 lo:Nat):Int)==0&&(1:Int)==1&&(HT.aD items.size items.size hi-HT.aD items.size 0 lo)==items.size)=true then _ else _) _ _ s);rw[if_pos yes];refine M1 (m:=Builtin.Tuple.tupleIsExact _) (M1 (OR ht.typeIs (M8 (?_:_))));rw[if_pos (by decide)];refine M1 (Ml (?_:_));exact M8 ⟨_,rfl,M8 h⟩
end
section
variable{X:Cx}
def DO(K:QJ):V->Option Int->Option Int->Hp->VK->Prop:=λx lo hi H Q=>∃a xs,x=.ref a/\bG K H a xs /\
 (HT.aD xs.length 0 lo=0/\HT.aD xs.length xs.length hi=xs.length->Q (.ref a) H)/\(¬(HT.aD xs.length 0 lo=0/\HT.aD xs.length xs.length hi=xs.length)->∀p,H p=none->Q (.ref p) (upd H p (.tup (kI xs lo hi))))
def EE:ze X (DO X.K):=by
 intro pins s U H x v vl vu lo hi sl Q I rx hs pl pu h;obtain⟨a,xs,rfl,hx,q1,q2⟩:=h;by_cases c:HT.aD xs.length 0 lo=0/\HT.aD xs.length xs.length hi=xs.length
 .cases rx;obtain⟨its,r,ht,hz⟩:=I.tuple hx;have hlen:its.toArray.size=xs.length:=by rw[MK];exact r.length.symm
  refine⟨"tuple",_,Q6,ht.typeIs,?_⟩;exact sC ht hs pl pu (by rw[hlen];exact c.1) (by rw[hlen];exact c.2) ⟨.ref a,H,I,rfl,q1 c⟩
 exact Hz pins s U H (.ref a) v vl vu lo hi sl Q I rx hs pl pu ⟨a,xs,rfl,hx,c,q2 c⟩
end
end L2
namespace Dv
open PySem L2 PySem.W
def dl:Nat->PyData->Bool
 |_,.none=>true
 |_,.int _=>true
 |_,.str x=>PyData.strOk x
 |n+1,.list ds=>ds.all (dl n)
 |n+1,.tuple ds=>ds.all (dl n)
 |_,_=>false
theorem kj:∀{ds:QM},(∀d∈ds,d.canLay0=true)->PyData.canLayAll0 ds=true
 |[],_=>rfl
 |d::ds,h=>by rw[PyData.canLayAll0,h d M7,kj λe he=>h e (MC _ he)];rfl
theorem mG{n:Nat}:∀{ds:QM},(∀d∈ds,d.depth<=n)->PyData.depthAll ds<=n
 |[],_=>by rw[PyData.depthAll];exact Mq _
 |d::ds,h=>by rw[PyData.depthAll];exact Nat.max_le.mpr ⟨h d M7,mG λe he=>h e (MC _ he)⟩
theorem gB:∀{n:Nat}{d:PyData},dl n d=true->d.canLay0=true/\d.depth<=n
 |_,.none,_=>⟨rfl,Mq _⟩
 |_,.int _,_=>⟨rfl,Mq _⟩
 |n,.str x,h=>⟨by cases n<;>exact h,Mq _⟩
 |n+1,.list ds,h=>by have h:ds.all (dl n)=true:=h;rw[MI]at h;refine⟨by rw[PyData.canLay0];exact kj λd hd=>(gB (h d hd)).1,?_⟩;rw[PyData.depth];have:=mG (n:=n) (ds:=ds) λd hd=>(gB (h d hd)).2;lia
 |n+1,.tuple ds,h=>by have h:ds.all (dl n)=true:=h;rw[MI]at h;refine⟨by rw[PyData.canLay0];exact kj λd hd=>(gB (h d hd)).1,?_⟩;rw[PyData.depth];have:=mG (n:=n) (ds:=ds) λd hd=>(gB (h d hd)).2;lia
 |0,.list _,h=>by cases h
 |0,.tuple _,h=>by cases h
 |n,.bool _,h=>by cases n<;>cases h
 |n,.dict _,h=>by cases n<;>cases h
theorem mP:∀{ds:QM},(∀d∈ds,nd d=true)->nd.nds ds=true
 |[],_=>rfl
 |d::ds,h=>by rw[nd.nds,h d M7,mP λe he=>h e (MC _ he)];rfl
theorem jL:∀{n:Nat}{d:PyData},dl n d=true->nd d=true
 |_,.none,_=>rfl
 |_,.int _,_=>rfl
 |_,.str _,_=>rfl
 |_,.bool _,_=>rfl
 |n+1,.list ds,h=>by have h:ds.all (dl n)=true:=h;rw[MI]at h;rw[nd];exact mP λd hd=>jL (h d hd)
 |n+1,.tuple ds,h=>by have h:ds.all (dl n)=true:=h;rw[MI]at h;rw[nd];exact mP λd hd=>jL (h d hd)
 |0,.list _,h=>by cases h
 |0,.tuple _,h=>by cases h
 |n,.dict _,h=>by cases n<;>cases h
theorem mO(hf:∀a b,f a=true->f b=true->SeqAt.noMix a b=true):∀{xs ys:QM},xs.all f=true->ys.all f=true->SeqAt.noMixAll xs ys=true
 |[],[],_,_=>rfl
 |[],_::_,_,_=>rfl
 |_::_,[],_,_=>rfl
 |x::xs,y::ys,h1,h2=>by rw[MG,MA]at h1 h2;rw[SeqAt.noMixAll,hf x y h1.1 h2.1,mO hf h1.2 h2.2];rfl
def yZ:∀(n:Nat)(a b:PyData),dl n a=true->dl n b=true->SeqAt.noMix a b=true:=by
 intro n;induction n with
 |zero=>intro a b ha hb;cases a<;>first|(cases ha;done)|(cases b<;>first|(cases hb;done)|rfl)
 |succ n ih=>
  intro a b ha hb;cases a with
  |list xs=>
   cases b with
   |list ys=>rw[SeqAt.noMix];exact mO ih ha hb
   |dict _=>cases hb
   |bool _=>cases hb
   |_=>rfl
  |tuple xs=>
   cases b with
   |tuple ys=>rw[SeqAt.noMix];exact mO ih ha hb
   |dict _=>cases hb
   |bool _=>cases hb
   |_=>rfl
  |dict _=>cases ha
  |bool _=>cases ha
  |_=>cases b<;>first|(cases hb;done)|rfl
def zS{n:Nat}(ha:dl n a=true)(hb:dl n b=true):PyData.eqv a b=decide (a=b):=by rw[<-SeqAt.same_eq_eqv a b (yZ n a b ha hb),NV,PyProof.Rows.same_iff,ND]
def rL{n:Nat}(h:dl n d=true)(l:n<=60):SeqAt.shaped d=true:=by obtain⟨h1,h2⟩:=gB h;unfold SeqAt.shaped;rw[h1,Nn (MZ h2 (by lia))];rfl
def Cv(a b:PyData)(P:Bool->Prop):Prop:=match a,b with
 |.int a,.int b=>P (decide (a=b))
 |.str a,.str b=>P (decide (a=b))
 |.bool a,.bool b=>P (decide (a=b))
 |.none,.none=>P true
 |a,b=>(dl 8 a=true/\dl 8 b=true)/\P (decide (a=b))
def l7:DR:=λds P=>match ds with
 |[a,b]=>Cv a b λc=>P .sh (.bool c)
 |_=>False
def lI:DR:=λds P=>match ds with
 |[a,b]=>Cv a b λc=>P .sh (.bool !c)
 |_=>False
def oN(K:Frag)(neg:Bool):R2:=λx y H Q=>Cp K neg x y H Q\/(if neg then Ky x y H Q else KG x y H Q)
section
variable{X:Cx}
def Aq(hu:X.A.units+64<cLine):bw X (compareOp .Eq) (oN X.K false):=(GJ hu).or (Jg (X:=X))
def HN(hu:X.A.units+64<cLine):bw X (compareOp .NotEq) (oN X.K true):=(FZ hu).or (JP (X:=X))
end
def AE(neg:Bool)(s:af Hm H)(h1:Rp K Hm x a)(h2:Rp K Hm y b)(h:Cv a b Pb)(q:∀c,Pb c->Q (.bl (if neg then !c else c)) H):oN K neg x y H Q:=by
 have gen:dl 8 a=true/\dl 8 b=true->Pb (decide (a=b))->oN K neg x y H Q:=λhd p=>by
  refine .inl ⟨a,b,(h1.mono s).l6 (jL hd.1),(h2.mono s).l6 (jL hd.2),rL hd.1 (by decide),rL hd.2 (by decide),yZ 8 a b hd.1 hd.2,?_⟩;have e:Spec.same a b=decide (a=b):=by rw[NV,PyProof.Rows.same_iff,ND]
  rw[e];exact q _ p
 have sc:A1 x y=true->Pb (decide (x=y))->oN K neg x y H Q:=λhs p=>by
  refine .inr ?_;cases neg with
  |true=>exact⟨hs,q _ p⟩
  |false=>exact⟨hs,q _ p⟩
 unfold Cv at h;split at h;{cases h1;cases h2;refine sc rfl ?_;simpa using h};{cases h1;cases h2;refine sc rfl ?_;simpa using h};{cases h1;cases h2;refine sc rfl ?_;simpa using h};{cases h1;cases h2;exact gen ⟨rfl,rfl⟩ (by simpa using h)};exact gen h.1 h.2
def AH:bU K l7 (r2 (oN K false)):=by intro H Hm vs ds P Q s r h q;unfold l7 at h;split at h;{obtain⟨x,y,rfl,h1,h2⟩:=fB r;exact AE false s h1 h2 h λc p=>aZ.sc q s p (.bl _)};exact h.elim
def Ia:bU K lI (r2 (oN K true)):=by intro H Hm vs ds P Q s r h q;unfold lI at h;split at h;{obtain⟨x,y,rfl,h1,h2⟩:=fB r;exact AE true s h1 h2 h λc p=>aZ.sc q s p (.bl _)};exact h.elim
def dQ(neg:Bool):DR:=λds P=>match ds with
 |[a,.none]=>P .sh (.bool (if neg then !decide (a=.none)else decide (a=.none)))
 |_=>False
def Fp(h:Rp K H x d):decide (x=.aN)=decide (d=.none):=by cases h<;>simp
def A4:bU K (dQ true) (r2 λx y H Q=>y=.aN/\Q (.bl (!decide (x=.aN))) H):=by intro H Hm vs ds P Q s r h q;unfold dQ at h;split at h;{obtain⟨x,y,rfl,h1,h2⟩:=fB r;cases h2;refine⟨rfl,?_⟩;rw[Fp h1];exact aZ.sc q s h (.bl _)};exact h.elim
def Ds(neg:Bool):DR:=λds P=>match ds with
 |[d,.list xs]=>(xs.all (dl 8)=true/\dl 8 d=true)/\P .sh (.bool (if neg then !decide (d∈xs)else decide (d∈xs)))
 |[d,.tuple xs]=>(xs.all (dl 8)=true/\dl 8 d=true)/\P .sh (.bool (if neg then !decide (d∈xs)else decide (d∈xs)))
 |_=>False
inductive Cu(K:Frag)(neg:Bool) (x:V) (y:V)(H:Hp)(Q:VK):Prop
 |mk:∀(d:PyData)(xs:QM),(jJ K H x d)->((jJ K H y (.list xs)\/jJ K H y (.tuple xs)))->(PyData.canLayAll0 xs=true)->(d.canLay0=true)->(d.depth<=60)->(Q (.bl (if neg then !xs.any λy=>PyData.eqv y d else xs.any λy=>PyData.eqv y d)) H)->Cu K neg x y H Q
def xx(K:Frag)(neg:Bool):R2:=λx y H Q=>Cu K neg x y H Q
section
variable{X:Cx}
def HS(hu:X.A.units+64<cLine):bw X (compareOp .In) (xx X.K false):=by intro pins s U H x y v u Q I rx ry h;obtain⟨d,xs,hx,hy,l1,l2,dp,q⟩:=h;obtain⟨bs,rb⟩:=I.reads hx rx;rcases hy with hy|hy;{obtain⟨as,ra⟩:=I.reads hy ry;exact SeqAt.in_list_reads ra rb l1 l2 (by lia) ⟨.bl _,H,I,rfl,q⟩};obtain⟨as,ra⟩:=I.reads hy ry;exact SeqAt.in_tuple_reads ra rb l1 l2 (by lia) ⟨.bl _,H,I,rfl,q⟩
def zR(hu:X.A.units+64<cLine):bw X (compareOp .NotIn) (xx X.K true):=by intro pins s U H x y v u Q I rx ry h;obtain⟨d,xs,hx,hy,l1,l2,dp,q⟩:=h;obtain⟨bs,rb⟩:=I.reads hx rx;rcases hy with hy|hy;{obtain⟨as,ra⟩:=I.reads hy ry;exact SeqAt.notIn_list_reads ra rb l1 l2 (by lia) ⟨.bl _,H,I,rfl,q⟩};obtain⟨as,ra⟩:=I.reads hy ry;exact SeqAt.notIn_tuple_reads ra rb l1 l2 (by lia) ⟨.bl _,H,I,rfl,q⟩
end
def v9{n:Nat}{xs:QM}(h:xs.all (dl n)=true)(hd:dl n d=true):(xs.any λy=>PyData.eqv y d)=decide (d∈xs):=by rw[NV,List.any_eq_true,ND];rw[MI]at h;constructor;{rintro⟨y,hy,e⟩;rw[zS (h y hy) hd,ND]at e;exact e▸hy};intro m;exact⟨d,m,by rw[zS hd hd];simp⟩
def FU{K:Frag}(neg:Bool):bU K (Ds neg) (r2 (xx K neg)):=by intro H Hm vs ds P Q s r h q;unfold Ds at h;split at h;{rename_i d xs;obtain⟨x,y,rfl,h1,h2⟩:=fB r;obtain⟨⟨ha,hd⟩,p⟩:=h;refine⟨d,xs,(h1.mono s).l6 (jL hd),.inl ((h2.mono s).l6 (by rw[nd];exact mP λd hd=>jL (MI.mp ha d hd))),kj λe he=>(gB (MI.mp ha e he)).1,(gB hd).1,MZ (gB hd).2 (by decide),?_⟩;rw[v9 ha hd];exact aZ.sc q s p (.bl _)};{rename_i d xs;obtain⟨x,y,rfl,h1,h2⟩:=fB r;obtain⟨⟨ha,hd⟩,p⟩:=h;refine⟨d,xs,(h1.mono s).l6 (jL hd),.inr ((h2.mono s).l6 (by rw[nd];exact mP λd hd=>jL (MI.mp ha d hd))),kj λe he=>(gB (MI.mp ha e he)).1,(gB hd).1,MZ (gB hd).2 (by decide),?_⟩;rw[v9 ha hd];exact aZ.sc q s p (.bl _)};exact h.elim
def CI:DR:=λds P=>match ds with
 |[.list xs,.int i]=>∃d,c8 xs i=some d/\P .sh d
 |[.tuple xs,.int i]=>∃d,c8 xs i=some d/\P .sh d
 |_=>False
theorem ak.c8(r:ak K H vs ds){i:Int}(h:L2.c8 ds i=some d):∃v,L2.c8 vs i=some v/\Rp K H v d:=by
 unfold L2.c8 at h⊢;rw[r.len];cases e:lK ds.length i with
 |none=>rw[e]at h;cases h
 |some j=>rw[e]at h;exact r.get h
def G9:bU K CI (r2 (G4 K)):=by
 intro H Hm vs ds P Q s r h q;unfold CI at h;split at h
 .obtain⟨x,y,rfl,h1,h2⟩:=fB r;obtain⟨d,e,p⟩:=h;cases h2;cases h1 with
  |lst a1 r1=>obtain⟨v,e2,rv⟩:=r1.c8 e;exact .inl ⟨_,_,_,v,rfl,rfl,(bX.mono s a1).sq,e2,aZ.sc q s p rv⟩
 .obtain⟨x,y,rfl,h1,h2⟩:=fB r;obtain⟨d,e,p⟩:=h;cases h2;cases h1 with
  |tup a1 r1=>obtain⟨v,e2,rv⟩:=r1.c8 e;exact .inr (.inl ⟨_,_,_,v,rfl,rfl,bG.of (s _ _ a1),e2,aZ.sc q s p rv⟩)
 exact h.elim
def cutD(xs:QM)(lo hi:Option Int):QM:=(xs.drop (HT.aD xs.length 0 lo)).take (HT.aD xs.length xs.length hi-HT.aD xs.length 0 lo)
def ak.cut(r:ak K H vs ds)(lo hi:Option Int):ak K H (kI vs lo hi) (cutD ds lo hi):=by unfold kI cutD;rw[r.len];exact(r.drop _).take _
def Av(d:PyData)(lo hi:Option Int)(P:Qd):Prop:=match d with
 |.list xs=>P (.ow false) (.list (cutD xs lo hi))
 |.tuple xs=>P .sh (.tuple (cutD xs lo hi))
 |_=>False
def nS(bl bh:Bool):DR:=λds P=>match bl,bh with
 |false,false=>Kz (λd=>Av d none none P) ds
 |true,false=>wJ (λd e=>uG e λa=>Av d (some a) none P) ds
 |false,true=>wJ (λd e=>uG e λb=>Av d none (some b) P) ds
 |true,true=>Kv (λd e e'=>uG e λa=>uG e' λb=>Av d (some a) (some b) P) ds
def qG(K:Frag):V->Option Int->Option Int->Hp->VK->Prop:=λx lo hi H Q=>Hw K x lo hi H Q\/DO K x lo hi H Q
def II:ze X (qG X.K):=λpins s U H x v vl vu lo hi sl Q I rx hs pl pu h=>h.elim (EW pins s U H x v vl vu lo hi sl Q I rx hs pl pu) (EE pins s U H x v vl vu lo hi sl Q I rx hs pl pu)
def C9(bl bh:Bool)(K:Frag):List V->Hp->VK->Prop:=λvs H Q=>match bl,bh,vs with
 |false,false,[x]=>qG K x none none H Q
 |true,false,[x,a]=>∃i,a=.int i/\qG K x (some i) none H Q
 |false,true,[x,b]=>∃i,b=.int i/\qG K x none (some i) H Q
 |true,true,[x,a,b]=>∃i,a=.int i/\∃j,b=.int j/\qG K x (some i) (some j) H Q
 |_,_,_=>False
def yw(h:HT.aD xs.length 0 lo=0/\HT.aD xs.length xs.length hi=xs.length):cutD xs lo hi=xs:=by unfold cutD;rw[h.1,h.2,OV,Nat.sub_zero,NT]
def qj(q:aZ K H Hm P Q)(s:af Hm H)(h1:Rp K Hm x d)(h:Av d lo hi P):qG K x lo hi H Q:=by
 cases h1 with
 |lst a1 r1=>exact .inl ⟨_,_,rfl,(bX.mono s a1).sq,λp hp=>aZ.nl q s h hp (r1.cut lo hi)⟩
 |tup a1 r1=>refine .inr ⟨_,_,rfl,bG.of (s _ _ a1),λw=>?_,λ_ p hp=>aZ.nt q s h hp (r1.cut lo hi)⟩;rw[r1.len]at w;have h:P .sh (.tuple (cutD _ lo hi)):=h;rw[yw w]at h;exact aZ.sc q s h (.tup a1 r1)
 |_=>exact h.elim
def Az(bl bh:Bool):bU K (nS bl bh) (C9 bl bh K):=by
 intro H Hm vs ds P Q s r h q;cases bl with
 |false=>
  cases bh with
  |false=>obtain⟨x,d,rfl,rfl,h1,h⟩:=HC r h;exact qj q s h1 h
  |true=>obtain⟨x,y,d,e,rfl,rfl,h1,h2,h⟩:=l8 r h;obtain⟨i,rfl,h⟩:=mX h2 h;exact⟨_,rfl,qj q s h1 h⟩
 |true=>
  cases bh with
  |false=>obtain⟨x,y,d,e,rfl,rfl,h1,h2,h⟩:=l8 r h;obtain⟨i,rfl,h⟩:=mX h2 h;exact⟨_,rfl,qj q s h1 h⟩
  |true=>obtain⟨x,y,z,d,e,e',rfl,rfl,h1,h2,h3,h⟩:=Hl r h;obtain⟨i,rfl,h⟩:=mX h2 h;obtain⟨j,rfl,h⟩:=mX h3 h;exact⟨_,rfl,_,rfl,qj q s h1 h⟩
section
variable{X:Cx}{Ex:XK}{Y:QW}{a l u:Expr}{pos p2:Pos}{as:List Arg}
def GB(S:aH X Ex Y [a,u] as):SE X Ex Y (.Subscript a (.Slice none (some u) none p2) pos) (aa (nS false true) as):=eu (r:=C9 false true X.K) S (λU H Q h=>WE.of (Cj II bz EH (Fw bz)) h) (Az _ _)
open PyProof.Rows in
def G8(h:rV X [a,l,u] U H λvs H1=>C9 true true X.K vs H1 Q):WE X (.Subscript a (.Slice (some l) (some u) none p2) pos) U H Q:=by intro pins s I;refine Subscript_ (aG (h pins s I) λv s1 ⟨x,H1,I1,r1,q1⟩=>?_);refine wpAny_Slice ?_;rw[evalPart_some];refine aG (q1 pins s1 I1) λvl s2 ⟨y,H2,I2,pl,q2⟩=>?_;rw[evalPart_some];refine aG (q2 pins s2 I2) λvu s3 ⟨z,H3,I3,pu,q3⟩=>?_;obtain⟨i,rfl,j,rfl,q3⟩:=q3;obtain⟨t1,rfl⟩:=pl;obtain⟨t2,rfl⟩:=pu;rw[evalPart_none];refine M8 ?_;have I4:Inv X pins U H3 { s3 with heap:=s3.heap.push { cls:=.type "slice",data:=.fields #[.int i t1,.int j t2,.none] } }:=I3.kept (t':=s3.toks) λb ob q=>ML _ q;obtain⟨T,id,hT,ht,hg⟩:=II pins { s3 with heap:=s3.heap.push { cls:=.type "slice",data:=.fields #[.int i t1,.int j t2,.none] } } U H3 x v (.int i t1) (.int j t2) (some i) (some j) s3.heap.objs.size Q I4 r1 (Heap.IsSliceOf.new ..) (.int i t1) (.int j t2) q3;show wpAny (model X.prog X.w) X.A (subscriptTail a (.Slice (some l) (some u) none p2) v (.ref s3.heap.objs.size)) (EP X pins U Q) X.xe { s3 with heap:=s3.heap.push { cls:=.type "slice",data:=.fields #[.int i t1,.int j t2,.none] } };exact tail_any (ops:=[.ref s3.heap.objs.size,v]) ht hT hg (by with_unfolding_all rfl)
def Hi(S:aH X Ex Y [a,l,u] as):SE X Ex Y (.Subscript a (.Slice (some l) (some u) none p2) pos) (aa (nS true true) as):=eu (r:=C9 true true X.K) S (λU H Q h=>G8 h) (Az _ _)
end
end Dv
namespace L2
open PySem PySem.Spec PyProof.Rows
section
variable{X:Cx}
def vz:bO X (.type "range") (λxs H Q=>∃j:Int,xs=[.int j]/\∀p,H p=none->Q (.ref p) (upd H p (.nR 0 j))):=by intro pins s U H xs us Q I r h;obtain⟨j,rfl,q⟩:=h;obtain⟨u,rfl,ru⟩:=vals1 r;obtain⟨t,rfl⟩:=ru;refine call_range_1 (?_:_);exact⟨.ref s.heap.objs.size,_,I.laid (o:=.nR 0 j) (λb o e=>ML _ e) (M5 _) ⟨_,_,_,Mn _ rfl⟩,rfl,q _ (I.hok.fresh (M5 _))⟩
def xU(hc:X.calm=true):bO X (.type "list") (λxs H Q=>∃(a:Addr) (j:Int),xs=[.ref a]/\H a=some (.nR 0 j)/\0<=j/\j<=1000/\∀l,H l=none->Q (.ref l) (upd H l (.lst (((List.range j.toNat).map λi:Nat=>(i:Int)).map V.int)))):=by
 intro pins s U H xs us Q I r h;obtain⟨a,j,rfl,ha,j0,j1,q⟩:=h;obtain⟨u,rfl,ru⟩:=vals1 r;cases ru;obtain⟨t,u,v,e⟩:=I.hok a _ ha;refine call_list_range (n:=j.toNat) (I.ok.hd hc) e (small_one (by decide) (by decide) (by lia) (by lia)) (by rw[rangeSize_one];split<;>lia) (by lia) λh' tk acc c kp hS its=>?_;obtain⟨z1,z2⟩:=its;have rv:Vals (((List.range j.toNat).map λi:Nat=>(i:Int)).map V.int) acc.toList:=by
  have go:∀(l:QO) (k:Nat),(∀(i:Nat)(v:Value),l[i]?=some v->∃t:Tok,v=Value.int ((k+i:Nat):Int) t)->Vals (((List.range' k l.length).map λi:Nat=>(i:Int)).map V.int) l:=λl=>by
   induction l with
   |nil=>exact λk _=>.nil
   |cons x l ih=>intro k h;obtain⟨t,e⟩:=h 0 x rfl;refine .cons ⟨t,by simpa using e⟩ (ih (k+1) λi v hv=>?_);obtain⟨t,e⟩:=h (i+1) v hv;exact⟨t,by rw[e,Nat.add_assoc,Nat.add_comm 1 i]⟩
  have:=go acc.toList 0 λi v hv=>by obtain⟨t,e⟩:=z2 i v (by simpa using hv);exact⟨t,by rw[e];simp⟩
  rw[List.range_eq_range'];simpa[z1]using this
 exact⟨.ref s.heap.objs.size,_,I.laid (t':=tk) kp (M5 _) (o:=.lst _) ⟨by rw[M9,M9,MT];exact MZ (show j.toNat<=1000 by lia) (by decide),acc.toList,c,rv,by simpa using hS⟩,rfl,q _ (I.hok.fresh (M5 _))⟩
end
end L2
namespace Dv
open PySem L2 PySem.W
section
variable{X:Cx}{Ex:XK}{Y:QW}
def BJ(h:PE X e (tC u))(r:∀Hm,Rp X.K Hm u v):SE X Ex Y e (dC v):=λg x E U H Hm F P Q hx R p q=>WE.of h (q _ _ _ _ _ _ _ [] p R (af.refl _) (Tm.sh (r Hm)))
def IP{i j:Nat}(h:PE X e (kW j))(hj:Y[j]?=some i):SE X Ex Y e (eg i):=by
 intro g x E U H Hm F P Q hx R p q;replace p:zG E i P:=p;unfold zG at p;split at p
 rotate_left
 .exact p.elim
 rename_i k d e1;rw[<-aR,wk]at p;obtain⟨E',e2,p⟩:=p;obtain⟨v,Hm',F',h1,s,R',r⟩:=R.cG e1 e2;exact WE.of h ⟨v,b6 hj h1,q _ _ _ _ _ _ _ [] p R' s (Tm.sh r)⟩
def bP(X:Cx)(Ex:XK)(Y:QW)(e:Expr)(d:DE):Prop:=
 ∀(g:Gh)(x:XC)(E:En)(U:St)(H Hm:Hp)(F:Nat->QS)(P:QZ)(Q:Bool->Hp->Prop),XL X Ex x g->Rl X.K g E U H Hm F->d x E P->
  (∀E' k v H' Hm' F',P E' k v->Rl X.K g E' U H' Hm' F'->af Hm Hm'->∃b,jF v=some b/\Q b H')->WT X e (sel Y U) H Q
def bP.st{e:Expr}{d:DE}(h:bP X Ex Y e d):ST X Ex Y e (cF d):=by rw[Em];exact λg x E U H Hm F P Q hx R p q=>h g x E U H Hm F _ Q hx R p λE' k v H' Hm' F' ⟨b,e1,p⟩ R' s=>⟨b,e1,q _ _ _ _ _ p R' s⟩
theorem Rp.jF{b:Bool}(r:Rp K H u v)(h:Dv.jF v=some b):qH K u H b:=by
 cases r with
 |aN=>cases h;rfl
 |bl c=>cases h;rfl
 |int i=>cases h;show(!decide (i=0))=(i != 0);rw[bne,Bool.beq_eq_decide_eq]
 |str _=>cases h
 |lst a r1=>cases h;refine .inl ⟨_,a.sq,?_⟩;cases r1<;>rfl
 |tup a r1=>cases h;refine .inr (.inl ⟨_,bG.of a,?_⟩);cases r1<;>rfl
 |dk _ _=>cases h
 |dt _ _=>cases h
 |exc _ _=>cases h
theorem Own.jF{b:Bool}(o:Own K H Hm k u v fp)(s:af Hm H)(h:Dv.jF v=some b):qH K u H b:=by by_cases hk:k.rd=true;{exact(o.rp (Hm':=H) hk s λ_ _=>rfl).jF h};cases o<;>first|exact absurd rfl hk|cases h
def SE.rS(h:SE X Ex Y e d)(he:∀whole,isTrue e X.env whole=(do let v <-whole;standAt e.pos;holding [v] (truthy v))):bP X Ex Y e d:=by intro g x E U H Hm F P Q hx R p q;refine WT.of (uF bz he) (h g x E U H Hm F P _ hx R p λE' k v u H' Hm' F' fp p' R' s T=>?_);obtain⟨b,e1,q'⟩:=q _ _ _ _ _ _ p' R' s;exact⟨b,T.own.jF R'.sub e1,q'⟩
def GI(ho:bw X (compareOp op) r)(hm:behindInMarks op b=false)(h:rV X [a,b] U H λvs H1=>r2 r vs H1 λx H'=>∃k,qH X.K x H' k/\Q k H'):WT X (.Compare a [op] [b] pos) U H Q:=by intro pins s I;refine wpAny_isTrue_Compare1 (aG (h pins s I) λv s1 ⟨x,H1,I1,r1,q1⟩=>aG (q1 pins s1 I1) λu s2 ⟨y,H2,I2,r2,q2⟩=>aG (ho pins s2 U H2 x y v u _ I2 r1 r2 q2) λc s3 ⟨z,H3,I3,r3,q3⟩=>?_) hm;exact yV pins s3 U H3 z c Q I3 r3 q3
def G5(S:aH X Ex Y es as)(hr:∀U H (Q:Bool->Hp->Prop),rV X es U H (λvs H1=>r vs H1 λx H'=>∃k,qH X.K x H' k/\Q k H')->WT X e U H Q)(D:bU X.K f r):bP X Ex Y e (aa f as):=by
 intro g x E U H Hm F P Q hx R h q;refine hr _ _ _ (jh hx S R h λE1 os vs H1 Hm1 F1 p R1 s1 G=>?_);replace p:ve f as E1 os P:=p;unfold ve at p;rw[<-aR,dS]at p;obtain⟨ds,hf,hg⟩:=p;have off:∀a∈(eX as).flatMap F1,Hm1 a=none:=λa ha=>by obtain⟨i,_,h⟩:=Mj.mp ha;exact R1.off i a h
 have up:=gG (Hm:=Hm1) (H:=H1) off;refine D H1 (lend Hm1 H1 ((eX as).flatMap F1)) vs ds _ _ (jw R1.sub) (mR R1 up G hf λi hi a ha=>d8 (Mj.mpr ⟨i,hi,ha⟩)) hg λk v u H' Hm2 fp p sH sM sS old o fr=>?_;replace p:aq (oR as E1 k v) _:=p;rw[<-aR,wg]at p;obtain⟨E2,ha,p⟩:=p;obtain⟨Hm',F',R',s',T⟩:=tZ R1 (is:=eX as) (t9 ha) sH sM sS old o fr;obtain⟨b,e1,q'⟩:=q _ _ _ _ _ _ p R' (s1.trans s');exact⟨b,o.jF sS e1,q'⟩
def ff(ho:bw X (compareOp op) r)(hm:behindInMarks op b=false)(D:bU X.K f (r2 r))(S:aH X Ex Y [a,b] as):bP X Ex Y (.Compare a [op] [b] pos) (aa f as):=G5 S (λU H Q h=>GI ho hm h) D
theorem Own.int{i:Int}(o:Own K H Hm k u (.int i) fp):u=.int i:=by
 cases o with
 |sh r=>cases r;rfl
def vQ(ha:bP X Ex Y a d):bP X Ex Y (.UnaryOp .Not a pos) (qL d):=by rw[FE];intro g x E U H Hm F P Q hx R p q;refine WT.of (zp g8) (ha g x E U H Hm F _ _ hx R p λE1 k v H1 Hm1 F1 p1 R1 s1=>?_);obtain⟨c,hc,p1⟩:=p1;obtain⟨b,e1,q'⟩:=q _ _ _ _ _ _ p1 R1 s1;refine⟨c,hc,?_⟩;cases e1;exact q'
def WW(X:Cx)(e:Expr):TT:=λU H Q=>∀(whole:Sem Value)(pins:QF)(s:Shared),Inv X pins U H s->wpAny (model X.prog X.w) X.A (isTrue e X.env whole) (TP X pins U Q) X.xe s
def pw_ww:PW X e (WW X e):=λwh pins s _ _ _ I h=>h wh pins s I
def WW.of(h:PW X e t)(q:t U H Q):WW X e U H Q:=λwh pins s I=>h wh pins s U H Q I q
def kr(X:Cx)(Ex:XK)(Y:QW)(e:Expr)(d:DE):Prop:=
 ∀(g:Gh)(x:XC)(E:En)(U:St)(H Hm:Hp)(F:Nat->QS)(P:QZ)(Q:Bool->Hp->Prop),XL X Ex x g->Rl X.K g E U H Hm F->d x E P->
  (∀E' k v H' Hm' F',P E' k v->Rl X.K g E' U H' Hm' F'->af Hm Hm'->∃b,jF v=some b/\Q b H')->WW X e (sel Y U) H Q
def kr.rS(h:kr X Ex Y e d):bP X Ex Y e d:=λg x E U H Hm F P Q hx R p q=>WT.of (PW.pt pw_ww) (h g x E U H Hm F P Q hx R p q)
def iY(h:bP X Ex Y a d):kr X Ex Y (.BoolOp op [a] pos) d:=λg x E U H Hm F P Q hx R p q=>by
 cases op with
 |And=>exact WW.of (pw_and1 g8) (h g x E U H Hm F P Q hx R p q)
 |Or=>exact WW.of (pw_or1 g8) (h g x E U H Hm F P Q hx R p q)
def qC{a b:Expr}{rest:QU}{pos:Pos}{d e:DE}(ha:bP X Ex Y a d)(hb:kr X Ex Y (.BoolOp .And (b::rest) pos) e):kr X Ex Y (.BoolOp .And (a::b::rest) pos) (nY d e):=by
 rw[Eg];intro g x E U H Hm F P Q hx R p q;refine WW.of (pw_and g8 pw_ww) (ha g x E U H Hm F _ _ hx R p λE1 k v H1 Hm1 F1 p1 R1 s1=>?_);obtain⟨c,rfl,p1⟩:=p1;refine⟨c,rfl,?_⟩;cases c with
 |true=>exact oq (hb g x E1 U H1 Hm1 F1 P Q hx R1 p1 λE' k v H' Hm' F' p' R' s'=>q _ _ _ _ _ _ p' R' (s1.trans s'))
 |false=>obtain⟨b,e1,q'⟩:=q _ _ _ _ _ _ p1 R1 s1;cases e1;exact oV q'
def qf{a b:Expr}{rest:QU}{pos:Pos}{d e:DE}(ha:bP X Ex Y a d)(hb:kr X Ex Y (.BoolOp .Or (b::rest) pos) e):kr X Ex Y (.BoolOp .Or (a::b::rest) pos) (rT d e):=by
 rw[Iq];intro g x E U H Hm F P Q hx R p q;refine WW.of (pw_or g8 pw_ww) (ha g x E U H Hm F _ _ hx R p λE1 k v H1 Hm1 F1 p1 R1 s1=>?_);obtain⟨c,rfl,p1⟩:=p1;refine⟨c,rfl,?_⟩;cases c with
 |true=>obtain⟨b,e1,q'⟩:=q _ _ _ _ _ _ p1 R1 s1;cases e1;exact oq q'
 |false=>exact oV (hb g x E1 U H1 Hm1 F1 P Q hx R1 p1 λE' k v H' Hm' F' p' R' s'=>q _ _ _ _ _ _ p' R' (s1.trans s'))
def AO(ho:bw X (compareOp op) (lN λi j=>.bl (f i j)))(ho':bw X (compareOp op') (lN λi j=>.bl (f' i j)))(hm:lastMarks [op,op'] [b,c]=false)(ha:SE X Ex Y a da)(hb:SE X Ex Y b db)(hc:SE X Ex Y c dc):bP X Ex Y (.Compare a [op,op'] [b,c] pos) (lW f f' da db dc):=by rw[yY];intro g x E U H Hm F P Q hx R p q;refine WT.of (BH ho ho' bz bz bz hm) (ha g x E U H Hm F _ _ hx R p λE1 k1 v1 u1 H1 Hm1 F1 fp1 p1 R1 s1 T1=>?_);obtain⟨i,rfl,p1⟩:=p1;cases T1.own.int;refine hb g x E1 U H1 Hm1 F1 _ _ hx R1 p1 λE2 k2 v2 u2 H2 Hm2 F2 fp2 p2 R2 s2 T2=>?_;obtain⟨j,rfl,p2⟩:=p2;cases T2.own.int;refine⟨i,j,rfl,rfl,f i j,rfl,?_⟩;by_cases z:f i j=true;{rw[if_pos z]at p2⊢;refine hc g x E2 U H2 Hm2 F2 _ _ hx R2 p2 λE3 k3 v3 u3 H3 Hm3 F3 fp3 p3 R3 s3 T3=>?_;obtain⟨k,rfl,p3⟩:=p3;cases T3.own.int;obtain⟨b',e1,q'⟩:=q _ _ _ _ _ _ p3 R3 (s1.trans (s2.trans s3));cases e1;exact⟨j,k,rfl,rfl,_,rfl,q'⟩};rw[if_neg z]at p2⊢;obtain⟨b',e1,q'⟩:=q _ _ _ _ _ _ p2 R2 (s1.trans s2);cases e1;exact⟨_,rfl,q'⟩
def JF(hc:ST X Ex Y c t)(ha:SE X Ex Y a d)(hb:SE X Ex Y b e):SE X Ex Y (.IfExp c a b pos) (Ab t d e):=by
 rw[Gw];intro g x E U H Hm F P Q hx R p q;refine WE.of (Bu g8 bz bz) (hc g x E U H Hm F _ _ hx R p λE1 b H1 Hm1 F1 p1 R1 s1=>?_);cases b with
 |true=>exact oq (ha g x E1 U H1 Hm1 F1 P Q hx R1 (by simpa using p1) λE' k v u H' Hm' F' fp p' R' s' T'=>q _ _ _ _ _ _ _ _ p' R' (s1.trans s') T')
 |false=>exact oV (hb g x E1 U H1 Hm1 F1 P Q hx R1 (by simpa using p1) λE' k v u H' Hm' F' fp p' R' s' T'=>q _ _ _ _ _ _ _ _ p' R' (s1.trans s') T')
def Ld{i j:Nat}(h:PE X e (kW j))(hj:Y[j]?=some i)(he:∀whole,isTrue e X.env whole=(do let v <-whole;standAt e.pos;holding [v] (truthy v))):ST X Ex Y e (CQ i):=by
 intro g x E U H Hm F P Q hx R p q;replace p:zW E i P:=p;unfold zW at p;split at p
 rotate_left
 .exact p.elim
 rename_i k d e1;rw[bY,<-yu]at p;obtain⟨hk,b,ht,p⟩:=p;obtain⟨v,h1,h2⟩:=R.slot i k d e1;exact WT.of (uF h he) ⟨v,b6 hj h1,b,h2.jF R.sub ht,q _ _ _ _ _ p R (af.refl _)⟩
def Hx(ha:ST X Ex Y a t):ST X Ex Y (.UnaryOp .Not a pos) (Dg t):=by intro g x E U H Hm F P Q hx R p q;exact WT.of (zp g8) (ha g x E U H Hm F _ _ hx R p λE1 b H1 Hm1 F1 p1 R1 s1=>q _ _ _ _ _ p1 R1 s1)
end
end Dv
namespace TS
open PySem PyProof.Rows
structure Ord(lt:Value->Value->Bool):Prop where
 Ii:∀a b,lt a b=true->lt b a=false
 trans:∀a b c,lt b a=false->lt c b=false->lt c a=false
def Le(lt:Value->Value->Bool)(p q:Keyed):Prop:=lt q.1 p.1=false
section
variable{lt:Value->Value->Bool}(O:Ord lt)
include O
def Ord.tr(h:Le lt p q)(g:Le lt q r):Le lt p r:=O.trans _ _ _ h g
def Ord.of(h:lt p.1 q.1=true):Le lt p q:=O.Ii _ _ h
def Ord.rfl':Le lt p p:=by
 unfold Le;cases e:lt p.1 p.1 with
 |false=>rfl
 |true=>have h2:=O.Ii _ _ e;rw[e]at h2;exact h2
end
def gg(prog:Program)(w:World)(A:Around)(s:Shared)(kd:SortKind)(P:Value->Prop)(lt:Value->Value->Bool):Prop:=∀(E:QC) x y,P x->P y->∀Q:Bool->Shared->Prop,Q (lt x y) s->wpAny (model prog w) A (keyLt' kd x y) Q E s
section
variable{prog:Program}{w:World}{A:Around}{E:QC}{s:Shared}
variable{kd:SortKind}{P:Value->Prop}{lt:Value->Value->Bool}
def uW{st:SortSt}(L:gg prog w A s kd P lt)(hk:kindOf st=kd)(hx:P x.1)(hy:P y.1)(h:Q (some (lt x.1 y.1)) st):wpS (model prog w) A E s (lt' x y) Q st:=by rw[lt'_eq];refine L8 (wpS_get ?_);rw[hk];refine L8 (Mp (Ow (L _ _ _ hx hy _ ⟨rfl,?_⟩)));exact M0 h
def bq(lt:Value->Value->Bool)(left:Bool)(key:Keyed)(xs:Array Keyed) (base i:Nat):Bool:=match xs[base+i]? with
 |some p=>if left then lt p.1 key.1 else !lt key.1 p.1
 |none=>false
def So(lt:Value->Value->Bool)(xs:Array Keyed) (base n:Nat):Prop:=∀i j p q,i<=j->j<n->xs[base+i]?=some p->xs[base+j]?=some q->Le lt p q
def EF(O:Ord lt){left:Bool}{base n i j:Nat}(S:So lt xs base n)(hn:base+n<=xs.size)(ij:i<=j)(hj:j<n)(h:bq lt left key xs base j=true):bq lt left key xs base i=true:=by
 have ei:xs[base+i]?=some (xs[base+i]'(by lia)):=N9 (by lia);have ej:xs[base+j]?=some (xs[base+j]'(by lia)):=N9 (by lia);have le:=S i j _ _ ij hj ei ej;unfold bq at h⊢;rw[ej]at h;rw[ei];dsimp only at h⊢;cases left with
 |true=>
  rw[if_pos rfl]at h⊢;cases e:lt (xs[base+i]'(by lia)).1 key.1 with
  |true=>rfl
  |false=>have:=O.trans _ _ _ e le;rw[this]at h;cases h
 |false=>
  rw[if_neg MJ]at h⊢;have h':lt key.1 (xs[base+j]'(by lia)).1=false:=by simpa using h
  rw[O.trans _ _ _ le h'];rfl
def Fb(O:Ord lt){left:Bool}{base i:Nat}(h:bq lt left key xs base i=true)(e:xs[base+i]?=some p):Le lt p key:=by
 unfold bq at h;rw[e]at h;dsimp only at h;cases left with
 |true=>rw[if_pos rfl]at h;exact O.of h
 |false=>rw[if_neg MJ]at h;show lt key.1 p.1=false;simpa using h
def BW(O:Ord lt){left:Bool}{base i:Nat}(h:bq lt left key xs base i=false)(e:xs[base+i]?=some p):Le lt key p:=by
 unfold bq at h;rw[e]at h;dsimp only at h;cases left with
 |true=>rw[if_pos rfl]at h;exact h
 |false=>rw[if_neg MJ]at h;exact O.of (by simpa using h)
def i6{st:SortSt}{left:Bool}{base n hint:Nat}(O:Ord lt)(L:gg prog w A s kd P lt)(hk:kindOf st=kd)(hy:P key.1)(G:Good P xs)(hn:base+n<=xs.size)(hh:hint<n)(S:So lt xs base n)(h:∀k,k<=n->(∀i p,i<k->xs[base+i]?=some p->Le lt p key)->(∀i p,k<=i->i<n->xs[base+i]?=some p->Le lt key p)->Q (some k) st) : wpS (model prog w) A E s (j9 left key xs base n hint) Q st:=by
 have mono:∀i j,i<=j->j<n->bq lt left key xs base j=true->bq lt left key xs base i=true:=λi j ij hj=>EF O S hn ij hj;have far:∀(i:Nat){R:Option Bool->SortSt->Prop},i<n->R (some (bq lt left key xs base i)) st->wpS (model prog w) A E s (do
   let x <-elem' xs (base+i)
   if left then lt' x key else return (<-lt' key x).map (!·)) R st:=λi R hi hR=>by
  refine L8 (aK (by lia) λp hp=>?_)
  have e:bq lt left key xs base i=if left then lt p.1 key.1 else !lt key.1 p.1:=by
   unfold bq;rw[hp]
  rw[e]at hR;cases left with
  |true=>exact uW L hk (G _ _ hp) hy hR
  |false=>exact L8 (uW L hk hy (G _ _ hp) (M0 hR))
 have fin:∀k,k<=n->(∀i,i<k->bq lt left key xs base i=true)->(∀i,k<=i->i<n->bq lt left key xs base i=false)->Q (some k) st:=λk hk a b=>h k hk (λi p hi e=>Fb O (a i hi) e) λi p h1 h2 e=>BW O (b i h1 h2) e;generalize bq lt left key xs base=f at mono far fin;have mono2:∀i j,i<=j->j<n->f i=false->f j=false:=λi j ij hj e=>by
  cases e2:f j with
  |false=>rfl
  |true=>rw[mono i j ij hj e2]at e;cases e
 unfold j9;refine L8 (far hint hh ?_);dsimp only;refine av (λct=>?_) (λcf=>?_)
 .refine L8 (MD (ME (I:=λx c st'=>st'=st/\c.1=none/\c.2.1<c.2.2/\x+1<=c.2.2/\hint+c.2.1<n/\f (hint+c.2.1)=true) (Q:=λc st'=>st'=st/\c.1=none/\c.2.1<c.2.2/\hint+c.2.1<n/\f (hint+c.2.1)=true/\(n-hint<=c.2.2\/(c.2.2<n-hint/\f (hint+c.2.2)=false))) ?step ?fin ⟨rfl,rfl,by decide,by decide,by dsimp only;lia,by simpa using ct⟩) ?post)
  case step=>
   rintro x⟨o,a,c⟩st' _ _⟨rfl,rfl,q1,q2,q3,q4⟩;dsimp only at q1 q2 q3 q4⊢;refine av (λge=>M0 ⟨rfl,rfl,q1,q3,q4,.inl ge⟩) (λge=>?_)
   refine L8 (far _ (by lia) ?_)
   dsimp only;refine av (λe=>M0 ⟨rfl,rfl,q1,q3,q4,.inr ⟨by dsimp only;lia,by simpa using e⟩⟩) (λe=>M0 ⟨rfl,rfl,by dsimp only;lia,by dsimp only;lia,by dsimp only;lia,by simpa using e⟩)
  case fin=>
   rintro⟨o,a,c⟩st'⟨rfl,rfl,q1,q2,q3,q4⟩;dsimp only at q1 q2 q3 q4;exact⟨rfl,rfl,q1,q3,q4,.inl (by dsimp only;lia)⟩
  case post=>
   rintro⟨o,a,c⟩st'⟨rfl,rfl,q1,q3,q4,q5⟩;dsimp only at q1 q3 q4 q5⊢;have l1:hint+a+1<=hint+min c (n-hint):=by lia
   have l2:hint+min c (n-hint)<=n:=by lia
   have t1:∀i,i<hint+a+1->f i=true:=λi hi=>mono i _ (by lia) q3 q4
   have t2:∀i,hint+min c (n-hint)<=i->i<n->f i=false:=λi h1 h2=>by rcases q5 with q5|⟨q5,q6⟩;{lia};exact mono2 _ i (by lia) h2 q6
   generalize hint+a+1=lo at l1 t1⊢;generalize hint+min c (n-hint)=hi at l1 l2 t2⊢;refine L8 (MD (ME (I:=λy c st''=>st''=st'/\c.1=none/\c.2.1<=c.2.2/\c.2.2<=n/\c.2.2-c.2.1+y<=n/\(∀i,i<c.2.1->f i=true)/\(∀i,c.2.2<=i->i<n->f i=false)) (Q:=λc st''=>st''=st'/\c.1=none/\c.2.2<=n/\(∀i,i<c.2.2->f i=true)/\(∀i,c.2.2<=i->i<n->f i=false)) ?step3 ?fin3 ⟨rfl,rfl,l1,l2,by dsimp only;lia,t1,t2⟩) ?post3)
   case step3=>
    rintro y⟨o,a,b⟩st'' _ hy⟨rfl,rfl,q1,q2,q3,q4,q5⟩;dsimp only at q1 q2 q3 q4 q5⊢;refine av (λge=>?_) (λge=>?_)
    .have:a=b:=by lia
     subst this;exact M0 ⟨rfl,rfl,q2,q4,q5⟩
    .refine L8 (far _ (by lia) ?_)
     dsimp only;refine av (λc=>?_) (λc=>?_)
     .refine M0 ⟨rfl,rfl,by dsimp only;lia,q2,by dsimp only;lia,λi hi=>?_,q5⟩
      exact mono i _ (by dsimp only at hi;lia) (by lia) c
     .refine M0 ⟨rfl,rfl,by dsimp only;lia,by dsimp only;lia,by dsimp only;lia,q4,λi h1 h2=>?_⟩
      exact mono2 _ i h1 h2 (by simpa using c)
   case fin3=>
    rintro⟨o,a,b⟩st''⟨q0,qn,q1,q2,q3,q4,q5⟩;dsimp only at q1 q2 q3 q4 q5;have:a=b:=by lia
    subst this;exact⟨q0,qn,q2,q4,q5⟩
   case post3=>
    rintro⟨o,lo,hi⟩st''⟨rfl,rfl,r1,r2,r3⟩;dsimp only at r1 r2 r3⊢;exact M0 (fin _ r1 r2 r3)
 have cf:f hint=false:=by simpa using cf
 refine L8 (MD (ME (I:=λx c st'=>st'=st/\c.1=none/\c.2.1<c.2.2/\x+1<=c.2.2/\c.2.1<=hint/\f (hint-c.2.1)=false) (Q:=λc st'=>st'=st/\c.1=none/\c.2.1<c.2.2/\c.2.1<=hint/\f (hint-c.2.1)=false/\(hint+1<=c.2.2\/(c.2.2<hint+1/\f (hint-c.2.2)=true))) ?step2 ?fin2 ⟨rfl,rfl,by decide,by decide,by dsimp only;lia,by simpa using cf⟩) ?post2)
 case step2=>
  rintro x⟨o,a,c⟩st' _ _⟨rfl,rfl,q1,q2,q3,q4⟩;dsimp only at q1 q2 q3 q4⊢;refine av (λge=>M0 ⟨rfl,rfl,q1,q3,q4,.inl ge⟩) (λge=>?_)
  refine L8 (far _ (by lia) ?_)
  dsimp only;refine av (λe=>M0 ⟨rfl,rfl,q1,q3,q4,.inr ⟨by dsimp only;lia,e⟩⟩) (λe=>M0 ⟨rfl,rfl,by dsimp only;lia,by dsimp only;lia,by dsimp only;lia,by simpa using e⟩)
 case fin2=>
  rintro⟨o,a,c⟩st'⟨rfl,rfl,q1,q2,q3,q4⟩;dsimp only at q1 q2 q3 q4;exact⟨rfl,rfl,q1,q3,q4,.inl (by dsimp only;lia)⟩
 case post2=>
  rintro⟨o,a,c⟩st'⟨rfl,rfl,q1,q3,q4,q5⟩;dsimp only at q1 q3 q4 q5⊢;have l1:hint+1-min c (hint+1)<=hint-a:=by lia
  have l2:hint-a<=n:=by lia
  have t1:∀i,i<hint+1-min c (hint+1)->f i=true:=λi hi=>by rcases q5 with q5|⟨q5,q6⟩;{lia};exact mono i _ (by lia) (by lia) q6
  have t2:∀i,hint-a<=i->i<n->f i=false:=λi h1 h2=>mono2 _ i h1 h2 q4
  generalize hint+1-min c (hint+1)=lo at l1 t1⊢;generalize hint-a=hi at l1 l2 t2⊢;refine L8 (MD (ME (I:=λy c st''=>st''=st'/\c.1=none/\c.2.1<=c.2.2/\c.2.2<=n/\c.2.2-c.2.1+y<=n/\(∀i,i<c.2.1->f i=true)/\(∀i,c.2.2<=i->i<n->f i=false)) (Q:=λc st''=>st''=st'/\c.1=none/\c.2.2<=n/\(∀i,i<c.2.2->f i=true)/\(∀i,c.2.2<=i->i<n->f i=false)) ?step4 ?fin4 ⟨rfl,rfl,l1,l2,by dsimp only;lia,t1,t2⟩) ?post4)
  case step4=>
   rintro y⟨o,a,b⟩st'' _ hy⟨rfl,rfl,q1,q2,q3,q4,q5⟩;dsimp only at q1 q2 q3 q4 q5⊢;refine av (λge=>?_) (λge=>?_)
   .have:a=b:=by lia
    subst this;exact M0 ⟨rfl,rfl,q2,q4,q5⟩
   .refine L8 (far _ (by lia) ?_)
    dsimp only;refine av (λc=>?_) (λc=>?_)
    .refine M0 ⟨rfl,rfl,by dsimp only;lia,q2,by dsimp only;lia,λi hi=>?_,q5⟩
     exact mono i _ (by dsimp only at hi;lia) (by lia) c
    .refine M0 ⟨rfl,rfl,by dsimp only;lia,by dsimp only;lia,by dsimp only;lia,q4,λi h1 h2=>?_⟩
     exact mono2 _ i h1 h2 (by simpa using c)
  case fin4=>
   rintro⟨o,a,b⟩st''⟨q0,qn,q1,q2,q3,q4,q5⟩;dsimp only at q1 q2 q3 q4 q5;have:a=b:=by lia
   subst this;exact⟨q0,qn,q2,q4,q5⟩
  case post4=>
   rintro⟨o,lo,hi⟩st''⟨rfl,rfl,r1,r2,r3⟩;dsimp only at r1 r2 r3⊢;exact M0 (fin _ r1 r2 r3)
end
def Sa(lt:Value->Value->Bool)(xs:Array Keyed):Prop:=∀(i j:Nat) p q,i<=j->xs[i]?=some p->xs[j]?=some q->Le lt p q
def Sa.so(S:Sa lt xs) (b n:Nat):So lt xs b n:=λi j p q ij _ hi hj=>S _ _ _ _ (by lia) hi hj
def aO{xs:Array Keyed}{i j:Nat}(h:p∈(xs.extract i j).toList):∃k,i<=k/\k<j/\xs[k]?=some p:=by obtain⟨n,hn⟩:=NS h;rw[Mf,O5]at hn;split at hn;{exact⟨i+n,by lia,by lia,hn⟩};cases hn
def bN(S:Sa lt xs) (i j:Nat):(xs.extract i j).toList.Pairwise (Le lt):=by rw[OA];intro a b ha hb hab;have ea:(xs.extract i j).toList[a]?=some ((xs.extract i j).toList[a]):=MP ha;have eb:(xs.extract i j).toList[b]?=some ((xs.extract i j).toList[b]):=MP hb;rw[Mf,O5]at ea eb;split at ea;{split at eb;{exact S _ _ _ _ (by lia) ea eb};cases eb};cases ea
structure Om(lt:Value->Value->Bool)(xs ys out:Array Keyed) (ia ib:Nat):Prop where
 pm:Pm xs ys out ia ib
 so:out.toList.Pairwise (Le lt)
 ax:∀p∈out.toList,∀(i:Nat) q,ia<=i->xs[i]?=some q->Le lt p q
 ay:∀p∈out.toList,∀(i:Nat) q,ib<=i->ys[i]?=some q->Le lt p q
section
variable{lt:Value->Value->Bool}{xs ys out:Array Keyed}{ia ib k:Nat}
theorem Om.x(h:Om lt xs ys out ia ib)(Sx:Sa lt xs) (k:Nat)(hy:∀(i:Nat) p,ia<=i->i<ia+k->xs[i]?=some p->∀(j:Nat) q,ib<=j->ys[j]?=some q->Le lt p q):Om lt xs ys (out++xs.extract ia (ia+k)) (ia+k) ib:=by refine⟨h.pm.x k,?_,?_,?_⟩;{rw[MM,N7];refine⟨h.so,bN Sx _ _,λp hp q hq=>?_⟩;obtain⟨i,i1,_,e⟩:=aO hq;exact h.ax p hp i q i1 e};{intro p hp i q hi e;rw[MM]at hp;rcases MF.mp hp with hp|hp;{exact h.ax p hp i q (by lia) e};obtain⟨j,j1,j2,e2⟩:=aO hp;exact Sx j i p q (by lia) e2 e};intro p hp i q hi e;rw[MM]at hp;rcases MF.mp hp with hp|hp;{exact h.ay p hp i q hi e};obtain⟨j,j1,j2,e2⟩:=aO hp;exact hy j p j1 j2 e2 i q hi e
theorem Om.y(h:Om lt xs ys out ia ib)(Sy:Sa lt ys) (k:Nat)(hx:∀(i:Nat) p,ib<=i->i<ib+k->ys[i]?=some p->∀(j:Nat) q,ia<=j->xs[j]?=some q->Le lt p q):Om lt xs ys (out++ys.extract ib (ib+k)) ia (ib+k):=by refine⟨h.pm.y k,?_,?_,?_⟩;{rw[MM,N7];refine⟨h.so,bN Sy _ _,λp hp q hq=>?_⟩;obtain⟨i,i1,_,e⟩:=aO hq;exact h.ay p hp i q i1 e};{intro p hp i q hi e;rw[MM]at hp;rcases MF.mp hp with hp|hp;{exact h.ax p hp i q hi e};obtain⟨j,j1,j2,e2⟩:=aO hp;exact hx j p j1 j2 e2 i q hi e};intro p hp i q hi e;rw[MM]at hp;rcases MF.mp hp with hp|hp;{exact h.ay p hp i q (by lia) e};obtain⟨j,j1,j2,e2⟩:=aO hp;exact Sy j i p q (by lia) e2 e
def Om.px(h:Om lt xs ys out ia ib)(Sx:Sa lt xs)(hp:xs[ia]?=some p)(hy:∀(j:Nat) q,ib<=j->ys[j]?=some q->Le lt p q):Om lt xs ys (out.push p) (ia+1) ib:=by
 rw[jo hp];refine h.x Sx 1 λi q i1 i2 e=>?_;have:i=ia:=by lia
 rw[this,hp]at e;cases e;exact hy
def Om.py(h:Om lt xs ys out ia ib)(Sy:Sa lt ys)(hp:ys[ib]?=some p)(hx:∀(j:Nat) q,ia<=j->xs[j]?=some q->Le lt p q):Om lt xs ys (out.push p) ia (ib+1):=by
 rw[jo hp];refine h.y Sy 1 λi q i1 i2 e=>?_;have:i=ib:=by lia
 rw[this,hp]at e;cases e;exact hx
def Mg(lt:Value->Value->Bool)(xs ys zs:Array Keyed):Prop:=zs.toList.Perm (xs.toList++ys.toList)/\zs.toList.Pairwise (Le lt)
theorem Om.done(h:Om lt xs ys out ia ib)(Sx:Sa lt xs)(Sy:Sa lt ys)(e:ib=ys.size\/ia=xs.size):Mg lt xs ys (out++xs.extract ia++ys.extract ib):=by refine⟨h.pm.done,?_⟩;rw[MM,MM,N7,N7];refine⟨⟨h.so,bN Sx _ _,λp hp q hq=>?_⟩,bN Sy _ _,λp hp q hq=>?_⟩;{obtain⟨i,i1,_,e⟩:=aO hq;exact h.ax p hp i q i1 e};obtain⟨i,i1,_,e2⟩:=aO hq;rcases MF.mp hp with hp|hp;{exact h.ay p hp i q i1 e2};obtain⟨j,j1,_,e3⟩:=aO hp;have l2:=(NR.mp e2).1;have l3:=(NR.mp e3).1;lia
theorem Om.last(h:Om lt xs ys out ia ib)(Sx:Sa lt xs)(Sy:Sa lt ys)(e:ia+1=xs.size)(hl:∀(j:Nat) q p,ys[j]?=some q->xs[xs.size-1]?=some p->Le lt q p):Mg lt xs ys (out++ys.extract ib++xs.extract ia):=by refine⟨h.pm.last,?_⟩;rw[MM,MM,N7,N7];refine⟨⟨h.so,bN Sy _ _,λp hp q hq=>?_⟩,bN Sx _ _,λp hp q hq=>?_⟩;{obtain⟨i,i1,_,e⟩:=aO hq;exact h.ay p hp i q i1 e};obtain⟨i,i1,_,e2⟩:=aO hq;have l2:=(NR.mp e2).1;rcases MF.mp hp with hp|hp;{exact h.ax p hp i q i1 e2};obtain⟨j,j1,_,e3⟩:=aO hp;rw[show i=xs.size-1 by lia]at e2;exact hl j p q e3 e2
end
section
variable{prog:Program}{w:World}{A:Around}{E:QC}{s:Shared}{kd:SortKind}{P:Value->Prop}{lt:Value->Value->Bool}
def Lz{st:SortSt}(O:Ord lt)(L:gg prog w A s kd P lt)(hk:kindOf st=kd)(G1:Good P xs)(G2:Good P ys)(h1:1<=xs.size)(h2:1<=ys.size)(Sx:Sa lt xs)(Sy:Sa lt ys)(hf:∀p q (j:Nat),ys[0]?=some p->xs[j]?=some q->Le lt p q)(hl:∀(j:Nat) q p,ys[j]?=some q->xs[xs.size-1]?=some p->Le lt q p)(h:∀zs st',dN st st'->Mg lt xs ys zs->Q zs st') : wpS (model prog w) A E s (kK xs ys) Q st:=by
 unfold kK;refine L8 (Mp (Ml ⟨rfl,?_⟩));dsimp only;refine L8 (aK (by lia) λp hp=>?_);have pm0:Om lt xs ys #[p] 0 1:=by have:Om lt xs ys #[] 0 0:=⟨List.Perm.refl _,.nil,λ_ h=>(nomatch h),λ_ h=>(nomatch h)⟩;exact this.py Sy hp λj q _ e=>hf p q j hp e
 have g0:dN st st:=⟨rfl,rfl,rfl,rfl⟩;refine aY (λe1=>M0 (h _ _ g0 (pm0.done Sx Sy (.inl e1)))) (λe1=>?_);refine aY (λe2=>M0 (h _ _ g0 (pm0.last Sx Sy e2 hl))) (λe2=>?_);refine L8 (wpS_get ?_);refine L8 (MD (ME (I:=λx c st'=>dN st st'/\c.1=none/\Om lt xs ys c.2.1 c.2.2.1 c.2.2.2.1/\c.2.2.1+1<xs.size/\c.2.2.2.1<ys.size/\x+1<=c.2.2.1+c.2.2.2.1) (Q:=λc st'=>dN st st'/\∃r,c.1=some r/\Mg lt xs ys r) ?step ?fin ⟨g0,rfl,pm0,by dsimp only;lia,by dsimp only;lia,by dsimp only;lia⟩) ?post)
 case post=>
  rintro⟨o,out,ia,ib,mg⟩st'⟨g,r,e,pr⟩;dsimp only at e;subst e;dsimp only;exact M0 (h _ _ g pr)
 case fin=>
  rintro⟨o,out,ia,ib,mg⟩st'⟨_,_,_,a,b,c⟩;dsimp only at a b c;lia
 case step=>
  rintro x⟨o,out,ia,ib,mg⟩st' _ _⟨g,rfl,pm,a1,b1,c1⟩;dsimp only at pm a1 b1 c1⊢;have hk':kindOf st'=kd:=g.1.trans hk;refine L8 (MD (ME (I:=λy c st''=>st''=st'/\c.1=none/\Om lt xs ys c.2.1 c.2.2.1 c.2.2.2.1/\c.2.2.1+1<xs.size/\c.2.2.2.1<ys.size/\y+(ia+ib)<=c.2.2.1+c.2.2.2.1) (Q:=λc st''=>st''=st'/\((∃r,c.1=some r/\Mg lt xs ys r)\/(c.1=none/\Om lt xs ys c.2.1 c.2.2.1 c.2.2.2.1/\c.2.2.1+1<xs.size/\c.2.2.2.1<ys.size/\ia+ib+1<=c.2.2.1+c.2.2.2.1))) ?step1 ?fin1 ⟨rfl,rfl,pm,a1,b1,by dsimp only;lia⟩) ?post1)
  case fin1=>
   rintro⟨o,out2,ia2,ib2,ac,bc⟩st''⟨_,_,_,a,b,c⟩;dsimp only at a b c;lia
  case step1=>
   rintro y⟨o,out2,ia2,ib2,ac,bc⟩st'' _ _⟨rfl,rfl,pm2,a2,b2,c2⟩;dsimp only at pm2 a2 b2 c2⊢;refine L8 (aK (by lia) λp1 hp1=>?_)
   refine L8 (aK (by lia) λp2 hp2=>?_)
   refine L8 (uW L hk' (G2 _ _ hp1) (G1 _ _ hp2) ?_);dsimp only;cases cb:lt p1.1 p2.1 with
   |true=>rw[if_pos rfl];refine L8 (aK (by lia) λp3 hp3=>?_);rw[hp1]at hp3;cases hp3;have pm3:=pm2.py Sy hp1 λj q hj e=>O.tr (O.of cb) (Sx _ _ _ _ hj hp2 e);refine aY (λe3=>M0 ⟨rfl,.inl ⟨_,rfl,pm3.done Sx Sy (.inl e3)⟩⟩) (λe3=>?_);refine av (λe4=>?_) (λe4=>?_);{exact M0 ⟨rfl,.inr ⟨rfl,pm3,a2,by dsimp only;lia,by dsimp only;lia⟩⟩};exact M0 ⟨rfl,rfl,pm3,a2,by dsimp only;lia,by dsimp only;lia⟩
   |false=>rw[if_neg MJ];refine L8 (aK (by lia) λp3 hp3=>?_);rw[hp2]at hp3;cases hp3;have pm3:=pm2.px Sx hp2 λj q hj e=>O.tr (show Le lt p2 p1 from cb) (Sy _ _ _ _ hj hp1 e);refine aY (λe3=>M0 ⟨rfl,.inl ⟨_,rfl,pm3.last Sx Sy e3 hl⟩⟩) (λe3=>?_);refine av (λe4=>?_) (λe4=>?_);{exact M0 ⟨rfl,.inr ⟨rfl,pm3,by dsimp only;lia,b2,by dsimp only;lia⟩⟩};exact M0 ⟨rfl,rfl,pm3,by dsimp only;lia,b2,by dsimp only;lia⟩
  case post1=>
   rintro⟨o,out2,ia2,ib2,ac,bc⟩st''⟨rfl,⟨r,e,pr⟩|⟨e,pm2,a2,b2,c2⟩⟩
   .dsimp only at e;subst e;exact M0 ⟨g,r,rfl,pr⟩
   .dsimp only at e pm2 a2 b2 c2;subst e;dsimp only;refine L8 (Mp (Ml ⟨rfl,?_⟩));refine L8 (MD (ME (I:=λy c st3=>dN st st3/\c.1=none/\Om lt xs ys c.2.1 c.2.2.1 c.2.2.2.1/\c.2.2.1+1<xs.size/\c.2.2.2.1<ys.size/\ia2+ib2<=c.2.2.1+c.2.2.2.1) (Q:=λc st3=>dN st st3/\((∃r,c.1=some r/\Mg lt xs ys r)\/(c.1=none/\Om lt xs ys c.2.1 c.2.2.1 c.2.2.2.1/\c.2.2.1+1<xs.size/\c.2.2.2.1<ys.size/\ia2+ib2<=c.2.2.1+c.2.2.2.1))) ?step2 (λc st3 q=>⟨q.1,.inr q.2⟩) ⟨g,rfl,pm2,a2,b2,M5 _⟩) ?post2)
    case step2=>
     rintro y⟨o,out3,ia3,ib3,mg3,ac3,bc3⟩st3 _ _⟨g3,rfl,pm3,a3,b3,c3⟩;dsimp only at pm3 a3 b3 c3⊢;have hk3:kindOf st3=kd:=g3.1.trans hk;refine av (λe5=>?b1) (λe5=>?b2)
     generalize mg3-1=v;clear e5;revert v;refine ?key
     case b2=>exact ?key mg3
     intro v;refine L8 (MX ?_);refine L8 (aK (by lia) λp1 hp1=>?_)
     refine L8 (i6 O L hk3 (G2 _ _ hp1) G1 (by lia) (by lia) (Sx.so _ _) λk hk1 ka kb=>?_)
     dsimp only;have ka':∀(i:Nat) p,ia3<=i->i<ia3+k->xs[i]?=some p->Le lt p p1:=λi p h1 h2 e=>ka (i-ia3) p (by lia) (by rw[show ia3+(i-ia3)=i by lia];exact e)
     have kb':∀(i:Nat) p,ia3+k<=i->xs[i]?=some p->Le lt p1 p:=λi p h1 e=>kb (i-ia3) p (by lia) (by have:=(NR.mp e).1;lia) (by rw[show ia3+(i-ia3)=i by lia];exact e)
     clear ka kb;refine av (λk0=>?c1) (λk0=>?c2)
     have pm4:=pm3.x Sx k λi p h1 h2 e j q hj e2=>O.tr (ka' i p h1 h2 e) (Sy _ _ _ _ hj hp1 e2)
     refine aY (λe6=>M0 ⟨g3,.inl ⟨_,rfl,pm4.last Sx Sy e6 hl⟩⟩) (λe6=>?_)
     refine aY (λe7=>M0 ⟨g3,.inl ⟨_,rfl,pm4.done Sx Sy (.inr e7)⟩⟩) (λe7=>?_)
     generalize out3++xs.extract ia3 (ia3+k)=o at pm4⊢;have n1:ia3+k+1<xs.size:=by lia
     have n0:ia3<=ia3+k:=by lia
     revert n0 n1 kb' pm4;clear e6 e7 k0 ka';generalize ia3+k=n;clear hk1;generalize k=d;revert o n d;refine ?key2
     case c2=>exact ?key2 out3 ia3 k (λi p h e=>kb' i p (by lia) e) pm3 a3 (M5 _)
     intro o n d kb' pm4 n1 n0;refine L8 (aK (by lia) λp2 hp2=>?_)
     rw[hp1]at hp2;cases hp2;have pm5:=pm4.py Sy hp1 λj q hj e=>kb' j q hj e
     refine aY (λe8=>M0 ⟨g3,.inl ⟨_,rfl,pm5.done Sx Sy (.inl e8)⟩⟩) (λe8=>?_)
     refine L8 (aK (by lia) λp3 hp3=>?_)
     refine L8 (i6 O L hk3 (G1 _ _ hp3) G2 (by lia) (by lia) (Sy.so _ _) λk2 hk2 ja jb=>?_)
     dsimp only;have ja':∀(i:Nat) p,ib3+1<=i->i<ib3+1+k2->ys[i]?=some p->Le lt p p3:=λi p h1 h2 e=>ja (i-(ib3+1)) p (by lia) (by rw[show ib3+1+(i-(ib3+1))=i by lia];exact e)
     have jb':∀(i:Nat) p,ib3+1+k2<=i->ys[i]?=some p->Le lt p3 p:=λi p h1 e=>jb (i-(ib3+1)) p (by lia) (by have:=(NR.mp e).1;lia) (by rw[show ib3+1+(i-(ib3+1))=i by lia];exact e)
     clear ja jb;refine av (λk20=>?d1) (λk20=>?d2)
     have pm6:=pm5.y Sy k2 λi p h1 h2 e j q hj e2=>O.tr (ja' i p h1 h2 e) (Sx _ _ _ _ hj hp3 e2)
     refine aY (λe9=>M0 ⟨g3,.inl ⟨_,rfl,pm6.done Sx Sy (.inl e9)⟩⟩) (λe9=>?_)
     generalize o.push _++ys.extract (ib3+1) (ib3+1+k2)=o2 at pm6⊢;have m1:ib3+1+k2<ys.size:=by lia
     have m0:ib3+1<=ib3+1+k2:=by lia
     revert m0 m1 jb' pm6;clear e9 k20 ja';generalize ib3+1+k2=m;clear hk2;generalize k2=d2;revert o2 m d2;refine ?key3
     case d2=>exact ?key3 _ _ _ (λi p h e=>jb' i p (by lia) e) pm5 (by lia) (M5 _)
     intro o2 m d2 jb' pm6 m1 m0;refine L8 (aK (by lia) λp4 hp4=>?_)
     rw[hp3]at hp4;cases hp4;have pm7:=pm6.px Sx hp3 λj q hj e=>jb' j q hj e
     refine aY (λe10=>M0 ⟨g3,.inl ⟨_,rfl,pm7.last Sx Sy e10 hl⟩⟩) (λe10=>?_)
     refine av (λ_=>?_) (λ_=>?_)
     .exact M0 ⟨g3,.inr ⟨rfl,pm7,by dsimp only;lia,by dsimp only;lia,by dsimp only;lia⟩⟩
     .exact M0 ⟨g3,rfl,pm7,by dsimp only;lia,by dsimp only;lia,by dsimp only;lia⟩
    case post2=>
     rintro⟨o,out3,ia3,ib3,mg3,ac3,bc3⟩st3⟨g3,⟨r,e,pr⟩|⟨e,pm3,a3,b3,c3⟩⟩
     .dsimp only at e;subst e;exact M0 ⟨g3,r,rfl,pr⟩
     .dsimp only at e pm3 a3 b3 c3;subst e;dsimp only;refine L8 (MX ?_);exact M0 ⟨g3,rfl,pm3,a3,b3,by dsimp only;lia⟩
end
structure Oh(lt:Value->Value->Bool)(xs ys out:Array Keyed) (na nb:Nat):Prop where
 pr:Pr xs ys out na nb
 so:out.toList.Pairwise λp q=>Le lt q p
 ax:∀p∈out.toList,∀(i:Nat) q,i<na->xs[i]?=some q->Le lt q p
 ay:∀p∈out.toList,∀(i:Nat) q,i<nb->ys[i]?=some q->Le lt q p
section
variable{lt:Value->Value->Bool}{xs ys out:Array Keyed}{na nb k:Nat}
theorem Oh.x(h:Oh lt xs ys out na nb)(Sx:Sa lt xs)(hk:k<=na)(hy:∀(i:Nat) p,k<=i->i<na->xs[i]?=some p->∀(j:Nat) q,j<nb->ys[j]?=some q->Le lt q p):Oh lt xs ys (out++(xs.extract k na).reverse) k nb:=by refine⟨h.pr.x hk,?_,?_,?_⟩;{rw[MM,NC,N7,PC];refine⟨h.so,bN Sx _ _,λp hp q hq=>?_⟩;obtain⟨i,_,i2,e⟩:=aO (NZ.mp hq);exact h.ax p hp i q i2 e};{intro p hp i q hi e;rw[MM,NC]at hp;rcases MF.mp hp with hp|hp;{exact h.ax p hp i q (by lia) e};obtain⟨j,j1,j2,e2⟩:=aO (NZ.mp hp);exact Sx i j q p (by lia) e e2};intro p hp i q hi e;rw[MM,NC]at hp;rcases MF.mp hp with hp|hp;{exact h.ay p hp i q hi e};obtain⟨j,j1,j2,e2⟩:=aO (NZ.mp hp);exact hy j p j1 j2 e2 i q hi e
theorem Oh.y(h:Oh lt xs ys out na nb)(Sy:Sa lt ys)(hk:k<=nb)(hx:∀(i:Nat) p,k<=i->i<nb->ys[i]?=some p->∀(j:Nat) q,j<na->xs[j]?=some q->Le lt q p):Oh lt xs ys (out++(ys.extract k nb).reverse) na k:=by refine⟨h.pr.y hk,?_,?_,?_⟩;{rw[MM,NC,N7,PC];refine⟨h.so,bN Sy _ _,λp hp q hq=>?_⟩;obtain⟨i,_,i2,e⟩:=aO (NZ.mp hq);exact h.ay p hp i q i2 e};{intro p hp i q hi e;rw[MM,NC]at hp;rcases MF.mp hp with hp|hp;{exact h.ax p hp i q hi e};obtain⟨j,j1,j2,e2⟩:=aO (NZ.mp hp);exact hx j p j1 j2 e2 i q hi e};intro p hp i q hi e;rw[MM,NC]at hp;rcases MF.mp hp with hp|hp;{exact h.ay p hp i q (by lia) e};obtain⟨j,j1,j2,e2⟩:=aO (NZ.mp hp);exact Sy i j q p (by lia) e e2
def Oh.px(h:Oh lt xs ys out na nb)(Sx:Sa lt xs)(h1:1<=na)(hp:xs[na-1]?=some p)(hy:∀(j:Nat) q,j<nb->ys[j]?=some q->Le lt q p):Oh lt xs ys (out.push p) (na-1) nb:=by
 rw[kZ h1 hp];refine h.x Sx (by lia) λi q i1 i2 e=>?_;have:i=na-1:=by lia
 rw[this,hp]at e;cases e;exact hy
def Oh.py(h:Oh lt xs ys out na nb)(Sy:Sa lt ys)(h1:1<=nb)(hp:ys[nb-1]?=some p)(hx:∀(j:Nat) q,j<na->xs[j]?=some q->Le lt q p):Oh lt xs ys (out.push p) na (nb-1):=by
 rw[kZ h1 hp];refine h.y Sy (by lia) λi q i1 i2 e=>?_;have:i=nb-1:=by lia
 rw[this,hp]at e;cases e;exact hx
theorem Oh.done(h:Oh lt xs ys out na nb)(Sx:Sa lt xs)(Sy:Sa lt ys)(e:na=0\/nb=0):Mg lt xs ys (xs.extract 0 na++ys.extract 0 nb++out.reverse):=by refine⟨h.pr.done,?_⟩;rw[MM,MM,NC,N7,N7,PC];refine⟨⟨bN Sx _ _,bN Sy _ _,λp hp q hq=>?_⟩,h.so,λp hp q hq=>?_⟩;{obtain⟨i,_,i2,e⟩:=aO hq;obtain⟨j,_,j2,e3⟩:=aO hp;lia};have hq:=NZ.mp hq;rcases MF.mp hp with hp|hp;{obtain⟨i,_,i2,e⟩:=aO hp;exact h.ax q hq i p i2 e};obtain⟨i,_,i2,e⟩:=aO hp;exact h.ay q hq i p i2 e
theorem Oh.first(h:Oh lt xs ys out na nb)(Sx:Sa lt xs)(Sy:Sa lt ys)(e:nb=1)(hf:∀p q (j:Nat),ys[0]?=some p->xs[j]?=some q->Le lt p q):Mg lt xs ys (ys.extract 0 nb++xs.extract 0 na++out.reverse):=by refine⟨h.pr.first,?_⟩;rw[MM,MM,NC,N7,N7,PC];refine⟨⟨bN Sy _ _,bN Sx _ _,λp hp q hq=>?_⟩,h.so,λp hp q hq=>?_⟩;{obtain⟨i,_,i2,e2⟩:=aO hq;obtain⟨j,_,j2,e3⟩:=aO hp;rw[show j=0 by lia]at e3;exact hf p q i e3 e2};have hq:=NZ.mp hq;rcases MF.mp hp with hp|hp;{obtain⟨i,_,i2,e⟩:=aO hp;exact h.ay q hq i p i2 e};obtain⟨i,_,i2,e⟩:=aO hp;exact h.ax q hq i p i2 e
end
section
variable{prog:Program}{w:World}{A:Around}{E:QC}{s:Shared}{kd:SortKind}{P:Value->Prop}{lt:Value->Value->Bool}
def LN{st:SortSt}(O:Ord lt)(L:gg prog w A s kd P lt)(hk:kindOf st=kd)(G1:Good P xs)(G2:Good P ys)(h1:1<=xs.size)(h2:1<=ys.size)(Sx:Sa lt xs)(Sy:Sa lt ys)(hf:∀p q (j:Nat),ys[0]?=some p->xs[j]?=some q->Le lt p q)(hl:∀(j:Nat) q p,ys[j]?=some q->xs[xs.size-1]?=some p->Le lt q p)(h:∀zs st',dN st st'->Mg lt xs ys zs->Q zs st') : wpS (model prog w) A E s (kM xs ys) Q st:=by
 unfold kM;refine L8 (Mp (Ml ⟨rfl,?_⟩));dsimp only;refine L8 (aK (by lia) λp hp=>?_);have pm0:Oh lt xs ys #[p] (xs.size-1) ys.size:=by
  have z:Pr xs ys #[] xs.size ys.size:=by unfold Pr;rw[O3 (by simp),O3 (by simp)];exact List.Perm.refl _
  have z2:Oh lt xs ys #[] xs.size ys.size:=⟨z,.nil,λ_ h=>(nomatch h),λ_ h=>(nomatch h)⟩;exact z2.px Sx h1 hp λj q _ e=>hl j q p e hp
 have g0:dN st st:=⟨rfl,rfl,rfl,rfl⟩;refine aY (λe1=>M0 (h _ _ g0 (pm0.done Sx Sy (.inl e1)))) (λe1=>?_);refine aY (λe2=>M0 (h _ _ g0 (pm0.first Sx Sy e2 hf))) (λe2=>?_);refine L8 (wpS_get ?_);refine L8 (MD (ME (I:=λx c st'=>dN st st'/\c.1=none/\Oh lt xs ys c.2.2.2.1 c.2.1 c.2.2.1/\1<=c.2.1/\2<=c.2.2.1/\c.2.1<=xs.size/\c.2.2.1<=ys.size/\c.2.1+c.2.2.1+x+1<=xs.size+ys.size) (Q:=λc st'=>dN st st'/\∃r,c.1=some r/\Mg lt xs ys r) ?step ?fin ⟨g0,rfl,pm0,by dsimp only;lia,by dsimp only;lia,by dsimp only;lia,by dsimp only;lia,by dsimp only;lia⟩) ?post)
 case post=>
  rintro⟨o,na,nb,out,mg⟩st'⟨g,r,e,pr⟩;dsimp only at e;subst e;dsimp only;exact M0 (h _ _ g pr)
 case fin=>
  rintro⟨o,na,nb,out,mg⟩st'⟨_,_,_,a,b,c,d,e⟩;dsimp only at a b c d e;lia
 case step=>
  rintro x⟨o,na,nb,out,mg⟩st' _ _⟨g,rfl,pm,a1,b1,c1,d1,f1⟩;dsimp only at pm a1 b1 c1 d1 f1⊢;have hk':kindOf st'=kd:=g.1.trans hk;refine L8 (MD (ME (I:=λy c st''=>st''=st'/\c.1=none/\Oh lt xs ys c.2.2.2.1 c.2.1 c.2.2.1/\1<=c.2.1/\2<=c.2.2.1/\c.2.1<=xs.size/\c.2.2.1<=ys.size/\c.2.1+c.2.2.1+y<=na+nb) (Q:=λc st''=>st''=st'/\((∃r,c.1=some r/\Mg lt xs ys r)\/(c.1=none/\Oh lt xs ys c.2.2.2.1 c.2.1 c.2.2.1/\1<=c.2.1/\2<=c.2.2.1/\c.2.1<=xs.size/\c.2.2.1<=ys.size/\c.2.1+c.2.2.1+1<=na+nb))) ?step1 ?fin1 ⟨rfl,rfl,pm,a1,b1,c1,d1,by dsimp only;lia⟩) ?post1)
  case fin1=>
   rintro⟨o,na2,iu,out2,ac,bc⟩st''⟨_,_,_,a,b,c,d,e⟩;dsimp only at a b c d e;lia
  case step1=>
   rintro y⟨o,na2,iu,out2,ac,bc⟩st'' _ _⟨rfl,rfl,pm2,a2,b2,c2,d2,f2⟩;dsimp only at pm2 a2 b2 c2 d2 f2⊢;refine L8 (aK (by lia) λp1 hp1=>?_)
   refine L8 (aK (by lia) λp2 hp2=>?_)
   refine L8 (uW L hk' (G2 _ _ hp1) (G1 _ _ hp2) ?_);dsimp only;cases cb:lt p1.1 p2.1 with
   |true=>rw[if_pos rfl];refine L8 (aK (by lia) λp3 hp3=>?_);rw[hp2]at hp3;cases hp3;have pm3:=pm2.px Sx (by lia) hp2 λj q hj e=>O.tr (Sy _ _ _ _ (by lia) e hp1) (O.of cb);refine aY (λe3=>M0 ⟨rfl,.inl ⟨_,rfl,pm3.done Sx Sy (.inl e3)⟩⟩) (λe3=>?_);refine av (λe4=>?_) (λe4=>?_);{exact M0 ⟨rfl,.inr ⟨rfl,pm3,by dsimp only;lia,by dsimp only;lia,by dsimp only;lia,by dsimp only;lia,by dsimp only;lia⟩⟩};exact M0 ⟨rfl,rfl,pm3,by dsimp only;lia,by dsimp only;lia,by dsimp only;lia,by dsimp only;lia,by dsimp only;lia⟩
   |false=>rw[if_neg MJ];refine L8 (aK (by lia) λp3 hp3=>?_);rw[hp1]at hp3;cases hp3;have pm3:=pm2.py Sy (by lia) hp1 λj q hj e=>O.tr (Sx _ _ _ _ (by lia) e hp2) (show Le lt p2 p1 from cb);refine aY (λe3=>M0 ⟨rfl,.inl ⟨_,rfl,pm3.first Sx Sy e3 hf⟩⟩) (λe3=>?_);refine av (λe4=>?_) (λe4=>?_);{exact M0 ⟨rfl,.inr ⟨rfl,pm3,by dsimp only;lia,by dsimp only;lia,by dsimp only;lia,by dsimp only;lia,by dsimp only;lia⟩⟩};exact M0 ⟨rfl,rfl,pm3,by dsimp only;lia,by dsimp only;lia,by dsimp only;lia,by dsimp only;lia,by dsimp only;lia⟩
  case post1=>
   rintro⟨o,na2,iu,out2,ac,bc⟩st''⟨rfl,⟨r,e,pr⟩|⟨e,pm2,a2,b2,c2,d2,f2⟩⟩
   .dsimp only at e;subst e;exact M0 ⟨g,r,rfl,pr⟩
   .dsimp only at e pm2 a2 b2 c2 d2 f2;subst e;dsimp only;refine L8 (Mp (Ml ⟨rfl,?_⟩));refine L8 (MD (ME (I:=λy c st3=>dN st st3/\c.1=none/\Oh lt xs ys c.2.2.2.1 c.2.1 c.2.2.1/\1<=c.2.1/\2<=c.2.2.1/\c.2.1<=xs.size/\c.2.2.1<=ys.size/\c.2.1+c.2.2.1<=na2+iu) (Q:=λc st3=>dN st st3/\((∃r,c.1=some r/\Mg lt xs ys r)\/(c.1=none/\Oh lt xs ys c.2.2.2.1 c.2.1 c.2.2.1/\1<=c.2.1/\2<=c.2.2.1/\c.2.1<=xs.size/\c.2.2.1<=ys.size/\c.2.1+c.2.2.1<=na2+iu))) ?step2 (λc st3 q=>⟨q.1,.inr q.2⟩) ⟨g,rfl,pm2,a2,b2,c2,d2,M5 _⟩) ?post2)
    case step2=>
     rintro y⟨o,na3,nb3,out3,mg3,ac3,bc3⟩st3 _ _⟨g3,rfl,pm3,a3,b3,c3,d3,f3⟩;dsimp only at pm3 a3 b3 c3 d3 f3⊢;have hk3:kindOf st3=kd:=g3.1.trans hk;refine av (λe5=>?b1) (λe5=>?b2)
     generalize mg3-1=v;clear e5;revert v;refine ?key
     case b2=>exact ?key mg3
     intro v;refine L8 (MX ?_);refine L8 (aK (by lia) λp1 hp1=>?_)
     refine L8 (i6 O L hk3 (G2 _ _ hp1) G1 (by lia) (by lia) (Sx.so _ _) λk hk1 ka kb=>?_)
     dsimp only;have ka':∀(i:Nat) p,i<k->xs[i]?=some p->Le lt p p1:=λi p h1 e=>ka i p h1 (by rw[NU];exact e)
     have kb':∀(i:Nat) p,k<=i->i<na3->xs[i]?=some p->Le lt p1 p:=λi p h1 h2 e=>kb i p h1 h2 (by rw[NU];exact e)
     clear ka kb;refine av (λk0=>?c1) (λk0=>?c2)
     have pm4:=pm3.x Sx hk1 λi p h1 h2 e j q hj e2=>O.tr (Sy _ _ _ _ (by lia) e2 hp1) (kb' i p h1 h2 e)
     refine aY (λe7=>M0 ⟨g3,.inl ⟨_,rfl,pm4.done Sx Sy (.inl e7)⟩⟩) (λe7=>?_)
     generalize out3++(xs.extract k na3).reverse=o at pm4⊢;generalize na3-k=d;have n1:1<=k:=by lia
     revert n1 ka' pm4;clear e7 k0 kb';revert hk1;generalize k=n;revert d o n;refine ?key2
     case c2=>exact ?key2 out3 (na3-k) na3 (M5 _) (λi p h e=>ka' i p (by lia) e) pm3 (by lia)
     intro o d n hk1 ka' pm4 n1;refine L8 (aK (by lia) λp2 hp2=>?_)
     rw[hp1]at hp2;cases hp2;have pm5:=pm4.py Sy (by lia) hp1 λj q hj e=>ka' j q hj e
     refine aY (λe8=>M0 ⟨g3,.inl ⟨_,rfl,pm5.first Sx Sy e8 hf⟩⟩) (λe8=>?_)
     refine L8 (aK (by lia) λp3 hp3=>?_)
     refine L8 (i6 O L hk3 (G1 _ _ hp3) G2 (by lia) (by lia) (Sy.so _ _) λk2 hk2 ja jb=>?_)
     dsimp only;have ja':∀(i:Nat) p,i<k2->ys[i]?=some p->Le lt p p3:=λi p h1 e=>ja i p h1 (by rw[NU];exact e)
     have jb':∀(i:Nat) p,k2<=i->i<nb3-1->ys[i]?=some p->Le lt p3 p:=λi p h1 h2 e=>jb i p h1 h2 (by rw[NU];exact e)
     clear ja jb;refine av (λk20=>?d1) (λk20=>?d2)
     have pm6:=pm5.y Sy hk2 λi p h1 h2 e j q hj e2=>O.tr (Sx _ _ _ _ (by lia) e2 hp3) (jb' i p h1 h2 e)
     refine aY (λe9=>M0 ⟨g3,.inl ⟨_,rfl,pm6.first Sx Sy e9 hf⟩⟩) (λe9=>?_)
     refine aY (λe9'=>M0 ⟨g3,.inl ⟨_,rfl,pm6.done Sx Sy (.inr e9')⟩⟩) (λe9'=>?_)
     have n2:2<=k2:=by lia
     revert n2 ja' pm6;generalize o.push _++(ys.extract k2 (nb3-1)).reverse=o2;generalize nb3-1-k2=d2;clear e9 e9' k20 jb';revert hk2;generalize k2=m;revert d2 o2 m;refine ?key3
     case d2=>exact ?key3 _ _ _ (M5 _) (λi p h e=>ja' i p (by lia) e) pm5 (by lia)
     intro o2 d2 m hm ja' pm6 n2;refine L8 (aK (by lia) λp4 hp4=>?_)
     rw[hp3]at hp4;cases hp4;have pm7:=pm6.px Sx (by lia) hp3 λj q hj e=>ja' j q hj e
     refine aY (λe10=>M0 ⟨g3,.inl ⟨_,rfl,pm7.done Sx Sy (.inl e10)⟩⟩) (λe10=>?_)
     refine av (λ_=>?_) (λ_=>?_)
     .exact M0 ⟨g3,.inr ⟨rfl,pm7,by dsimp only;lia,by dsimp only;lia,by dsimp only;lia,by dsimp only;lia,by dsimp only;lia⟩⟩
     .exact M0 ⟨g3,rfl,pm7,by dsimp only;lia,by dsimp only;lia,by dsimp only;lia,by dsimp only;lia,by dsimp only;lia⟩
    case post2=>
     rintro⟨o,na3,nb3,out3,mg3,ac3,bc3⟩st3⟨g3,⟨r,e,pr⟩|⟨e,pm3,a3,b3,c3,d3,f3⟩⟩
     .dsimp only at e;subst e;exact M0 ⟨g3,r,rfl,pr⟩
     .dsimp only at e pm3 a3 b3 c3 d3 f3;subst e;dsimp only;refine L8 (MX ?_);exact M0 ⟨g3,rfl,pm3,a3,b3,c3,d3,by dsimp only;lia⟩
end
def Si(lt:Value->Value->Bool)(xs:Array Keyed) (base n:Nat):Prop:=∀(i j:Nat) p q,i<=j->j<n->xs[base+i]?=some p->xs[base+j]?=some q->Le lt q p
def cY(lt:Value->Value->Bool)(xs:Array Keyed) (u v:Nat):Prop:=∀(i j:Nat) p q,u<=i->i<v->u<=j->j<v->xs[i]?=some p->xs[j]?=some q->Le lt p q
def yR(xs ys:Array Keyed) (u v:Nat):Prop:=∀k:Nat,ys[k]?=if u<=k/\k<v then xs[u+v-1-k]? else xs[k]?
section
variable{lt:Value->Value->Bool}(O:Ord lt){xs ys:Array Keyed}{lo n u v:Nat}
include O
def So.one:So lt xs lo 1:=λi j p q ij hj hi hq=>by rw[show i=j by lia,hq]at hi;cases hi;exact O.rfl'
def Si.one:Si lt xs lo 1:=λi j p q ij hj hi hq=>by rw[show i=j by lia,hq]at hi;cases hi;exact O.rfl'
def So.succ(S:So lt xs lo n)(n1:1<=n)(h:∀p q,xs[lo+n-1]?=some p->xs[lo+n]?=some q->Le lt p q)(hz:lo+n<=xs.size):So lt xs lo (n+1):=λi j p q ij hj hi hq=>by
 by_cases c:j<n;{exact S i j p q ij c hi hq};have jn:j=n:=by lia
 subst jn;by_cases ci:i=j;{rw[ci,hq]at hi;cases hi;exact O.rfl'};have em:xs[lo+j-1]?=some (xs[lo+j-1]'(by lia)):=N9 (by lia);refine O.tr (S i (j-1) p _ (by lia) (by lia) hi (by rw[show lo+(j-1)=lo+j-1 by lia];exact em)) (h _ q em hq)
def Si.succ(S:Si lt xs lo n)(n1:1<=n)(h:∀p q,xs[lo+n-1]?=some p->xs[lo+n]?=some q->Le lt q p)(hz:lo+n<=xs.size):Si lt xs lo (n+1):=λi j p q ij hj hi hq=>by
 by_cases c:j<n;{exact S i j p q ij c hi hq};have jn:j=n:=by lia
 subst jn;by_cases ci:i=j;{rw[ci,hq]at hi;cases hi;exact O.rfl'};have em:xs[lo+j-1]?=some (xs[lo+j-1]'(by lia)):=N9 (by lia);exact O.tr (h _ q em hq) (S i (j-1) p _ (by lia) (by lia) hi (by rw[show lo+(j-1)=lo+j-1 by lia];exact em))
omit O in
def Si.rev(S:Si lt xs lo n)(M:yR xs ys lo (lo+n)):So lt ys lo n:=λi j p q ij hj hi hq=>by rw[M,if_pos (by lia)]at hi hq;refine S (n-1-j) (n-1-i) q p (by lia) (by lia) ?_ ?_;{rw[show lo+(n-1-j)=lo+(lo+n)-1-(lo+j)by lia];exact hq};rw[show lo+(n-1-i)=lo+(lo+n)-1-(lo+i)by lia];exact hi
omit O in
def Si.iQ(S:Si lt xs lo n)(E:cY lt xs u v)(h1:lo<=u)(h2:v<=lo+n)(M:yR xs ys u v):Si lt ys lo n:=λi j p q ij hj hi hq=>by rw[M]at hi hq;have at_:∀(a b:Nat),lo<=a->a<=b->b<lo+n->xs[a]?=some p->xs[b]?=some q->Le lt q p:=λa b ha hab hb ea eb=>S (a-lo) (b-lo) p q (by lia) (by lia) (by rw[show lo+(a-lo)=a by lia];exact ea) (by rw[show lo+(b-lo)=b by lia];exact eb);by_cases c1:u<=lo+i/\lo+i<v;{rw[if_pos c1]at hi;by_cases c2:u<=lo+j/\lo+j<v;{rw[if_pos c2]at hq;exact E _ _ q p (by lia) (by lia) (by lia) (by lia) hq hi};rw[if_neg c2]at hq;exact at_ _ _ (by lia) (by lia) (by lia) hi hq};rw[if_neg c1]at hi;by_cases c2:u<=lo+j/\lo+j<v;{rw[if_pos c2]at hq;exact at_ _ _ (by lia) (by lia) (by lia) hi hq};rw[if_neg c2]at hq;exact at_ _ _ (by lia) (by lia) (by lia) hi hq
def cY.one:cY lt xs u (u+1):=λi j p q h1 h2 h3 h4 hi hq=>by rw[show i=j by lia,hq]at hi;cases hi;exact O.rfl'
def cY.succ(E:cY lt xs u v)(uv:u<v)(h:∀p q,xs[v-1]?=some p->xs[v]?=some q->Le lt p q/\Le lt q p)(hz:v<=xs.size):cY lt xs u (v+1):=λi j p q h1 h2 h3 h4 hi hq=>by have em:xs[v-1]?=some (xs[v-1]'(by lia)):=N9 (by lia);by_cases ci:i=v;{by_cases cj:j=v;{rw[ci,<-cj,hq]at hi;cases hi;exact O.rfl'};rw[ci]at hi;exact O.tr (h _ p em hi).2 (E (v-1) j _ q (by lia) (by lia) (by lia) (by lia) em hq)};by_cases cj:j=v;{rw[cj]at hq;exact O.tr (E i (v-1) p _ (by lia) (by lia) (by lia) (by lia) hi em) (h _ q em hq).1};exact E i j p q h1 (by lia) h3 (by lia) hi hq
def So.eqs(S:So lt xs lo n)(n1:1<=n)(h:∀p q,xs[lo]?=some p->xs[lo+n-1]?=some q->Le lt q p)(hz:lo+n<=xs.size):cY lt xs lo (lo+n):=λi j p q h1 h2 h3 h4 hi hq=>by have e0:xs[lo]?=some (xs[lo]'(by lia)):=N9 (by lia);have em:xs[lo+n-1]?=some (xs[lo+n-1]'(by lia)):=N9 (by lia);have a:=S (i-lo) (n-1) p _ (by lia) (by lia) (by rw[show lo+(i-lo)=i by lia];exact hi) (by rw[show lo+(n-1)=lo+n-1 by lia];exact em);have b:=S 0 (j-lo) _ q (by lia) (by lia) e0 (by rw[show lo+(j-lo)=j by lia];exact hq);exact O.tr (O.tr a (h _ _ e0 em)) b
omit O in
def cY.si(E:cY lt xs lo (lo+n)):Si lt xs lo n:=λi j p q ij hj hi hq=>E _ _ q p (by lia) (by lia) (by lia) (by lia) hq hi
omit O in
def cY.iQ(E:cY lt xs u v)(M:yR xs ys u v):cY lt ys u v:=λi j p q h1 h2 h3 h4 hi hq=>by rw[M,if_pos ⟨by assumption,by assumption⟩]at hi hq;exact E _ _ p q (by lia) (by lia) (by lia) (by lia) hi hq
omit O in
def So.ins{l x:Nat}(S:So lt xs lo x)(hlx:l<=x)(hl:∀(i:Nat) p q,i<l->xs[lo+i]?=some p->xs[lo+x]?=some q->Le lt p q)(hr:∀(i:Nat) p q,l<=i->i<x->xs[lo+i]?=some p->xs[lo+x]?=some q->Le lt q p)(O:Ord lt)(hb:∀k:Nat,ys[k]?=if k=lo+l then xs[lo+x]? else if lo+l<k/\k<=lo+x then xs[k-1]? else xs[k]?):So lt ys lo (x+1):=λi j p q ij hj hi hq=>by rw[hb]at hi hq;by_cases ci:i=l;{rw[if_pos (by lia)]at hi;by_cases cj:j=l;{rw[if_pos (by lia),hi]at hq;cases hq;exact O.rfl'};rw[if_neg (by lia),if_pos (by lia),show lo+j-1=lo+(j-1)by lia]at hq;exact hr (j-1) q p (by lia) (by lia) hq hi};by_cases cj:j=l;{rw[if_pos (by lia)]at hq;rw[if_neg (by lia),if_neg (by lia)]at hi;exact hl i p q (by lia) hi hq};by_cases ci2:l<i;{rw[if_neg (by lia),if_pos (by lia),show lo+i-1=lo+(i-1)by lia]at hi;rw[if_neg (by lia),if_pos (by lia),show lo+j-1=lo+(j-1)by lia]at hq;exact S (i-1) (j-1) p q (by lia) (by lia) hi hq};rw[if_neg (by lia),if_neg (by lia)]at hi;by_cases cj2:l<j;{rw[if_neg (by lia),if_pos (by lia),show lo+j-1=lo+(j-1)by lia]at hq;exact S i (j-1) p q (by lia) (by lia) hi hq};rw[if_neg (by lia),if_neg (by lia)]at hq;exact S i j p q ij (by lia) hi hq
end
section
variable{prog:Program}{w:World}{A:Around}{E:QC}{s:Shared}{kd:SortKind}{P:Value->Prop}{xs0:Array Keyed}{lt:Value->Value->Bool}
def dh{st:SortSt}{i j:Nat}(L:gg prog w A s kd P lt)(G:Good P xs0)(B:SB kd xs0 st)(hi:i<xs0.size)(hj:j<xs0.size)(h:∀p q,(arrOf st)[i]?=some p->(arrOf st)[j]?=some q->Q (some (lt p.1 q.1)) st):wpS (model prog w) A E s (ltAt' i j) Q st:=by rw[ltAt'_eq];refine L8 (wpS_get ?_);have G':=G.perm B.perm;refine L8 (aK (by rw[B.size];exact hi) λp hp=>?_);refine L8 (aK (by rw[B.size];exact hj) λq hq=>?_);exact uW L B.kind (G' _ _ hp) (G' _ _ hq) (h p q hp hq)
def fh{st:SortSt}{i j:Nat}(B:SB kd xs0 st)(hj:j<=xs0.size)(h:∀st',SB kd xs0 st'->pendingOf st'=pendingOf st->yR (arrOf st) (arrOf st') i j->Q () st'):wpS (model prog w) A E s (reverseSlice' i j) Q st:=by rw[reverseSlice'_eq];exact MX (h _ ⟨(mirror_perm _ _ _ _).trans B.perm,B.kind,B.ok⟩ rfl λk=>getElem?_mirror_all (by rw[B.size];exact hj) k)
def Fx(lo:Nat)(st st':SortSt):Prop:=∀i:Nat,i<lo->(arrOf st')[i]?=(arrOf st)[i]?
def Fx.iQ{lo u v:Nat}{st st' st2:SortSt}(F:Fx lo st st')(M:yR (arrOf st') (arrOf st2) u v)(h:lo<=u):Fx lo st st2:=λi hi=>by rw[M,if_neg (by lia)];exact F i hi
def HL{st:SortSt}{lo nrem:Nat}(O:Ord lt)(L:gg prog w A s kd P lt)(G:Good P xs0)(B:SB kd xs0 st)(h1:1<=nrem)(hn:lo+nrem<=xs0.size)(h:∀m st',SB kd xs0 st'->pendingOf st'=pendingOf st->1<=m->m<=nrem->So lt (arrOf st') lo m->Fx lo st st'->Q (some m) st') : wpS (model prog w) A E s (countRun' lo nrem) Q st:=by
 unfold countRun';have sz:=B.size;refine L8 (MD (ME (I:=λx c st'=>st'=st/\c.1=none/\c.2=x/\So lt (arrOf st) lo x) (Q:=λc st'=>st'=st/\c.1=none/\1<=c.2/\c.2<=nrem/\So lt (arrOf st) lo c.2/\(c.2<nrem->∀p q,(arrOf st)[lo+c.2-1]?=some p->(arrOf st)[lo+c.2]?=some q->lt q.1 p.1=true)) ?step ?fin ⟨rfl,rfl,rfl,So.one O⟩) ?post)
 case step=>
  rintro x⟨o,n⟩st' a b⟨rfl,rfl,rfl,S⟩;dsimp only at a b S⊢;refine L8 (dh L G B (by lia) (by lia) λp q hp hq=>?_)
  dsimp only;refine av (λcs=>M0 ⟨rfl,rfl,by dsimp only;lia,by dsimp only;lia,S,λ_ p' q' hp' hq'=>?_⟩) (λcs=>M0 ⟨rfl,rfl,rfl,So.succ O S (by lia) (λp' q' hp' hq'=>?_) (by lia)⟩)
  .dsimp only at hp' hq';rw[hq]at hp';rw[hp]at hq';cases hp';cases hq';exact cs
  .rw[hq]at hp';rw[hp]at hq';cases hp';cases hq';show lt p.1 q.1=false
   simpa using cs
 case fin=>
  rintro⟨o,n⟩st'⟨rfl,rfl,e,S⟩;dsimp only at e S;rw[<-e]at S;exact⟨rfl,rfl,by dsimp only;lia,by dsimp only;lia,S,λz=>by dsimp only at z;lia⟩
 case post=>
  rintro⟨o,n⟩st'⟨rfl,rfl,n1,n2,S,fall⟩;dsimp only at n1 n2 S fall⊢;have F0:Fx lo st' st':=λ_ _=>rfl
  refine aY (λe=>M0 (h _ _ B rfl n1 n2 S F0)) (λe=>?_)
  have fall:=fall (by lia)
  refine av (λn0=>?_) (λn0=>?_)
  .refine L8 (dh L G B (by lia) (by lia) λp q hp hq=>?_)
   dsimp only;refine av (λ_=>M0 (h _ _ B rfl n1 n2 S F0)) (λcr=>?_)
   have E0:cY lt (arrOf st') lo (lo+n):=So.eqs O S n1 (λp' q' hp' hq'=>by
    rw[hp]at hp';rw[hq]at hq';cases hp';cases hq';show lt p.1 q.1=false
    simpa using cr) (by lia)
   refine L8 (fh B (by lia) λst6 B6 p6 M6=>?_)
   have F6:Fx lo st' st6:=F0.iQ M6 (M5 _);have E0':=E0.iQ M6;have S6:Si lt (arrOf st6) lo (n+1):=Si.succ O E0'.si n1 (λp' q' hp' hq'=>by
    rw[M6,if_neg (by lia)]at hq'
    rw[M6,if_pos (by lia)]at hp'
    have em:(arrOf st')[lo+n-1]?=some ((arrOf st')[lo+n-1]'(by lia)):=N9 (by lia)
    exact O.tr (O.of (fall _ q' em hq')) (E0 (lo+n-1) _ _ p' (by lia) (by lia) (by lia) (by lia) em hp')) (by rw[B6.size];lia)
   have E6:cY lt (arrOf st6) (lo+(n+1)-(0+1)) (lo+(n+1)):=by
    rw[show lo+(n+1)-(0+1)=lo+n by lia]
    exact cY.one O
   refine L8 (Mp (Ml ⟨rfl,?_⟩));refine L8 (MD (ME (I:=λx c st2=>SB kd xs0 st2/\pendingOf st2=pendingOf st'/\c.1=none/\c.2.1=x/\Si lt (arrOf st2) lo x/\c.2.2+1<=x/\cY lt (arrOf st2) (lo+x-(c.2.2+1)) (lo+x)/\Fx lo st' st2) (Q:=λc st2=>SB kd xs0 st2/\pendingOf st2=pendingOf st'/\c.1=none/\1<=c.2.1/\c.2.1<=nrem/\Si lt (arrOf st2) lo c.2.1/\c.2.2+1<=c.2.1/\cY lt (arrOf st2) (lo+c.2.1-(c.2.2+1)) (lo+c.2.1)/\Fx lo st' st2) ?step1 ?fin1 ⟨B6,p6,rfl,rfl,S6,by dsimp only;lia,E6,F6⟩) ?post1)
   case step1=>
    rintro x⟨o,m,nq⟩st2 a b⟨B2,p2,rfl,rfl,S2,l2,E2,F2⟩;dsimp only at a b S2 l2 E2⊢;have z2:=B2.size;refine L8 (dh L G B2 (by lia) (by lia) λp q hp hq=>?_)
    dsimp only;refine av (λcs=>?_) (λcs=>?_)
    .have S3:=Si.succ O S2 (by lia) (λp' q' hp' hq'=>by
      rw[hq]at hp';rw[hp]at hq';cases hp';cases hq';exact O.of cs) (by lia)
     refine av (λ_=>?_) (λ_=>?_)
     .refine L8 (fh B2 (by lia) λst3 B3 p3 M3=>M0 ⟨B3,p3.trans p2,rfl,rfl,S3.iQ E2 (by lia) (by lia) M3,by dsimp only;lia,?_,F2.iQ M3 (by lia)⟩)
      dsimp only;rw[show lo+(m+1)-(0+1)=lo+m by lia]
      exact cY.one O
     .refine M0 ⟨B2,p2,rfl,rfl,S3,by dsimp only;lia,?_,F2⟩
      dsimp only;rw[show lo+(m+1)-(0+1)=lo+m by lia]
      exact cY.one O
    .refine L8 (dh L G B2 (by lia) (by lia) λp2' q2' hp2 hq2=>?_)
     rw[hq]at hp2;rw[hp]at hq2;cases hp2;cases hq2;dsimp only;refine av (λcl=>?_) (λcl=>?_)
     .exact M0 ⟨B2,p2,rfl,by dsimp only;lia,by dsimp only;lia,S2,l2,E2,F2⟩
     .have e1:Le lt q p:=by
       show lt p.1 q.1=false
       simpa using cs
      have e2:Le lt p q:=by
       show lt q.1 p.1=false
       simpa using cl
      refine M0 ⟨B2,p2,rfl,rfl,Si.succ O S2 (by lia) (λp' q' hp' hq'=>?_) (by lia),by dsimp only;lia,?_,F2⟩
      .rw[hq]at hp';rw[hp]at hq';cases hp';cases hq';exact e2
      .dsimp only;rw[show lo+(m+1)-(nq+1+1)=lo+m-(nq+1)by lia]
       show cY lt (arrOf st2) (lo+m-(nq+1)) (lo+m+1);refine cY.succ O E2 (by lia) (λp' q' hp' hq'=>?_) (by lia)
       rw[hq]at hp';rw[hp]at hq';cases hp';cases hq';exact⟨e1,e2⟩
   case fin1=>
    rintro⟨o,m,nq⟩st2⟨B2,p2,rfl,e2,S2,l2,E2,F2⟩;dsimp only at e2 S2 l2 E2;rw[<-e2]at S2 l2 E2;exact⟨B2,p2,rfl,by dsimp only;lia,by dsimp only;lia,S2,l2,E2,F2⟩
   case post1=>
    rintro⟨o,m,nq⟩st2⟨B2,p2,rfl,m1,m2,S2,l2,E2,F2⟩;dsimp only at m1 m2 S2 l2 E2⊢;refine av (λ_=>?_) (λ_=>?_)
    .refine L8 (fh B2 (by lia) λst3 B3 p3 M3=>?_)
     have S3:=S2.iQ E2 (by lia) (by lia) M3
     refine L8 (fh B3 (by lia) λst4 B4 p4 M4=>?_)
     have S4:=S3.rev M4;have F4:Fx lo st' st4:=(F2.iQ M3 (by lia)).iQ M4 (M5 _)
     refine L8 (MD (ME (I:=λx c st5=>st5=st4/\c.1=none/\c.2=x/\So lt (arrOf st4) lo x) (Q:=λc st5=>st5=st4/\c.1=none/\1<=c.2/\c.2<=nrem/\So lt (arrOf st4) lo c.2) ?stepL1a ?finL1a ⟨rfl,rfl,rfl,S4⟩) ?postL1a)
     case stepL1a=>
      rintro x⟨o,m⟩st5 a b⟨rfl,rfl,rfl,S5⟩;dsimp only at a b S5⊢;refine L8 (dh L G B4 (by lia) (by lia) λp q hp hq=>?_)
      dsimp only;refine av (λ_=>M0 ⟨rfl,rfl,by dsimp only;lia,by dsimp only;lia,S5⟩) (λcc=>M0 ⟨rfl,rfl,rfl,So.succ O S5 (by lia) (λp' q' hp' hq'=>?_) (by rw[B4.size];lia)⟩)
      rw[hq]at hp';rw[hp]at hq';cases hp';cases hq';show lt p.1 q.1=false
      simpa using cc
     case finL1a=>
      rintro⟨o,m⟩st5⟨rfl,rfl,e2,S5⟩;dsimp only at e2 S5;rw[<-e2]at S5;exact⟨rfl,rfl,by dsimp only;lia,by dsimp only;lia,S5⟩
     case postL1a=>
      rintro⟨o,m⟩st5⟨rfl,rfl,k1,k2,S5⟩;dsimp only at k1 k2 S5⊢;exact M0 (h _ _ B4 (p4.trans (p3.trans p2)) k1 k2 S5 F4)
    .refine L8 (fh B2 (by lia) λst4 B4 p4 M4=>?_)
     have S4:=S2.rev M4;have F4:Fx lo st' st4:=F2.iQ M4 (M5 _);refine L8 (MD (ME (I:=λx c st5=>st5=st4/\c.1=none/\c.2=x/\So lt (arrOf st4) lo x) (Q:=λc st5=>st5=st4/\c.1=none/\1<=c.2/\c.2<=nrem/\So lt (arrOf st4) lo c.2) ?stepL1b ?finL1b ⟨rfl,rfl,rfl,S4⟩) ?postL1b)
     case stepL1b=>
      rintro x⟨o,m⟩st5 a b⟨rfl,rfl,rfl,S5⟩;dsimp only at a b S5⊢;refine L8 (dh L G B4 (by lia) (by lia) λp q hp hq=>?_)
      dsimp only;refine av (λ_=>M0 ⟨rfl,rfl,by dsimp only;lia,by dsimp only;lia,S5⟩) (λcc=>M0 ⟨rfl,rfl,rfl,So.succ O S5 (by lia) (λp' q' hp' hq'=>?_) (by rw[B4.size];lia)⟩)
      rw[hq]at hp';rw[hp]at hq';cases hp';cases hq';show lt p.1 q.1=false
      simpa using cc
     case finL1b=>
      rintro⟨o,m⟩st5⟨rfl,rfl,e2,S5⟩;dsimp only at e2 S5;rw[<-e2]at S5;exact⟨rfl,rfl,by dsimp only;lia,by dsimp only;lia,S5⟩
     case postL1b=>
      rintro⟨o,m⟩st5⟨rfl,rfl,k1,k2,S5⟩;dsimp only at k1 k2 S5⊢;exact M0 (h _ _ B4 (p4.trans p2) k1 k2 S5 F4)
  .have n01:n=1:=by lia
   subst n01;have p6:pendingOf st'=pendingOf st':=rfl;have B6:=B;have F6:=F0;have S6:Si lt (arrOf st') lo (1+1):=Si.succ O (Si.one O) (M5 _) (λp' q' hp' hq'=>O.of (fall p' q' hp' hq')) (by lia)
   have E6:cY lt (arrOf st') (lo+(1+1)-(0+1)) (lo+(1+1)):=by
    rw[show lo+(1+1)-(0+1)=lo+1 by lia]
    exact cY.one O
   refine L8 (Mp (Ml ⟨rfl,?_⟩));refine L8 (MD (ME (I:=λx c st2=>SB kd xs0 st2/\pendingOf st2=pendingOf st'/\c.1=none/\c.2.1=x/\Si lt (arrOf st2) lo x/\c.2.2+1<=x/\cY lt (arrOf st2) (lo+x-(c.2.2+1)) (lo+x)/\Fx lo st' st2) (Q:=λc st2=>SB kd xs0 st2/\pendingOf st2=pendingOf st'/\c.1=none/\1<=c.2.1/\c.2.1<=nrem/\Si lt (arrOf st2) lo c.2.1/\c.2.2+1<=c.2.1/\cY lt (arrOf st2) (lo+c.2.1-(c.2.2+1)) (lo+c.2.1)/\Fx lo st' st2) ?step2 ?fin2 ⟨B6,p6,rfl,rfl,S6,by dsimp only;lia,E6,F6⟩) ?post2)
   case step2=>
    rintro x⟨o,m,nq⟩st2 a b⟨B2,p2,rfl,rfl,S2,l2,E2,F2⟩;dsimp only at a b S2 l2 E2⊢;have z2:=B2.size;refine L8 (dh L G B2 (by lia) (by lia) λp q hp hq=>?_)
    dsimp only;refine av (λcs=>?_) (λcs=>?_)
    .have S3:=Si.succ O S2 (by lia) (λp' q' hp' hq'=>by
      rw[hq]at hp';rw[hp]at hq';cases hp';cases hq';exact O.of cs) (by lia)
     refine av (λ_=>?_) (λ_=>?_)
     .refine L8 (fh B2 (by lia) λst3 B3 p3 M3=>M0 ⟨B3,p3.trans p2,rfl,rfl,S3.iQ E2 (by lia) (by lia) M3,by dsimp only;lia,?_,F2.iQ M3 (by lia)⟩)
      dsimp only;rw[show lo+(m+1)-(0+1)=lo+m by lia]
      exact cY.one O
     .refine M0 ⟨B2,p2,rfl,rfl,S3,by dsimp only;lia,?_,F2⟩
      dsimp only;rw[show lo+(m+1)-(0+1)=lo+m by lia]
      exact cY.one O
    .refine L8 (dh L G B2 (by lia) (by lia) λp2' q2' hp2 hq2=>?_)
     rw[hq]at hp2;rw[hp]at hq2;cases hp2;cases hq2;dsimp only;refine av (λcl=>?_) (λcl=>?_)
     .exact M0 ⟨B2,p2,rfl,by dsimp only;lia,by dsimp only;lia,S2,l2,E2,F2⟩
     .have e1:Le lt q p:=by
       show lt p.1 q.1=false
       simpa using cs
      have e2:Le lt p q:=by
       show lt q.1 p.1=false
       simpa using cl
      refine M0 ⟨B2,p2,rfl,rfl,Si.succ O S2 (by lia) (λp' q' hp' hq'=>?_) (by lia),by dsimp only;lia,?_,F2⟩
      .rw[hq]at hp';rw[hp]at hq';cases hp';cases hq';exact e2
      .dsimp only;rw[show lo+(m+1)-(nq+1+1)=lo+m-(nq+1)by lia]
       show cY lt (arrOf st2) (lo+m-(nq+1)) (lo+m+1);refine cY.succ O E2 (by lia) (λp' q' hp' hq'=>?_) (by lia)
       rw[hq]at hp';rw[hp]at hq';cases hp';cases hq';exact⟨e1,e2⟩
   case fin2=>
    rintro⟨o,m,nq⟩st2⟨B2,p2,rfl,e2,S2,l2,E2,F2⟩;dsimp only at e2 S2 l2 E2;rw[<-e2]at S2 l2 E2;exact⟨B2,p2,rfl,by dsimp only;lia,by dsimp only;lia,S2,l2,E2,F2⟩
   case post2=>
    rintro⟨o,m,nq⟩st2⟨B2,p2,rfl,m1,m2,S2,l2,E2,F2⟩;dsimp only at m1 m2 S2 l2 E2⊢;refine av (λ_=>?_) (λ_=>?_)
    .refine L8 (fh B2 (by lia) λst3 B3 p3 M3=>?_)
     have S3:=S2.iQ E2 (by lia) (by lia) M3
     refine L8 (fh B3 (by lia) λst4 B4 p4 M4=>?_)
     have S4:=S3.rev M4;have F4:Fx lo st' st4:=(F2.iQ M3 (by lia)).iQ M4 (M5 _)
     refine L8 (MD (ME (I:=λx c st5=>st5=st4/\c.1=none/\c.2=x/\So lt (arrOf st4) lo x) (Q:=λc st5=>st5=st4/\c.1=none/\1<=c.2/\c.2<=nrem/\So lt (arrOf st4) lo c.2) ?stepL2a ?finL2a ⟨rfl,rfl,rfl,S4⟩) ?postL2a)
     case stepL2a=>
      rintro x⟨o,m⟩st5 a b⟨rfl,rfl,rfl,S5⟩;dsimp only at a b S5⊢;refine L8 (dh L G B4 (by lia) (by lia) λp q hp hq=>?_)
      dsimp only;refine av (λ_=>M0 ⟨rfl,rfl,by dsimp only;lia,by dsimp only;lia,S5⟩) (λcc=>M0 ⟨rfl,rfl,rfl,So.succ O S5 (by lia) (λp' q' hp' hq'=>?_) (by rw[B4.size];lia)⟩)
      rw[hq]at hp';rw[hp]at hq';cases hp';cases hq';show lt p.1 q.1=false
      simpa using cc
     case finL2a=>
      rintro⟨o,m⟩st5⟨rfl,rfl,e2,S5⟩;dsimp only at e2 S5;rw[<-e2]at S5;exact⟨rfl,rfl,by dsimp only;lia,by dsimp only;lia,S5⟩
     case postL2a=>
      rintro⟨o,m⟩st5⟨rfl,rfl,k1,k2,S5⟩;dsimp only at k1 k2 S5⊢;exact M0 (h _ _ B4 (p4.trans (p3.trans p2)) k1 k2 S5 F4)
    .refine L8 (fh B2 (by lia) λst4 B4 p4 M4=>?_)
     have S4:=S2.rev M4;have F4:Fx lo st' st4:=F2.iQ M4 (M5 _);refine L8 (MD (ME (I:=λx c st5=>st5=st4/\c.1=none/\c.2=x/\So lt (arrOf st4) lo x) (Q:=λc st5=>st5=st4/\c.1=none/\1<=c.2/\c.2<=nrem/\So lt (arrOf st4) lo c.2) ?stepL2b ?finL2b ⟨rfl,rfl,rfl,S4⟩) ?postL2b)
     case stepL2b=>
      rintro x⟨o,m⟩st5 a b⟨rfl,rfl,rfl,S5⟩;dsimp only at a b S5⊢;refine L8 (dh L G B4 (by lia) (by lia) λp q hp hq=>?_)
      dsimp only;refine av (λ_=>M0 ⟨rfl,rfl,by dsimp only;lia,by dsimp only;lia,S5⟩) (λcc=>M0 ⟨rfl,rfl,rfl,So.succ O S5 (by lia) (λp' q' hp' hq'=>?_) (by rw[B4.size];lia)⟩)
      rw[hq]at hp';rw[hp]at hq';cases hp';cases hq';show lt p.1 q.1=false
      simpa using cc
     case finL2b=>
      rintro⟨o,m⟩st5⟨rfl,rfl,e2,S5⟩;dsimp only at e2 S5;rw[<-e2]at S5;exact⟨rfl,rfl,by dsimp only;lia,by dsimp only;lia,S5⟩
     case postL2b=>
      rintro⟨o,m⟩st5⟨rfl,rfl,k1,k2,S5⟩;dsimp only at k1 k2 S5⊢;exact M0 (h _ _ B4 (p4.trans p2) k1 k2 S5 F4)
def Lf{st:SortSt}{lo n k:Nat}(O:Ord lt)(L:gg prog w A s kd P lt)(G:Good P xs0)(B:SB kd xs0 st)(hn:lo+n<=xs0.size)(hk:1<=k)(kn:k<=n)(S:So lt (arrOf st) lo k)(h:∀st',SB kd xs0 st'->pendingOf st'=pendingOf st->So lt (arrOf st') lo n->Fx lo st st'->Q true st') : wpS (model prog w) A E s (binarySort' lo n k) Q st:=by
 rw[binarySort'_eq];have mk:max k 1=k:=by lia
 rw[mk];refine L8 (MD (ME (I:=λx c st'=>SB kd xs0 st'/\pendingOf st'=pendingOf st/\c.1=none/\So lt (arrOf st') lo x/\Fx lo st st') (Q:=λc st'=>SB kd xs0 st'/\pendingOf st'=pendingOf st/\c.1=none/\So lt (arrOf st') lo n/\Fx lo st st') ?step ?fin ⟨B,rfl,rfl,S,λ_ _=>rfl⟩) ?post)
 case post=>
  rintro⟨o,u⟩st'⟨B1,p1,rfl,S1,F1⟩;exact M0 (h _ B1 p1 S1 F1)
 case fin=>
  rintro⟨o,u⟩st'⟨B1,p1,e,S1,F1⟩;rw[show max k n=n by lia]at S1
  exact⟨B1,p1,e,S1,F1⟩
 case step=>
  rintro x⟨o,u⟩st' a b⟨B1,p1,rfl,S1,F1⟩;have z1:=B1.size;have ex:(arrOf st')[lo+x]?=some ((arrOf st')[lo+x]'(by lia)):=N9 (by lia)
  generalize (arrOf st')[lo+x]'(by lia)=pv at ex
  dsimp only;refine L8 (MD (ME (I:=λy c st2=>st2=st'/\c.1=none/\c.2.1<=c.2.2/\c.2.2<=x/\c.2.2-c.2.1+y<=x/\(∀(i:Nat) p,i<c.2.1->(arrOf st')[lo+i]?=some p->Le lt p pv)/\(∀(i:Nat) p,c.2.2<=i->i<x->(arrOf st')[lo+i]?=some p->Le lt pv p)) (Q:=λc st2=>st2=st'/\c.1=none/\c.2.1<=x/\(∀(i:Nat) p,i<c.2.1->(arrOf st')[lo+i]?=some p->Le lt p pv)/\(∀(i:Nat) p,c.2.1<=i->i<x->(arrOf st')[lo+i]?=some p->Le lt pv p)) ?step1 ?fin1 ⟨rfl,rfl,Mq _,M5 _,by dsimp only;lia,λi p hi=>absurd hi (OB _),λi p h1 h2=>absurd h2 (by dsimp only at h1;lia)⟩) ?post1)
  case step1=>
   rintro y⟨o,l,r⟩st2 _ _⟨rfl,rfl,q1,q2,q3,q4,q5⟩;dsimp only at q1 q2 q3 q4 q5⊢;refine av (λc=>?_) (λlr=>?_)
   .have:l=r:=by lia
    subst this;exact M0 ⟨rfl,rfl,q2,q4,q5⟩
   refine L8 (dh L G B1 (by lia) (by lia) λp q hp hq=>?_)
   rw[ex]at hp;cases hp;dsimp only;refine av (λc=>M0 ⟨rfl,rfl,by dsimp only;lia,by dsimp only;lia,by dsimp only;lia,q4,λi p' h1 h2 e=>?_⟩) (λc=>M0 ⟨rfl,rfl,by dsimp only;lia,by dsimp only;lia,by dsimp only;lia,λi p' h1 e=>?_,q5⟩)
   .exact O.tr (O.of c) (S1 _ i _ _ (by dsimp only at h1;lia) h2 hq e)
   .exact O.tr (S1 i _ _ _ (by dsimp only at h1;lia) (by lia) e hq) (show lt pv.1 q.1=false by simpa using c)
  case fin1=>
   rintro⟨o,l,r⟩st2⟨q0,qn,q1,q2,q3,q4,q5⟩;dsimp only at q1 q2 q3 q4 q5;have:l=r:=by lia
   subst this;exact⟨q0,qn,q2,q4,q5⟩
  case post1=>
   rintro⟨o,l,r⟩st2⟨rfl,rfl,le,q4,q5⟩;dsimp only at le q4 q5⊢;refine L8 (MX ?_);have hb:∀k:Nat,(bubble (arrOf st2) (lo+x) (lo+x-(lo+l)))[k]?=if k=lo+l then(arrOf st2)[lo+x]? else if lo+l<k/\k<=lo+x then(arrOf st2)[k-1]? else(arrOf st2)[k]?:=λk=>by rw[getElem?_bubble (by lia) _ (by lia) k,show lo+x-(lo+x-(lo+l))=lo+l by lia]
   refine M0 ⟨⟨(bubble_perm _ _ _).trans B1.perm,B1.kind,B1.ok⟩,p1,rfl,?_,?_⟩
   .refine S1.ins le (λi p q h1 e1 e2=>?_) (λi p q h1 h2 e1 e2=>?_) O hb
    .rw[ex]at e2;cases e2;exact q4 i p h1 e1
    .rw[ex]at e2;cases e2;exact q5 i p h1 h2 e1
   .intro i hi;show(bubble (arrOf st2) (lo+x) (lo+x-(lo+l)))[i]?=_;rw[hb,if_neg (by lia),if_neg (by lia)]
    exact F1 i hi
end
section
variable{lt:Value->Value->Bool}
def So.join(O:Ord lt){s n m:Nat}(S:So lt a s n)(T:So lt a (s+n) m)(h:∀(i j:Nat) p q,i<n->j<m->a[s+i]?=some p->a[s+n+j]?=some q->Le lt p q):So lt a s (n+m):=λi j p q ij hj hi hq=>by by_cases ci:i<n;{by_cases cj:j<n;{exact S i j p q ij cj hi hq};refine h i (j-n) p q ci (by lia) hi ?_;rw[show s+n+(j-n)=s+j by lia];exact hq};refine T (i-n) (j-n) p q (by lia) (by lia) ?_ ?_;{rw[show s+n+(i-n)=s+i by lia];exact hi};rw[show s+n+(j-n)=s+j by lia];exact hq
def So.at{s n:Nat}(S:So lt a s n){i j:Nat}(h1:s<=i)(h2:i<=j)(h3:j<s+n)(hi:a[i]?=some p)(hq:a[j]?=some q):Le lt p q:=
 S (i-s) (j-s) p q (by lia) (by lia) (by rw[show s+(i-s)=i by lia];exact hi) (by rw[show s+(j-s)=j by lia];exact hq)
def So.frame{s n:Nat}(S:So lt a s n)(h:∀i:Nat,s<=i->i<s+n->a'[i]?=a[i]?):So lt a' s n:=λi j p q ij hj hi hq=>by rw[h _ (by lia) (by lia)]at hi hq;exact S i j p q ij hj hi hq
def So.sa{s n u v:Nat}(S:So lt a s n)(h1:s<=u)(h2:v<=s+n):Sa lt (a.extract u v):=λi j p q ij hi hq=>by rw[O5]at hi hq;split at hi;{split at hq;{exact S.at (by lia) (by lia) (by lia) hi hq};cases hq};cases hi
def zU(O:Ord lt){zs:Array Keyed}(h:zs.toList.Pairwise (Le lt)){i j:Nat}(ij:i<=j)(hi:zs[i]?=some p)(hq:zs[j]?=some q):Le lt p q:=by rcases Nat.eq_or_lt_of_le ij with e|l;{rw[e,hq]at hi;cases hi;exact O.rfl'};rw[<-Mf]at hi hq;obtain⟨h1,e1⟩:=N2.mp hi;obtain⟨h2,e2⟩:=N2.mp hq;have:=OA.mp h i j h1 h2 l;rw[e1,e2]at this;exact this
end
section
variable{prog:Program}{w:World}{A:Around}{E:QC}{s:Shared}{kd:SortKind}{P:Value->Prop}{xs0:Array Keyed}{lt:Value->Value->Bool}
def FY{st:SortSt}{i sa na pw sb nb pb:Nat}{Q:Bool->SortSt->Prop}(O:Ord lt)(L:gg prog w A s kd P lt)(G:Good P xs0)(B:SB kd xs0 st)(e1:(pendingOf st)[i]?=some (sa,na,pw))(e2:(pendingOf st)[i+1]?=some (sb,nb,pb))(c:sb=sa+na)(n1:1<=na)(n2:1<=nb)(le:sb+nb<=xs0.size)(SA:So lt (arrOf st) sa na)(SB':So lt (arrOf st) sb nb)(h:∀st',SB kd xs0 st'->pendingOf st'=((pendingOf st).setIfInBounds i (sa,na+nb,pw)).eraseIdxIfInBounds (i+1)->So lt (arrOf st') sa (na+nb)->(∀j:Nat,(j<sa\/sb+nb<=j)->(arrOf st')[j]?=(arrOf st)[j]?)->Q true st'):wpS (model prog w) A E s (mergeAt' i) Q st:=by
 have G':=G.perm B.perm;have sz:=B.size;unfold mergeAt';refine L8 (wpS_get ?_);dsimp only;rw[e1,e2];dsimp only;refine L8 (?_:wpS _ _ _ _ (set _) _ _);unfold wpS;rw[StateT.run_set];refine M8 ⟨rfl,?_⟩;refine L8 (aK (by rw[sz];lia) λp hp=>?_)
 have B1:SB kd xs0 (SortSt.mk' (kindOf st) (arrOf st) (((pendingOf st).setIfInBounds i (sa,na+nb,pw)).eraseIdxIfInBounds (i+1)) (gallopOf st) (failedOf st)):=⟨B.perm,B.kind,B.ok⟩;refine L8 (i6 O L B.kind (G' _ _ hp) G' (show sa+na<=(arrOf st).size by lia) (by lia) SA λk hk ka kb=>?_)
 have ka':∀(x y:Nat) p' q',sa<=x->x<sa+k->sb<=y->y<sb+nb->(arrOf st)[x]?=some p'->(arrOf st)[y]?=some q'->Le lt p' q':=λx y p' q' h1 h2 h3 h4 ex ey=>O.tr (ka (x-sa) p' (by lia) (by rw[show sa+(x-sa)=x by lia];exact ex)) (SB'.at (M5 _) h3 h4 hp ey)
 dsimp only;refine aY (λe3=>?_) (λe3=>?_)
 .subst c;refine M0 (h _ B1 rfl (SA.join O SB' λx y p' q' hx hy ex ey=>ka' _ _ p' q' (by lia) (by lia) (by lia) (by lia) ex ey) λ_ _=>rfl)
 refine L8 (aK (show sa+k+(na-k)-1<(arrOf st).size by lia) λp2 hp2=>?_)
 rw[show sa+k+(na-k)-1=sb-1 by lia]at hp2
 refine L8 (i6 O L B.kind (G' _ _ hp2) G' (show sb+nb<=(arrOf st).size by lia) (by lia) SB' λk2 hk2 ja jb=>?_)
 have jb':∀(x y:Nat) p' q',sa<=x->x<sb->sb+k2<=y->y<sb+nb->(arrOf st)[x]?=some p'->(arrOf st)[y]?=some q'->Le lt p' q':=λx y p' q' h1 h2 h3 h4 ex ey=>O.tr (SA.at h1 (show x<=sb-1 by lia) (by lia) ex hp2) (jb (y-sb) q' (by lia) (by lia) (by rw[show sb+(y-sb)=y by lia];exact ey))
 dsimp only;refine aY (λe4=>?_) (λe4=>?_)
 .subst c;refine M0 (h _ B1 rfl (SA.join O SB' λx y p' q' hx hy ex ey=>jb' _ _ p' q' (by lia) (by lia) (by lia) (by lia) ex ey) λ_ _=>rfl)
 have x1:((arrOf st).extract (sa+k) sb).size=sb-(sa+k):=by
  rw[P0];lia
 have x2:((arrOf st).extract sb (sb+k2)).size=k2:=by
  rw[P0];lia
 have Sx:Sa lt ((arrOf st).extract (sa+k) sb):=SA.sa (by lia) (by lia)
 have Sy:Sa lt ((arrOf st).extract sb (sb+k2)):=SB'.sa (by lia) (by lia)
 have hf:∀p' q' (j:Nat),((arrOf st).extract sb (sb+k2))[0]?=some p'->((arrOf st).extract (sa+k) sb)[j]?=some q'->Le lt p' q':=λp' q' j ep eq=>by
  rw[O5]at ep eq;split at ep
  .split at eq
   .rw[P1,hp]at ep;cases ep;exact kb (k+j) q' (by lia) (by lia) (by rw[show sa+(k+j)=sa+k+j by lia];exact eq)
   .cases eq
  .cases ep
 have hl:∀(j:Nat) q' p',((arrOf st).extract sb (sb+k2))[j]?=some q'->((arrOf st).extract (sa+k) sb)[((arrOf st).extract (sa+k) sb).size-1]?=some p'->Le lt q' p':=λj q' p' eq ep=>by
  rw[x1]at ep;rw[O5]at ep eq;split at ep
  .split at eq
   .rw[show sa+k+(sb-(sa+k)-1)=sb-1 by lia,hp2]at ep
    cases ep;exact ja j q' (by lia) eq
   .cases eq
  .cases ep
 have fin:∀zs:Array Keyed,Mg lt ((arrOf st).extract (sa+k) sb) ((arrOf st).extract sb (sb+k2)) zs->(zs.toList.zipIdx.foldl (λa (x:Keyed×Nat)=>a.setIfInBounds (sa+k+x.2) x.1) (arrOf st)).Perm xs0/\So lt (zs.toList.zipIdx.foldl (λa (x:Keyed×Nat)=>a.setIfInBounds (sa+k+x.2) x.1) (arrOf st)) sa (na+nb)/\∀j:Nat,(j<sa\/sb+nb<=j)->(zs.toList.zipIdx.foldl (λa (x:Keyed×Nat)=>a.setIfInBounds (sa+k+x.2) x.1) (arrOf st))[j]?=(arrOf st)[j]?:=λzs ⟨pm,srt⟩=>by
  have zl:zs.toList.length=sb+k2-(sa+k):=by
   rw[pm.length_eq,MV,Mh,Mh,x1,x2];lia
  have fl:=oS (sa+k) zs.toList 0 (arrOf st) (by lia)
  rw[P1,show sa+k+zs.toList.length=sb+k2 by lia]at fl
  generalize zs.toList.zipIdx.foldl (λa (x:Keyed×Nat)=>a.setIfInBounds (sa+k+x.2) x.1) (arrOf st)=a' at fl⊢
  have at_:∀j:Nat,a'[j]?=if j<sa+k then(arrOf st)[j]? else if j<sb+k2 then zs[j-(sa+k)]? else(arrOf st)[j]?:=λj=>by
   rw[<-Mf,fl];have tl:((arrOf st).toList.take (sa+k)).length=sa+k:=by
    rw[Mz,Mh];lia
   by_cases c1:j<sa+k
   .rw[if_pos c1,NW (by lia),List.getElem?_take_of_lt c1,Mf]
   .rw[if_neg c1,NJ (by lia),tl]
    by_cases c2:j<sb+k2
    .rw[if_pos c2,NW (by lia),Mf]
    .rw[if_neg c2,NJ (by lia),zl,Px,Mf]
     congr 1;lia
  have zin:∀(j:Nat) p',zs[j]?=some p'->∃x,sa+k<=x/\x<sb+k2/\(arrOf st)[x]?=some p':=λj p' ez=>by
   have m:p'∈zs.toList:=Ma (by rw[Mf];exact ez)
   rcases MF.mp (pm.mem_iff.mp m)with m|m
   .obtain⟨x,h1,h2,e⟩:=aO m;exact⟨x,h1,by lia,e⟩
   .obtain⟨x,h1,h2,e⟩:=aO m;exact⟨x,by lia,h2,e⟩
  -- below k: not above all that comes
  have low:∀(x y:Nat) p' q',sa<=x->x<sa+k->x<=y->y<sb+nb->(arrOf st)[x]?=some p'->(arrOf st)[y]?=some q'->Le lt p' q':=λx y p' q' h1 h2 h3 h4 ex ey=>by
   by_cases c1:y<sb
   .exact SA.at h1 h3 (by lia) ex ey
   .exact ka' x y p' q' h1 h2 (by lia) h4 ex ey
  have high:∀(x y:Nat) p' q',sa<=x->x<=y->sb+k2<=y->y<sb+nb->(arrOf st)[x]?=some p'->(arrOf st)[y]?=some q'->Le lt p' q':=λx y p' q' h1 h2 h3 h4 ex ey=>by
   by_cases c1:x<sb
   .exact jb' x y p' q' h1 c1 h3 h4 ex ey
   .exact SB'.at (by lia) h2 h4 ex ey
  refine⟨?_,λx y p' q' xy hy ex ey=>?_,λj hj=>?_⟩
  .refine Array.Perm.trans (O4.mpr ?_) B.perm;rw[fl];have e:=seg (arrOf st) (show sa+k<=sb by lia) (show sb<=sb+k2 by lia)
   conv=>rhs;rw[e]
   refine NL _ ?_;rw[<-Mc];exact pm.append_right _
  .rw[at_]at ex ey
   by_cases c1:sa+x<sa+k
   .rw[if_pos c1]at ex
    by_cases c2:sa+y<sa+k
    .rw[if_pos c2]at ey;exact low _ _ p' q' (by lia) c1 (by lia) (by lia) ex ey
    .rw[if_neg c2]at ey
     by_cases c3:sa+y<sb+k2
     .rw[if_pos c3]at ey;obtain⟨z,z1,z2,ez⟩:=zin _ _ ey;exact low _ z p' q' (by lia) c1 (by lia) (by lia) ex ez
     .rw[if_neg c3]at ey;exact low _ _ p' q' (by lia) c1 (by lia) (by lia) ex ey
   .rw[if_neg c1]at ex;have c2:¬sa+y<sa+k:=by lia
    rw[if_neg c2]at ey
    by_cases c3:sa+y<sb+k2
    .rw[if_pos c3]at ey;rw[if_pos (by lia)]at ex
     exact zU O srt (by lia) ex ey
    .rw[if_neg c3]at ey
     by_cases c4:sa+x<sb+k2
     .rw[if_pos c4]at ex;obtain⟨z,z1,z2,ez⟩:=zin _ _ ex;exact high z _ p' q' (by lia) (by lia) (by lia) (by lia) ez ey
     .rw[if_neg c4]at ex;exact high _ _ p' q' (by lia) (by lia) (by lia) (by lia) ex ey
  .rw[at_];rcases hj with hj|hj
   .rw[if_pos (by lia)]
   .rw[if_neg (by lia),if_neg (by lia)]
 refine av (λ_=>?_) (λ_=>?_)
 .refine L8 (Lz O L B.kind (G'.extract _ _) (G'.extract _ _) (show 1<=((arrOf st).extract (sa+k) sb).size by lia) (show 1<=((arrOf st).extract sb (sb+k2)).size by lia) Sx Sy hf hl λzs st2 g pm=>?_)
  obtain⟨g1,g2,g3,g4⟩:=g;refine L8 (MX ?_);refine L8 (wpS_get ?_);refine M0 ?_;have e:(failedOf st2).isNone=true:=by
   rw[g4];show(failedOf st).isNone=true;rw[B.ok];rfl
  show Q (failedOf st2).isNone _;rw[e];obtain⟨f1,f2,f3⟩:=fin zs pm;have g2':arrOf st2=arrOf st:=g2;refine h _ ⟨?_,g1.trans B.kind,g4.trans B.ok⟩ g3 ?_ ?_
  .show(zs.toList.zipIdx.foldl (λa (x:Keyed×Nat)=>a.setIfInBounds (sa+k+x.2) x.1) (arrOf st2)).Perm xs0
   rw[g2'];exact f1
  .show So lt (zs.toList.zipIdx.foldl (λa (x:Keyed×Nat)=>a.setIfInBounds (sa+k+x.2) x.1) (arrOf st2)) sa (na+nb)
   rw[g2'];exact f2
  .show ∀j:Nat,(j<sa\/sb+nb<=j)->(zs.toList.zipIdx.foldl (λa (x:Keyed×Nat)=>a.setIfInBounds (sa+k+x.2) x.1) (arrOf st2))[j]?=(arrOf st)[j]?
   rw[g2'];exact f3
 .refine L8 (LN O L B.kind (G'.extract _ _) (G'.extract _ _) (show 1<=((arrOf st).extract (sa+k) sb).size by lia) (show 1<=((arrOf st).extract sb (sb+k2)).size by lia) Sx Sy hf hl λzs st2 g pm=>?_)
  obtain⟨g1,g2,g3,g4⟩:=g;refine L8 (MX ?_);refine L8 (wpS_get ?_);refine M0 ?_;have e:(failedOf st2).isNone=true:=by
   rw[g4];show(failedOf st).isNone=true;rw[B.ok];rfl
  show Q (failedOf st2).isNone _;rw[e];obtain⟨f1,f2,f3⟩:=fin zs pm;have g2':arrOf st2=arrOf st:=g2;refine h _ ⟨?_,g1.trans B.kind,g4.trans B.ok⟩ g3 ?_ ?_
  .show(zs.toList.zipIdx.foldl (λa (x:Keyed×Nat)=>a.setIfInBounds (sa+k+x.2) x.1) (arrOf st2)).Perm xs0
   rw[g2'];exact f1
  .show So lt (zs.toList.zipIdx.foldl (λa (x:Keyed×Nat)=>a.setIfInBounds (sa+k+x.2) x.1) (arrOf st2)) sa (na+nb)
   rw[g2'];exact f2
  .show ∀j:Nat,(j<sa\/sb+nb<=j)->(zs.toList.zipIdx.foldl (λa (x:Keyed×Nat)=>a.setIfInBounds (sa+k+x.2) x.1) (arrOf st2))[j]?=(arrOf st)[j]?
   rw[g2'];exact f3
end
def aT(lt:Value->Value->Bool)(a:Array Keyed):Nat->List (Nat×Nat×Nat)->Nat->Prop
 |f,[],lo=>f=lo
 |f,(s,n,_)::r,lo=>s=f/\1<=n/\So lt a s n/\aT lt a (f+n) r lo
section
variable{lt:Value->Value->Bool}{a a':Array Keyed}
theorem aT.le:∀{l:List (Nat×Nat×Nat)}{f lo:Nat},aT lt a f l lo->f<=lo
 |[],f,lo,h=>N8 h
 | (s,n,p)::r,f,lo,⟨_,h1,_,h⟩=>by have:=aT.le h;lia
theorem aT.len:∀{l:List (Nat×Nat×Nat)}{f lo:Nat},aT lt a f l lo->f+l.length<=lo
 |[],f,lo,h=>N8 h
 | (s,n,p)::r,f,lo,⟨_,h1,_,h⟩=>by have:=aT.len h;rw[MW];lia
theorem aT.frame:∀{l:List (Nat×Nat×Nat)}{f lo:Nat},aT lt a f l lo->(∀i:Nat,f<=i->i<lo->a'[i]?=a[i]?)->aT lt a' f l lo
 |[],f,lo,h,_=>h
 | (s,n,p)::r,f,lo,⟨h0,h1,S,h⟩,F=>by have:=aT.le h;exact⟨h0,h1,S.frame λi hi hj=>F i (by lia) (by lia),aT.frame h λi hi hj=>F i (by lia) hj⟩
theorem aT.two:∀{l:List (Nat×Nat×Nat)}{f lo:Nat} (i:Nat),aT lt a f l lo->i+1<l.length->∃sa na pw sb nb pb,l[i]?=some (sa,na,pw)/\l[i+1]?=some (sb,nb,pb)/\sb=sa+na/\1<=na/\1<=nb/\f<=sa/\sb+nb<=lo/\So lt a sa na/\So lt a sb nb
 | (s,n,p)::(s2,n2,p2)::r,f,lo,0,⟨h1,h2,S,h3,h4,S2,h5⟩,_=>⟨s,n,p,s2,n2,p2,rfl,rfl,by lia,h2,h4,by lia,by have:=h5.le;lia,S,S2⟩
 | (s,n,p)::r,f,lo,i+1,⟨h0,h1,_,h⟩,hl=>by obtain⟨sa,na,pw,sb,nb,pb,e1,e2,e3,e4,e5,e6,e7⟩:=aT.two i h (by simpa using hl);exact⟨sa,na,pw,sb,nb,pb,e1,e2,e3,e4,e5,by lia,e7⟩
 |[],_,_,_,_,hl=>by simp at hl
 |[_],_,_,0,_,hl=>by simp at hl
theorem aT.merge:∀{l:List (Nat×Nat×Nat)}{f lo:Nat} (i:Nat){sa na pw sb nb pb:Nat},aT lt a f l lo->l[i]?=some (sa,na,pw)->l[i+1]?=some (sb,nb,pb)->So lt a' sa (na+nb)->(∀j:Nat,(j<sa\/sb+nb<=j)->a'[j]?=a[j]?)->aT lt a' f ((l.set i (sa,na+nb,pw)).eraseIdx (i+1)) lo
 | (s,n,p)::(s2,n2,p2)::r,f,lo,0,sa,na,pw,sb,nb,pb,⟨h1,h2,S,h3,h4,S2,h5⟩,e1,e2,T,F=>by cases e1;cases e2;refine⟨h1,by lia,T,?_⟩;rw[<-Nat.add_assoc];exact h5.frame λi hi _=>F i (.inr (by lia))
 | (s,n,p)::r,f,lo,i+1,sa,na,pw,sb,nb,pb,⟨h1,h2,S,h⟩,e1,e2,T,F=>by
  have le:f+n<=sa:=by
   have hl:i+1<r.length:=by have:=(N2.mp e2).1;rw[MW]at this;lia
   obtain⟨sa',na',pw',sb',nb',pb',e1',_,_,_,_,e6,_⟩:=aT.two i h hl;have:some (sa,na,pw)=some (sa',na',pw'):=e1.symm.trans e1';cases this;exact e6
  exact⟨h1,h2,S.frame λj hj hk=>F j (.inl (by lia)),aT.merge i h e1 e2 T F⟩
 |[],_,_,_,_,_,_,_,_,_,_,e1,_,_,_=>by cases e1
 |[_],_,_,0,_,_,_,_,_,_,_,_,e2,_,_=>by cases e2
theorem aT.mod(pw:Nat):∀{l:List (Nat×Nat×Nat)}{f lo:Nat} (j:Nat),aT lt a f l lo->aT lt a f (l.modify j λx=>(x.1,x.2.1,pw)) lo
 |[],f,lo,j,h=>by rw[List.modify_nil];exact h
 | (s,n,p)::r,f,lo,0,⟨h1,h2,S,h⟩=>⟨h1,h2,S,h⟩
 | (s,n,p)::r,f,lo,j+1,⟨h1,h2,S,h⟩=>⟨h1,h2,S,aT.mod pw j h⟩
theorem aT.push{n:Nat}(hn:1<=n):∀{l:List (Nat×Nat×Nat)}{f lo:Nat},aT lt a f l lo->So lt a lo n->aT lt a f (l++[(lo,n,0)]) (lo+n)
 |[],f,lo,h,S=>⟨h.symm,hn,S,by show f+n=lo+n;rw[show f=lo from h]⟩
 | (s,m,p)::r,f,lo,⟨h1,h2,S0,h⟩,S=>⟨h1,h2,S0,aT.push hn h S⟩
def aT.whole:∀{l:List (Nat×Nat×Nat)}{lo:Nat},aT lt a 0 l lo->l.length<=1->So lt a 0 lo
 |[],lo,h,_=>λi j p q ij hj=>by have:0=lo:=h;lia
 |[(s,n,p)],lo,⟨h1,h2,S,h⟩,_=>by have e:0+n=lo:=h;rw[h1]at S;rw[<-e,NU];exact S
 |_::_::_,_,_,h=>by simp at h
end
section
variable{prog:Program}{w:World}{A:Around}{E:QC}{s:Shared}{kd:SortKind}{P:Value->Prop}{xs0:Array Keyed}{lt:Value->Value->Bool}
def mD{st:SortSt}{i lo:Nat}(O:Ord lt)(L:gg prog w A s kd P lt)(G:Good P xs0)(B:SB kd xs0 st)(C:aT lt (arrOf st) 0 (pendingOf st).toList lo)(le:lo<=xs0.size)(hi:i+1<(pendingOf st).size)(h:∀st',SB kd xs0 st'->aT lt (arrOf st') 0 (pendingOf st').toList lo->(pendingOf st').size+1=(pendingOf st).size->(∀j:Nat,lo<=j->(arrOf st')[j]?=(arrOf st)[j]?)->Q true st'):wpS (model prog w) A E s (mergeAt' i) Q st:=by obtain⟨sa,na,pw,sb,nb,pb,e1,e2,c,n1,n2,_,l2,S1,S2⟩:=C.two i (by simpa using hi);refine FY O L G B (by rw[<-Mf];exact e1) (by rw[<-Mf];exact e2) c n1 n2 (by lia) S1 S2 λst' B' p' S' F'=>h st' B' ?_ ?_ λj hj=>F' j (.inr (by lia));{rw[p',Pu,Oz];exact C.merge i e1 e2 S' F'};rw[<-Mh,p',Pu,Oz,List.length_eraseIdx_of_lt (by rw[MY,Mh];exact hi),MY,Mh];lia
def JN{st:SortSt}(O:Ord lt)(L:gg prog w A s kd P lt)(G:Good P xs0)(B:SB kd xs0 st)(p0:pendingOf st=#[])(h:∀st',SB kd xs0 st'->So lt (arrOf st') 0 xs0.size->Q () st'):wpS (model prog w) A E s sortRuns' Q st:=by
 rw[sortRuns'_eq];refine L8 (wpS_get ?_);dsimp only;rw[B.size];refine L8 (MD (ME (I:=λx c st'=>SB kd xs0 st'/\c.1=none/\aT lt (arrOf st') 0 (pendingOf st').toList c.2/\c.2<=xs0.size/\min x xs0.size<=c.2) (Q:=λc st'=>SB kd xs0 st'/\c.1=none/\aT lt (arrOf st') 0 (pendingOf st').toList c.2/\c.2=xs0.size) ?step ?fin ⟨B,rfl,by rw[p0];rfl,Mq _,by dsimp only;lia⟩) ?post)
 case fin=>
  rintro⟨o,lo⟩st'⟨B1,rfl,C1,l1,l2⟩;dsimp only at C1 l1 l2;exact⟨B1,rfl,C1,by dsimp only;lia⟩
 case step=>
  rintro x⟨o,lo⟩st' _ _⟨B1,rfl,C1,l1,lx⟩;dsimp only at C1 l1 lx⊢;refine av (λge=>M0 ⟨B1,rfl,C1,by dsimp only;lia⟩) (λge=>?_)
  refine L8 (HL O L G B1 (by lia) (by lia) λm st2 B2 p2 m1 m2 S2 F2=>?_)
  dsimp only;have C2:aT lt (arrOf st2) 0 (pendingOf st2).toList lo:=by rw[p2];exact C1.frame λi _ hi=>F2 i hi
  refine av (λltm=>?_) (λltm=>?_)
  .refine L8 (Mp (Ml ⟨rfl,?_⟩));generalize hf:min (xs0.size-lo) (minRun' xs0.size xs0.size 0)=force;have f1:1<=force:=by lia
   have f2:lo+force<=xs0.size:=by lia
   refine L8 (Lf O L G B2 f2 m1 (by lia) S2 λst3 B3 p3 S3 F3=>?_)
   have C3:aT lt (arrOf st3) 0 (pendingOf st3).toList lo:=by rw[p3];exact C2.frame λi _ hi=>F3 i hi
   refine av (λz=>absurd z (by decide)) (λ_=>?_)
   refine L8 (wpS_get ?_);cases hb:(pendingOf st3).back? with
   |none=>
    dsimp only;refine L8 (MX ?_);refine M0 ⟨⟨B3.perm,B3.kind,B3.ok⟩,rfl,?_,f2,by dsimp only;lia⟩
    show aT lt (arrOf st3) 0 ((pendingOf st3).push (lo,force,0)).toList (lo+force);rw[NY];exact C3.push f1 S3
   |some t=>
    obtain⟨s1,n1',q1⟩:=t;dsimp only;refine L8 (MD (ME (I:=λy c st4=>SB kd xs0 st4/\c.1=none/\aT lt (arrOf st4) 0 (pendingOf st4).toList lo/\So lt (arrOf st4) lo force) (Q:=λc st4=>SB kd xs0 st4/\c.1=none/\aT lt (arrOf st4) 0 (pendingOf st4).toList lo/\So lt (arrOf st4) lo force) ?step1 (λ_ _ q=>q) ⟨B3,rfl,C3,S3⟩) ?post1)
    case step1=>
     rintro y⟨o,u⟩st4 _ _⟨B4,rfl,C4,S4⟩;refine L8 (wpS_get ?_);cases hm:(if(pendingOf st4).size>1 then(pendingOf st4)[(pendingOf st4).size-2]? else none)with
     |none=>exact M0 ⟨B4,rfl,C4,S4⟩
     |some t=>
      obtain⟨f1,f2,older⟩:=t;dsimp only;refine av (λ_=>M0 ⟨B4,rfl,C4,S4⟩) (λ_=>?_)
      have s2:(pendingOf st4).size>1:=by
       by_cases z:(pendingOf st4).size>1
       .exact z
       .rw[if_neg z]at hm;cases hm
      refine L8 (mD O L G B4 C4 l1 (by lia) λst5 B5 C5 _ F5=>?_)
      exact av (λz=>absurd z (by decide)) (λ_=>M0 ⟨B5,rfl,C5,S4.frame λi hi _=>F5 i hi⟩)
    case post1=>
     rintro⟨o,u⟩st4⟨B4,rfl,C4,S4⟩;dsimp only;refine L8 (MX ?_);refine L8 (MX ?_);refine M0 ⟨⟨B4.perm,B4.kind,B4.ok⟩,rfl,?_,f2,by dsimp only;lia⟩
     refine id (?_:aT lt (arrOf st4) 0 (((pendingOf st4).modify ((pendingOf st4).size-1) λx=>(x.1,x.2.1,_)).push (lo,force,0)).toList (lo+force))
     rw[NY,P4];exact(C4.mod _ _).push f1 S4
  .have f2:lo+m<=xs0.size:=by lia
   refine L8 (wpS_get ?_);cases hb:(pendingOf st2).back? with
   |none=>
    dsimp only;refine L8 (MX ?_);refine M0 ⟨⟨B2.perm,B2.kind,B2.ok⟩,rfl,?_,f2,by dsimp only;lia⟩
    show aT lt (arrOf st2) 0 ((pendingOf st2).push (lo,m,0)).toList (lo+m);rw[NY];exact C2.push m1 S2
   |some t=>
    obtain⟨s1,n1',q1⟩:=t;dsimp only;refine L8 (MD (ME (I:=λy c st4=>SB kd xs0 st4/\c.1=none/\aT lt (arrOf st4) 0 (pendingOf st4).toList lo/\So lt (arrOf st4) lo m) (Q:=λc st4=>SB kd xs0 st4/\c.1=none/\aT lt (arrOf st4) 0 (pendingOf st4).toList lo/\So lt (arrOf st4) lo m) ?step2 (λ_ _ q=>q) ⟨B2,rfl,C2,S2⟩) ?post2)
    case step2=>
     rintro y⟨o,u⟩st4 _ _⟨B4,rfl,C4,S4⟩;refine L8 (wpS_get ?_);cases hm:(if(pendingOf st4).size>1 then(pendingOf st4)[(pendingOf st4).size-2]? else none)with
     |none=>exact M0 ⟨B4,rfl,C4,S4⟩
     |some t=>
      obtain⟨f1,f2,older⟩:=t;dsimp only;refine av (λ_=>M0 ⟨B4,rfl,C4,S4⟩) (λ_=>?_)
      have s2:(pendingOf st4).size>1:=by
       by_cases z:(pendingOf st4).size>1
       .exact z
       .rw[if_neg z]at hm;cases hm
      refine L8 (mD O L G B4 C4 l1 (by lia) λst5 B5 C5 _ F5=>?_)
      exact av (λz=>absurd z (by decide)) (λ_=>M0 ⟨B5,rfl,C5,S4.frame λi hi _=>F5 i hi⟩)
    case post2=>
     rintro⟨o,u⟩st4⟨B4,rfl,C4,S4⟩;dsimp only;refine L8 (MX ?_);refine L8 (MX ?_);refine M0 ⟨⟨B4.perm,B4.kind,B4.ok⟩,rfl,?_,f2,by dsimp only;lia⟩
     refine id (?_:aT lt (arrOf st4) 0 (((pendingOf st4).modify ((pendingOf st4).size-1) λx=>(x.1,x.2.1,_)).push (lo,m,0)).toList (lo+m))
     rw[NY,P4];exact(C4.mod _ _).push m1 S4
 case post=>
  rintro⟨o,lo⟩st'⟨B1,rfl,C1,l1⟩;dsimp only at C1 l1⊢;subst l1;have len:=C1.len;rw[NU,Mh]at len;refine L8 (MD (ME (I:=λy c st4=>SB kd xs0 st4/\c.1=none/\aT lt (arrOf st4) 0 (pendingOf st4).toList xs0.size/\(pendingOf st4).size+y<=xs0.size) (Q:=λc st4=>SB kd xs0 st4/\c.1=none/\aT lt (arrOf st4) 0 (pendingOf st4).toList xs0.size/\(pendingOf st4).size<=1) ?stepE ?finE ⟨B1,rfl,C1,by lia⟩) ?postE)
  case stepE=>
   rintro y⟨o,u⟩st4 _ _⟨B4,rfl,C4,y4⟩;refine L8 (wpS_get ?_);refine av (λc=>M0 ⟨B4,rfl,C4,c⟩) (λgt=>?_)
   refine L8 (mD O L G B4 C4 (M5 _) (by(repeat' split)<;>lia) λst5 B5 C5 z5 _=>?_)
   exact av (λz=>absurd z (by decide)) (λ_=>M0 ⟨B5,rfl,C5,by lia⟩)
  case finE=>
   rintro⟨o,u⟩st4⟨B4,rfl,C4,y4⟩;exact⟨B4,rfl,C4,by lia⟩
  case postE=>
   rintro⟨o,u⟩st4⟨B4,rfl,C4,y4⟩;dsimp only;exact M0 (h _ B4 (C4.whole (by rw[Mh];exact y4)))
end
def pk(h:Heap):Value->Int×Int
 |.ref a=>match h.get? a with
  |some o=>match o.data with
   |.seq it _=>match it.toList with
    |[.int i _,.int j _]=>(i,j)
    |_=>(0,0)
   |_=>(0,0)
  |none=>(0,0)
 |_=>(0,0)
def pw_short{α:Type}{R:α->α->Prop}:∀(l:List α),l.length<2->l.Pairwise R
 |[],_=>.nil
 |[_],_=>List.pairwise_singleton _ _
 |_::_::_,h=>absurd h (by simp)
def jN(p q:Int×Int):Bool:=if p.1=q.1 then decide (p.2<q.2)else decide (p.1<q.1)
def qp(h:Heap)(u v:Value):Bool:=jN (pk h u) (pk h v)
def Af(h:jN p q=true):jN q p=false:=by unfold jN at *;split at h;{rename_i e;rw[if_pos e.symm];have:=MU h;exact Ms (by lia)};rename_i e;rw[if_neg (λz=>e z.symm)];have:=MU h;exact Ms (by lia)
def mS:jN q p=false↔p.1<q.1\/(p.1=q.1/\p.2<=q.2):=by unfold jN;split;{rename_i e;rw[PD];lia};rename_i e;rw[PD];lia
def Lj(h:Heap):Ord (qp h):=⟨λa b e=>Af e,λa b c e f=>by
 have e':=mS.mp e;have f':=mS.mp f;exact mS.mpr (by lia)⟩
def kh{a:Addr}{i j:Int}{n:Nat}(ho:h.get? a=some o)(hd:o.data=.seq #[.int i t,.int j u] n):pk h (.ref a)=(i,j):=by unfold pk;dsimp only;rw[ho];dsimp only;rw[hd]
def wj(p:IsPair h v)(k:∀b o,v=.ref b->h.get? b=some o->h'.get? b=some o):pk h' v=pk h v:=by obtain⟨b,o,i,j,t,u,n,rfl,ho,hc,hd⟩:=p;rw[kh ho hd,kh (k b o rfl ho) hd]
section
variable{prog:Program}{w:World}{A:Around}{E:QC}{s:Shared}
def vY(b:Bool){i j:Int}(h:Q (decide (i<j)) s):wpAny (model prog w) A (oneLt' b (.int i t) (.int j u)) Q E s:=by
 cases b with
 |true=>exact oneLt_int h
 |false=>rw[oneLt'_eq];rw[if_neg MJ];refine M1 (?_:wpAny _ _ (compareOp .Lt (.int i t) (.int j u)) _ _ _);exact lt_int (ON h)
def vj:gg prog w A s (tuples' true) (IsPair s.heap) (qp s.heap):=by
 rintro E x y⟨a,o,i,j,t,u,n,rfl,ho,hc,hd⟩⟨a2,o2,i2,j2,t2,u2,n2,rfl,ho2,hc2,hd2⟩Q h;have e:qp s.heap (.ref a) (.ref a2)=jN (i,j) (i2,j2):=by unfold qp;rw[kh ho hd,kh ho2 hd2]
 rw[e]at h;refine M1 (Nq ho hd ?_);refine M1 (Nq ho2 hd2 ?_);dsimp only;refine M1 ?_;refine wpAny_forIn_list _ (λrest r s'=>s'=s/\r.1=none/\(rest=[((Value.int i t,Value.int i2 t2),0),((Value.int j u,Value.int j2 u2),1)]\/(i=i2/\rest=[((Value.int j u,Value.int j2 u2),1)])\/(i=i2/\j=j2/\rest=[]))) _ ?_ ?_ _ _ ⟨rfl,rfl,.inl rfl⟩
 .rintro⟨⟨p,q⟩,k⟩rest⟨r,⟨⟩⟩s'⟨rfl,rfl,hall⟩;rcases hall with hall|⟨ei,hall⟩|⟨_,_,hall⟩
  .cases hall;dsimp only;refine M1 ((intKind prog w).eqBool (a:=i) (b:=i2) (O6 _ _ i t) (O6 _ _ i2 t2) ?_);cases c:decide (i=i2)with
   |true=>exact M8 ⟨rfl,rfl,.inr (.inl ⟨MU c,rfl⟩)⟩
   |false=>have c:=of_decide_eq_false c;rw[show jN (i,j) (i2,j2)=decide (i<i2)from if_neg c]at h;exact M1 (vY _ (M8 (M8 h)))
  .cases hall;dsimp only;refine M1 ((intKind prog w).eqBool (a:=j) (b:=j2) (O6 _ _ j u) (O6 _ _ j2 u2) ?_);cases c:decide (j=j2)with
   |true=>exact M8 ⟨rfl,rfl,.inr (.inr ⟨ei,MU c,rfl⟩)⟩
   |false=>rw[show jN (i,j) (i2,j2)=decide (j<j2)from if_pos ei]at h;exact M1 (vY _ (M8 (M8 h)))
  cases hall
 rintro⟨r,⟨⟩⟩s'⟨rfl,rfl,hall⟩;rcases hall with hall|⟨_,hall⟩|⟨ei,ej,_⟩;{cases hall};{cases hall};rw[show jN (i,j) (i2,j2)=decide (j<j2)from if_pos ei]at h;rw[Ms (by lia)]at h;exact M8 h
def vp{a:Addr}{vs:QO}{n:Nat}{R:Fin->Shared->Prop}(ho:s.heap.get? a=some (seqObj "list" vs.toArray n))(hv:∀v∈vs,IsPair s.heap v)(few:vs.length<=1000)(h:∀us:QL,us.toList.Perm vs->us.toList.Pairwise (λu v=>qp s.heap v u=false)->R (.done (.ret .none)) { s with heap:=sortedHeap s.heap a vs us }):wpAny (model prog w) A (Builtin.«list.sort» ⟨[.ref a],[]⟩) R E s:=by
 have line:(1000:Nat)<=sizeLine:=by decide
 have az:a<s.heap.objs.size:=MB ho;rw[list_sort_plain (a:Addr)];refine M1 (Nq ho rfl (?_:_));refine M1 (O7 ho rfl (?_:_) (by simp;lia) (by simp));obtain⟨ep,g1⟩:∃ep,(s.heap.update a (Obj.mapSeq λ_=>#[])).get? a=some (seqObj "list" #[] ep):=⟨_,get?_update_seq ho λ_=>#[]⟩;refine M1 (O8 g1 rfl (?_:_));refine M1 (wpAny_newTuple (?_:_) (by simp;lia));refine M1 (P5 (?_:_));refine Mx (?_:_);have g6:(((s.heap.update a (Obj.mapSeq λ_=>#[])).push (seqObj "tuple" vs.toArray 0)).push (seqObj "list" #[] 0)).get? a=some (seqObj "list" #[] ep):=ML _ (ML _ g1);have keep:∀b o,b≠a->s.heap.get? b=some o->(((s.heap.update a (Obj.mapSeq λ_=>#[])).push (seqObj "tuple" vs.toArray 0)).push (seqObj "list" #[] 0)).get? b=some o:=λb o hb e=>ML _ (ML _ ((Mw _ _ (Ne.symm hb)).trans e));have hv6:∀v∈vs,IsPair (((s.heap.update a (Obj.mapSeq λ_=>#[])).push (seqObj "tuple" vs.toArray 0)).push (seqObj "list" #[] 0)) v:=λv m=>(hv v m).keep ho rfl keep;refine id (?_:wpAny (model prog w) A _ R E { s with heap:=((s.heap.update a (Obj.mapSeq λ_=>#[])).push (seqObj "tuple" vs.toArray 0)).push (seqObj "list" #[] 0) });dsimp only;have psz:(vs.toArray.zip vs.toArray).size=vs.length:=by simp
 have out:∀zs:Array Keyed,zs.Perm (vs.toArray.zip vs.toArray)->(zs.map (·.2)).toList.Perm vs:=λzs p=>by
  have p2:=(O4.mp p).map (·.2);rw[Pw];refine p2.trans ?_;have:((vs.toArray.zip vs.toArray).toList.map (·.2))=vs:=by rw[OW];simp[P6]
  rw[this]
 by_cases h2:vs.toArray.size<2
 .rw[if_pos h2,if_pos h2];refine M1 (M8 (?_:_));rw[StateT.run_pure];refine M1 (M8 (?_:_));dsimp only;refine M1 (O8 g6 rfl (?_:_));have o1:=out (vs.toArray.zip vs.toArray) (Array.Perm.refl _);have l1:=o1.length_eq;rw[Mh]at l1;refine M1 (O7 g6 rfl (?_:_) (by simp) (MZ (N8 l1) (by lia)));simp only[P7,P8,if_false];refine M8 (?_:_);refine h _ o1 ?_;have l2:((vs.toArray.zip vs.toArray).map (·.2)).toList.length<2:=by rw[o1.length_eq];simpa using h2
  exact pw_short _ l2
 rw[if_neg h2,if_neg h2];have ne:vs≠[]:=λz=>h2 (by rw[z];decide);refine M1 (qA (s:={ s with heap:=((s.heap.update a (Obj.mapSeq λ_=>#[])).push (seqObj "tuple" vs.toArray 0)).push (seqObj "list" #[] 0) }) ne hv6 (?_:_));refine M1 (Me (JN (kd:=tuples' true) (lt:=qp (((s.heap.update a (Obj.mapSeq λ_=>#[])).push (seqObj "tuple" vs.toArray 0)).push (seqObj "list" #[] 0))) (P:=IsPair (((s.heap.update a (Obj.mapSeq λ_=>#[])).push (seqObj "tuple" vs.toArray 0)).push (seqObj "list" #[] 0))) (xs0:=vs.toArray.zip vs.toArray) (s:={ s with heap:=((s.heap.update a (Obj.mapSeq λ_=>#[])).push (seqObj "tuple" vs.toArray 0)).push (seqObj "list" #[] 0) }) (Q:=λ_ st'=>SB (tuples' true) (vs.toArray.zip vs.toArray) st'/\So (qp (((s.heap.update a (Obj.mapSeq λ_=>#[])).push (seqObj "tuple" vs.toArray 0)).push (seqObj "list" #[] 0))) (arrOf st') 0 (vs.toArray.zip vs.toArray).size) (Lj _) vj (λk p hp=>?_) ⟨Array.Perm.refl _,rfl,rfl⟩ rfl λst' B S=>⟨B,S⟩) ?_ λ_ _ e=>e);{have m:p∈(vs.toArray.zip vs.toArray).toList:=Ma (by rw[Mf];exact hp);rw[OW]at m;exact hv6 _ (OP m).1};rintro⟨⟨⟩,st'⟩s'⟨rfl,B,S⟩;dsimp only;refine M1 (O8 g6 rfl (?_:_));have o1:=out _ B.perm;have l1:=o1.length_eq;rw[Mh]at l1;refine M1 (O7 g6 rfl (?_:_) (by simp) (MZ (N8 l1) (by lia)));rw[B.ok];simp only[P7,P8,if_false];refine M8 (?_:_);refine h _ o1 ?_;rw[Pw,OZ];have same:∀p∈(arrOf st').toList,p.1=p.2/\p.2∈vs:=λp hp=>by have m:=(O4.mp B.perm).mem_iff.mp hp;rw[OW]at m;obtain⟨n,hn⟩:=NS m;rw[List.getElem?_zip_eq_some]at hn;have:some p.1=some p.2:=hn.1.symm.trans hn.2;injection this with e;refine⟨e,?_⟩;have:=Ma hn.2;simpa using this
 rw[OA];intro x y hx hy hxy;have ex:(arrOf st')[0+x]?=some ((arrOf st').toList[x]):=by rw[NU,<-Mf];exact MP hx
 have ey:(arrOf st')[0+y]?=some ((arrOf st').toList[y]):=by rw[NU,<-Mf];exact MP hy
 have le:=S x y _ _ (by lia) (by rw[Mh,B.size]at hy;exact hy) ex ey;obtain⟨s1,m1⟩:=same _ (Na hx);obtain⟨s2,m2⟩:=same _ (Na hy);unfold Le at le;rw[s1,s2]at le;have kp:∀v∈vs,pk (((s.heap.update a (Obj.mapSeq λ_=>#[])).push (seqObj "tuple" vs.toArray 0)).push (seqObj "list" #[] 0)) v=pk s.heap v:=λv m=>wj (hv v m) λb o e hb=>keep b o (λz=>by
  obtain⟨b',o',i,j,t,u,n,e',ho',hco,hd⟩:=hv v m;rw[e]at e';cases e';rw[z,ho]at ho';cases ho';exact absurd hco (by show ¬(Value.type "list"=Value.type "tuple");intro z;injection z with z;exact absurd z (by decide))) hb
 unfold qp at le⊢;rw[kp _ m1,kp _ m2]at le;exact le
end
end TS
namespace L2
open PySem PySem.Spec PyProof.Rows
inductive f6(K:QJ)(H:Hp):List V->List (Int×Int)->Prop
 |nil:f6 K H [] []
 |cons {b:Addr}{e:Int×Int}{ys:List V}{ps:QI}:bG K H b [.int e.1,.int e.2]->f6 K H ys ps->f6 K H (.ref b::ys) (e::ps)
def f6.all{K:QJ}{H:Hp}{ys:List V}{ps:QI}(h:f6 K H ys ps):∀y∈ys,∃(b:Addr) (i j:Int),y=.ref b/\bG K H b [.int i,.int j]:=by
 induction h with
 |nil=>exact λy hy=>(nomatch hy)
 |cons s _ ih=>intro y hy;rcases MH.mp hy with rfl|hy;{exact⟨_,_,_,rfl,s⟩};exact ih y hy
def xJ(p q:Int×Int):Prop:=p.1<q.1\/(p.1=q.1/\p.2<=q.2)
section
variable{X:Cx}{pins:QF}{U:St}{H:Hp}{s:Shared}
def EY(I:Inv X pins U H s){b:Addr}{i j:Int}(sb:bG X.K H b [.int i,.int j]):TS.pk s.heap (.ref b)=(i,j):=by
 obtain⟨its2,r2,⟨o2,e2,c2,n2,d2⟩,_⟩:=I.tuple sb;cases r2 with
 |cons ra r3=>
  cases r3 with
  |cons rb r4=>cases r4;obtain⟨t,rfl⟩:=ra;obtain⟨u,rfl⟩:=rb;exact TS.kh e2 d2
def BL(I:Inv X pins U H s)(r:Vals ys its)(pa:f6 X.K H ys ps):ps=its.map (TS.pk s.heap):=by
 induction r generalizing ps with
 |nil=>cases pa;rfl
 |cons r rs ih=>
  cases pa with
  |cons sb pa=>cases r;rw[Mb,EY I sb,<-ih pa]
end
def xZ(p:us.Perm its):∀{ys:List V},Vals ys its->∃zs:List V,(zs.zip us).Perm (ys.zip its)/\Vals zs us:=by
 induction p with
 |nil=>exact λ{ys} r=>⟨ys,List.Perm.refl _,r⟩
 |cons x _ ih=>
  intro ys r;cases r with
  |cons h r=>obtain⟨zs,p1,r1⟩:=ih r;exact⟨_::zs,p1.cons _,.cons h r1⟩
 |swap x y l=>
  intro ys r;cases r with
  |cons h r=>
   cases r with
   |cons h2 r=>exact⟨_::_::_,OX _ _ _,.cons h2 (.cons h r)⟩
 |trans _ _ ih1 ih2=>intro ys r;obtain⟨zs,p1,r1⟩:=ih2 r;obtain⟨ws,p2,r2⟩:=ih1 r1;exact⟨ws,p2.trans p1,r2⟩
theorem lS{α β γ:Type}(g:β->γ):∀(as:List α)(us:List β),as.zip (us.map g)=(as.zip us).map (λx:α×β=>(x.1,g x.2))
 |[],_=>rfl
 |_::_,[]=>rfl
 |a::as,u::us=>by rw[Mb,List.zip_cons_cons,List.zip_cons_cons,Mb,lS g as us]
def uS{α β γ:Type}{as bs:List α}{us vs:List β}(g:β->γ)(h:(as.zip us).Perm (bs.zip vs)):(as.zip (us.map g)).Perm (bs.zip (vs.map g)):=by have:=h.map (λx:α×β=>(x.1,g x.2));rwa[<-lS,<-lS]at this
section
variable{X:Cx}
inductive vZ(K:QJ)(xs:List V)(H:Hp)(Q:VK):Prop
 |mk:∀(a:Addr)(ys:List V)(ps:QI),(xs=[.ref a])->(bD K H a ys)->(f6 K H ys ps)->(ys.length<=1000)->(∀(zs:List V)(qs:QI)(p:Addr),zs.length=qs.length->(zs.zip qs).Perm (ys.zip ps)->qs.Pairwise xJ->H p=none->Q (.ref p) (upd H p (.lst zs)))->vZ K xs H Q
def AX(K:QJ):List V->Hp->VK->Prop:=λxs H Q=>vZ K xs H Q
def tM:bO X (.builtin "sorted") (AX X.K):=by
 intro pins s U H xs us Q I r h;obtain⟨a,ys,ps,rfl,hq,pa,few,q⟩:=h;have tu:=pa.all;obtain⟨u,rfl,ru⟩:=r.one;cases ru;obtain⟨its,rv,p,_⟩:=I.list hq;have hlen:its.length=ys.length:=rv.length.symm;have hv:∀v∈its,TS.IsPair s.heap v:=λv m=>by
  obtain⟨i,hi⟩:=NS m;have go:∀{ys:List V}{its:QO},Vals ys its->∀(i:Nat)(u:Value),its[i]?=some u->∃x,ys[i]?=some x/\RelV x u:=λ{ys its} r=>by
   induction r with
   |nil=>exact λi u h=>(nomatch h)
   |cons h _ ih=>
    intro i u e;cases i with
    |zero=>cases e;exact⟨_,rfl,h⟩
    |succ i=>exact ih i u e
  obtain⟨x,hx,rx⟩:=go rv i v hi;obtain⟨b,i1,j1,rfl,sb⟩:=tu x (Ma hx);cases rx;obtain⟨its2,r2,⟨o2,e2,c2,n2,d2⟩,_⟩:=I.tuple sb;cases r2 with
  |cons ra r3=>
   cases r3 with
   |cons rb r4=>cases r4;obtain⟨t,rfl⟩:=ra;obtain⟨u,rfl⟩:=rb;exact⟨b,o2,i1,j1,t,u,n2,rfl,e2,c2,d2⟩
 have line:(1000:Nat)<=sizeLine:=by decide
 refine Calls.call_function_entry kind_sorted plain_sorted entry_sorted (args_sorted1 _) (?_:_);unfold Builtin.«sorted»;refine M1 (m:=checkCount "sorted" 1 1 _) (M8 (?_:_));refine M1 (collect_list p.isList (?_:_) (by lia));refine M1 (P5 (?_:_) (by lia));have sz:((s.heap.push (seqObj "list" #[] 0)).update s.heap.objs.size (Obj.mapSeq (·++its.toArray))).objs.size=s.heap.objs.size+1:=by rw[Heap.size_update];exact size_push' _ _
 have g0:(((s.heap.push (seqObj "list" #[] 0)).update s.heap.objs.size (Obj.mapSeq (·++its.toArray))).push (seqObj "list" its.toArray 0)).get? (s.heap.objs.size+1)=some (seqObj "list" its.toArray 0):=by rw[<-sz];exact Mn _ rfl
 have old:∀b o,s.heap.get? b=some o->(((s.heap.push (seqObj "list" #[] 0)).update s.heap.objs.size (Obj.mapSeq (·++its.toArray))).push (seqObj "list" its.toArray 0)).get? b=some o:=λb o e=>ML _ ((Mw _ _ (Nu (MB e))).trans (ML _ e));refine id (?_:wpAny _ _ _ _ _ { s with heap:=((s.heap.push (seqObj "list" #[] 0)).update s.heap.objs.size (Obj.mapSeq (·++its.toArray))).push (seqObj "list" its.toArray 0) });rw[sz];have hv2:∀v∈its,TS.IsPair (((s.heap.push (seqObj "list" #[] 0)).update s.heap.objs.size (Obj.mapSeq (·++its.toArray))).push (seqObj "list" its.toArray 0)) v:=λv m=>by obtain⟨b,o,i,j,t,u,n,e,ho,r⟩:=hv v m;exact⟨b,o,i,j,t,u,n,e,old b o ho,r⟩
 refine M1 (Mx (Oq slot_list_sort ⟨_,g0,rfl⟩ entry_list_sort (TS.vp g0 hv2 (by lia) λout pm srt=>⟨_,rfl,(?_:_)⟩) (args_list_sort _)));obtain⟨n,hn⟩:=sortedHeap_at (vs:=its) (out:=out) g0;obtain⟨zs,pz0,rz⟩:=xZ pm rv;have pz:zs.Perm ys:=by have:=pz0.map Prod.fst;rwa[List.map_fst_zip (N8 rz.length),List.map_fst_zip (N8 rv.length)]at this
 have new:s.heap.get? (s.heap.objs.size+1)=none:=Oi (Nz _);have I2:=I.sR (a:=s.heap.objs.size+1) (o:=.lst zs) (t':=s.toks) (h':=sortedHeap (((s.heap.push (seqObj "list" #[] 0)).update s.heap.objs.size (Obj.mapSeq (·++its.toArray))).push (seqObj "list" its.toArray 0)) (s.heap.objs.size+1) its out) (λb o hb=>by
   have lt:=MB hb;rw[sortedHeap_old (MO (O9 lt)) (by rw[size_push',sz];exact O9 (O9 lt))]
   exact old b o hb) new
  ⟨by rw[pz.length_eq];lia,out.toList,n,rz,by simpa using hn⟩
 have pp:(zs.zip (out.toList.map (TS.pk s.heap))).Perm (ys.zip ps):=by rw[BL I rv pa];exact uS _ pz0
 refine M8 ⟨_,rfl,.ref (s.heap.objs.size+1),_,I2,rfl,q zs _ _ (by rw[M9];exact rz.length) pp ?_ (I.gb new)⟩;rw[OZ];refine Oa (λ{u v} hu hv' e=>?_) srt;have kp:∀v∈its,TS.pk (((s.heap.push (seqObj "list" #[] 0)).update s.heap.objs.size (Obj.mapSeq (·++its.toArray))).push (seqObj "list" its.toArray 0)) v=TS.pk s.heap v:=λv m=>TS.wj (hv v m) λb o _ hb=>old b o hb;unfold TS.qp at e;dsimp only at e;rw[kp _ (pm.mem_iff.mp hu),kp _ (pm.mem_iff.mp hv')]at e;exact TS.mS.mp e
end
end L2
namespace Dv
open PySem L2 PySem.W
def noStar:Expr->Bool
 |.Starred ..=>false
 |_=>true
def aS(h:noStar e=true):starEach (e::es) env=(false,eval e env)::starEach es env:=by cases e<;>first|rfl|cases h
theorem eU:∀{es:QU},es.all noStar=true->(backTo pos (starEach es env)).any (·.1)=false
 |[],_=>rfl
 |e::es,h=>by rw[MG,MA]at h;rw[aS h.1];show(false||(backTo pos (starEach es env)).any (·.1))=false;rw[eU h.2];rfl
section
variable{X:Cx}{Ex:XK}{Y:QW}
theorem cX:∀{es:QU},es.all noStar=true->PA X es (rV X es)
 |[],_=>gx
 |e::es,h=>by rw[MG,MA]at h;exact cP bz (cX h.2) (aS h.1)
def eV{x:Str}{id:String}{p pos:Pos}{e:Expr}{es:QU}{as:List Arg}{f:DR}{r:List V->Hp->VK->Prop}(hc:bO X (.builtin id) r)(D:bU X.K f r)(hg:Gl X x)(hm:X.mg x=none)(hv:bootBuiltins x=some (.builtin id))(hn:x≠"__name__")(hd:(x==("__debug__":Str))=false)(ns:(e::es).all noStar=true)(S:aH X Ex Y (e::es) as):SE X Ex Y (.Call (.Name x p) (e::es) [] pos) (aa f as):=
 eu S (λU H Q h=>WE.of (kT hc hg hm hv (cX ns) hn hd (aS (by rw[MG,MA]at ns;exact ns.1)) (eU (by rw[MG,MA]at ns;exact ns.2))) h) D
def mz(hc:bO X (.type T) r)(D:bU X.K f r)(hg:Gl X x)(hm:X.mg x=none)(hv:bootBuiltins x=some (.type T))(hn:x≠"__name__")(hd:(x==("__debug__":Str))=false)(ns:(e::es).all noStar=true)(S:aH X Ex Y (e::es) as):SE X Ex Y (.Call (.Name x p) (e::es) [] pos) (aa f as):=
 eu S (λU H Q h=>WE.of (lT hc hg hm hv (cX ns) hn hd (aS (by rw[MG,MA]at ns;exact ns.1)) (eU (by rw[MG,MA]at ns;exact ns.2))) h) D
def dR:DR:=λds P=>ds.length<=sizeLine/\P (.ow false) (.list ds)
def eN:DR:=λds P=>ds.length<=sizeLine/\P .sh (.tuple ds)
def EI:bU K dR λxs H Q=>xs.length<=sizeLine/\∀p,H p=none->Q (.ref p) (upd H p (.lst xs)):=λH Hm vs ds P Q s r h q=>⟨by rw[r.len];exact h.1,λp hp=>aZ.nl q s h.2 hp r⟩
def FD:bU K eN λxs H Q=>xs.length<=sizeLine/\∀p,H p=none->Q (.ref p) (upd H p (.tup xs)):=λH Hm vs ds P Q s r h q=>⟨by rw[r.len];exact h.1,λp hp=>aZ.nt q s h.2 hp r⟩
def Ig(ns:es.all noStar=true)(S:aH X Ex Y es as):SE X Ex Y (.List es pos) (aa dR as):=eu S (λU H Q h=>WE.of (IJ (cX ns)) h) EI
def Ht{k:Nat}(ns:es.all noStar=true)(S:aH X Ex Y es as):SE X Ex Y (.Tuple es k pos) (aa eN as):=eu S (λU H Q h=>WE.of (yS (cX ns)) h) FD
def Cf:DR:=λds P=>match ds with
 |[.list xs]=>P .sh (.int xs.length)
 |[.tuple xs]=>P .sh (.int xs.length)
 |_=>False
def El:bU K Cf λxs H Q=>∃p ys,xs=[.ref p]/\(bD K H p ys\/bG K H p ys)/\Q (.int ys.length) H:=by
 intro H Hm vs ds P Q s r h q;unfold Cf at h;split at h
 .obtain⟨x,rfl,h1⟩:=cI r;cases h1 with
  |lst a r1=>exact⟨_,_,rfl,.inl (bX.mono s a).sq,by rw[r1.len];exact aZ.sc q s h (.int _)⟩
 .obtain⟨x,rfl,h1⟩:=cI r;cases h1 with
  |tup a r1=>exact⟨_,_,rfl,.inr (bG.of (s _ _ a)),by rw[r1.len];exact aZ.sc q s h (.int _)⟩
 exact h.elim
def lB:DR:=λds P=>match ds with
 |[.list xs]=>P (.ow false) (.list xs)
 |[.tuple xs]=>P (.ow false) (.list xs)
 |_=>False
def B7:bU K lB λxs H Q=>∃p ys,xs=[.ref p]/\(bD K H p ys\/bG K H p ys)/\∀l,H l=none->Q (.ref l) (upd H l (.lst ys)):=by
 intro H Hm vs ds P Q s r h q;unfold lB at h;split at h
 .obtain⟨x,rfl,h1⟩:=cI r;cases h1 with
  |lst a r1=>exact⟨_,_,rfl,.inl (bX.mono s a).sq,λp hp=>aZ.nl q s h hp r1⟩
 .obtain⟨x,rfl,h1⟩:=cI r;cases h1 with
  |tup a r1=>exact⟨_,_,rfl,.inr (bG.of (s _ _ a)),λp hp=>aZ.nl q s h hp r1⟩
 exact h.elim
def jt:DR:=λds P=>match ds with
 |[.list xs]=>P .sh (.tuple xs)
 |[.tuple xs]=>P .sh (.tuple xs)
 |_=>False
def Ah:bU K jt λxs H Q=>∃p ys,xs=[.ref p]/\((bD K H p ys/\∀l,H l=none->Q (.ref l) (upd H l (.tup ys)))\/(bG K H p ys/\Q (.ref p) H)):=by
 intro H Hm vs ds P Q s r h q;unfold jt at h;split at h
 .obtain⟨x,rfl,h1⟩:=cI r;cases h1 with
  |lst a r1=>exact⟨_,_,rfl,.inl ⟨(bX.mono s a).sq,λp hp=>aZ.nt q s h hp r1⟩⟩
 .obtain⟨x,rfl,h1⟩:=cI r;cases h1 with
  |tup a r1=>exact⟨_,_,rfl,.inr ⟨bG.of (s _ _ a),aZ.sc q s h (.tup a r1)⟩⟩
 exact h.elim
def pU:DR:=k9 λi j=>.int (if j<i then j else i)
def pR:DR:=k9 λi j=>.int (if j>i then j else i)
def Cw{f:Int->Int->Int}:bU K (k9 λi j=>.int (f i j)) λxs H Q=>∃i j,xs=[.int i,.int j]/\Q (.int (f i j)) H:=by intro H Hm vs ds P Q s r h q;refine qU h λa b e p=>?_;subst e;obtain⟨x,y,rfl,h1,h2⟩:=fB r;cases h1;cases h2;exact⟨a,b,rfl,aZ.sc q s p (.int _)⟩
def u5:DR:=λds P=>match ds with
 |[.int i]=>P .sh (.int (if i<0 then-i else i))
 |_=>False
def DX:bU K u5 λxs H Q=>∃i,xs=[.int i]/\Q (.int (if i<0 then-i else i)) H:=by intro H Hm vs ds P Q s r h q;unfold u5 at h;split at h;{obtain⟨x,rfl,h1⟩:=cI r;cases h1;exact⟨_,rfl,aZ.sc q s h (.int _)⟩};exact h.elim
def kq:DR:=λds P=>match ds with
 |[.int i]=>P .sh (.int i)
 |[.bool k]=>P .sh (.int (if k then 1 else 0))
 |_=>False
def zy:bU K kq λxs H Q=>(∃i,xs=[.int i]/\Q (.int i) H)\/∃k,xs=[.bl k]/\Q (.int (if k then 1 else 0)) H:=by intro H Hm vs ds P Q s r h q;unfold kq at h;split at h;{obtain⟨x,rfl,h1⟩:=cI r;cases h1;exact .inl ⟨_,rfl,aZ.sc q s h (.int _)⟩};{obtain⟨x,rfl,h1⟩:=cI r;cases h1;exact .inr ⟨_,rfl,aZ.sc q s h (.int _)⟩};exact h.elim
theorem uO:∀{vs:List V}{ns:QX},ak K H vs (ns.map PyData.int)->vs=ns.map V.int
 |_,[],h=>by cases h;rfl
 |_,n::ns,h=>by
  cases h with
  |cons h t=>cases h;rw[uO t];rfl
theorem kQ:∀(ns:QX),ak K H (ns.map V.int) (ns.map PyData.int)
 |[]=>.nil
 |n::ns=>.cons (.int n) (kQ ns)
def kF(h:Rp K H x (.list ds)):∃a xs,x=.ref a/\bX K H a xs/\ak K H xs ds:=by
 cases h with
 |lst a r=>exact⟨_,_,rfl,a,r⟩
def lQ:DR:=λds P=>∃ns:QX,ds=[.list (ns.map .int)]/\ns.length<64/\∀ms:QX,ms.Perm ns->ms.Pairwise (·<=·)->P (.ow false) (.list (ms.map .int))
def Ay:bU K lQ λxs H Q=>∃(a:Addr)(ns:QX),xs=[.ref a]/\bD K H a (ns.map V.int)/\ns.length<64/\∀(ms:QX)(p:Addr),ms.Perm ns->ms.Pairwise (·<=·)->H p=none->Q (.ref p) (upd H p (.lst (ms.map V.int))):=by rintro H Hm vs ds P Q s r⟨ns,rfl,hn,h⟩q;obtain⟨x,rfl,h1⟩:=cI r;obtain⟨a,xs,rfl,ha,r1⟩:=kF h1;cases uO r1;exact⟨a,ns,rfl,(bX.mono s ha).sq,hn,λms p m1 m2 hp=>aZ.nl q s (h ms m1 m2) hp (kQ ms)⟩
def pD(p:Int×Int):PyData:=.tuple [.int p.1,.int p.2]
def pY:DR:=λds P=>∃ps:QI,ds=[.list (ps.map pD)]/\ps.length<=1000/\∀qs:QI,qs.Perm ps->qs.Pairwise xJ->P (.ow false) (.list (qs.map pD))
theorem rN(s:af H H'):∀{vs:List V}{ps:QI},ak K H vs (ps.map pD)->f6 K H' vs ps
 |_,[],h=>by cases h;exact .nil
 |_,p::ps,h=>by
  cases h with
  |cons h t=>
   cases h with
   |tup a r=>obtain⟨x,y,rfl,h1,h2⟩:=fB r;cases h1;cases h2;exact .cons (bG.of (s _ _ a)) (rN s t)
def Ac(r:ak K H vs (ps.map pD))(l:zs.length=qs.length)(h:(zs.zip qs).Perm (vs.zip ps)):ak K H zs (qs.map pD):=by
 have mem:∀y q,(y,q)∈zs.zip qs->Rp K H y (pD q):=λy q m=>by have m2:=h.mem_iff.mp m;obtain⟨i,hi⟩:=NS m2;obtain⟨h1,h2⟩:=List.getElem?_zip_eq_some.mp hi;obtain⟨d,e,r'⟩:=r.B9 h1;rw[MQ,h2]at e;cases e;exact r'
 have go:∀{zs:List V}{qs:QI},zs.length=qs.length->(∀y q,(y,q)∈zs.zip qs->Rp K H y (pD q))->ak K H zs (qs.map pD):=by
  intro zs;induction zs with
  |nil=>
   intro qs l _;cases qs with
   |nil=>exact .nil
   |cons _ _=>cases l
  |cons z zs ih=>
   intro qs l m;cases qs with
   |nil=>cases l
   |cons q qs=>exact .cons (m z q M7) (ih (Nat.succ.inj l) λy q' h=>m y q' (MC _ h))
 exact go l mem
def Ad:bU K pY (AX K):=by
 rintro H Hm vs ds P Q s r⟨ps,rfl,hn,h⟩q;obtain⟨x,rfl,h1⟩:=cI r;obtain⟨a,xs,rfl,ha,r1⟩:=kF h1;have l1:xs.length=ps.length:=by rw[r1.len,M9]
 refine⟨a,xs,ps,rfl,(bX.mono s ha).sq,rN s r1,by rw[l1];exact hn,λzs qs p lz perm srt hp=>?_⟩;have pq:qs.Perm ps:=by have:=perm.map Prod.snd;rw[P6 (by lia),P6 (by lia)]at this;exact this
 exact aZ.nl q s (h qs pq srt) hp (Ac r1 lz perm)
inductive vP(vs:List V)(H:Hp)(Q:VK):Prop
 |mk:∀j:Int,(vs=[.int j])->(∀p,H p=none->0<=j/\j<=1000/\∀l,upd H p (.nR 0 j) l=none->Q (.ref l) (upd (upd H p (.nR 0 j)) l (.lst (((List.range j.toNat).map λi:Nat=>(i:Int)).map V.int))))->vP vs H Q
def z7:List V->Hp->VK->Prop:=λvs H Q=>vP vs H Q
def gu:DR:=λds P=>match ds with
 |[.int j]=>(0<=j/\j<=1000)/\P (.ow false) (.list (iS 0 j.toNat))
 |_=>False
def D5(n:Nat):ak K H (((List.range n).map λi:Nat=>(i:Int)).map V.int) (iS 0 n):=by have:=kQ (K:=K) (H:=H) ((List.range n).map λi:Nat=>(i:Int));rw[Mu (l:=List.range n) (g:=PyData.int)]at this;unfold iS;rw[show(λi:Nat=>PyData.int (0+i))=PyData.int∘λi:Nat=>(i:Int)from funext λi=>by simp];exact this
def As:bU K gu z7:=by intro H Hm vs ds P Q s r h q;unfold gu at h;split at h;{obtain⟨x,rfl,h1⟩:=cI r;cases h1;rename_i j;refine⟨j,rfl,λp hp=>⟨h.1.1,h.1.2,λl hl=>?_⟩⟩;have s1:=bI (o:=.nR 0 j) hp;have s2:=bI (o:=.lst (((List.range j.toNat).map λi:Nat=>(i:Int)).map V.int)) hl;refine q _ _ _ _ Hm [l] h.2 (s1.trans s2) (af.refl _) (s.trans (s1.trans s2)) (λ_ _=>.inl rfl) (.ow aB (D5 _)) λa ha=>?_;rw[MR.mp ha];have:H l=none:=s1.free hl;exact⟨this,ie s this⟩};exact h.elim
def Bo(hc:X.calm=true)(g1:Gl X "list")(m1:X.mg "list"=none)(g2:Gl X "range")(m2:X.mg "range"=none)(ns:noStar a=true)(S:aH X Ex Y [a] as) : SE X Ex Y (.Call (.Name "list" p1) [.Call (.Name "range" p2) [a] [] pos2] [] pos) (aa gu as):=
 eu (r:=z7) S (λU H Q h=>WE.of (lT (xU hc) g1 m1 Py (cP (lT vz g2 m2 PyProof.Rows.boot_range (cX (es:=[a]) (by rw[MG,ns];rfl)) (by decide) (by decide) (aS ns) (by rfl)) gx)) (by
  refine λpins s I=>aG (h pins s I) λv s1 ⟨x,H1,I1,r1,j,e,q⟩=>⟨x,H1,I1,r1,?_⟩
  cases e;refine⟨j,rfl,λp hp=>?_⟩
  obtain⟨q1,q2,q3⟩:=q p hp;exact⟨p,j,rfl,aB,q1,q2,q3⟩)) As
end
inductive Ag(K:Frag)(H Hm:Hp):QT->List V->QM->QS->Prop
 |nil:Ag K H Hm [] [] [] []
 |sh {ms:QT}{vs:List V}{ds:QM}{as:QS}{v:V}{d:PyData}:Rp K Hm v d->Ag K H Hm ms vs ds as->Ag K H Hm (false::ms) (v::vs) (d::ds) as
 |mu {ms:QT}{vs:List V}{ds:QM}{as:QS}{a:Addr}{xs:List V}{es:QM}:H a=some (.lst xs)->ak K Hm xs es->Hm a=none->a∉as->Ag K H Hm ms vs ds as->Ag K H Hm (true::ms) (.ref a::vs) (.list es::ds) (a::as)
inductive Bk(K:Frag)(H Hm:Hp):QS->QM->Prop
 |nil:Bk K H Hm [] []
 |cons {a:Addr}{xs:List V}{es:QM}{as:QS}{us:QM}:H a=some (.lst xs)->ak K Hm xs es->Hm a=none->Bk K H Hm as us->Bk K H Hm (a::as) (.list es::us)
def c9(mg:QE)(K:Frag)(ms:QT)(sp:cy):Sp:=λvs H Q Ex=>∃(ds:QM)(as:QS)(Hm:Hp)(P:QM->Kd->PyData->Prop)(x:XC),af Hm H/\Ag K H Hm ms vs ds as/\sp ds P x /\
 (∀us k r u H' Hm' fp,P us k r->af Hm Hm'->af Hm' H'->(∀p o,p∉as->H p=some o->H' p=some o)->(∀a,a∉as->H a≠none->OE (Hm' a) (Hm a))->Bk K H' Hm' as us->Own K H' Hm' k u r fp->(∀a∈fp,H a=none/\Hm' a=none)->Q u H') /\
 (∀c d C a H',mg c=some (.ref C)->x c d->(∀p o,p∉as->H p=some o->H' p=some o)->H' a=some (.ext (dI a C none))->H a=none->Ex (.ref C) (some a) H')
section
variable{K:Frag}{g:Gh}{U:St}
def Jp{F:Nat->QS}(R:Rl K g E U H Hm F)(s:af Hm Hm1):∀{ms:QT}{as:List Arg}{os:Qa}{vs:List V}{ds:QM},Got K U Hm as os vs->fill as E os=some ds->shape ms as=true->(lent ms as).Nodup->(∀i∈lent ms as,∃p es,E[i]?=some (some (.ow p,.list es)))->(∀i∈kept ms as,∀a∈F i,Hm1 a=H a)->(∀i∈lent ms as,∀a∈F i,Hm1 a=none)->∃ix:List (Nat×Addr),ix.map (·.1)=lent ms as/\Ag K H Hm1 ms vs ds (ix.map (·.2))/\∀q∈ix,U[q.1]?=some (some (.ref q.2))/\F q.1=[q.2]:=by
 intro ms as os vs ds G;induction G generalizing ms ds with
 |nil=>
  intro h sh nd hl hk hn;cases ms with
  |nil=>cases h;exact⟨[],rfl,.nil,λ_ z=>by cases z⟩
  |cons b ms=>cases b<;>cases sh
 |@pk i v as os vs hv G ih=>
  intro h sh nd hl hk hn;cases ms with
  |nil=>cases sh
  |cons b ms=>
   cases b with
   |false=>
    rw[fill]at h;split at h
    .rename_i k d e;by_cases hr:k.rd=true
     .rw[if_pos hr]at h;cases hf:fill as E os with
      |none=>rw[hf]at h;cases h
      |some es=>rw[hf]at h;cases h;obtain⟨v',h1,h2⟩:=R.slot i k d e;rw[hv]at h1;cases h1;obtain⟨ix,e1,e2,e3⟩:=ih (ms:=ms) hf sh nd hl (λj hj=>hk j (MC _ hj)) hn;exact⟨ix,e1,.sh (h2.rp hr s (hk i M7)) e2,e3⟩
     rw[if_neg hr]at h;cases h
    cases h
   |true=>
    rw[fill]at h;obtain⟨p,es0,e0⟩:=hl i M7;rw[e0]at h;have h:(if(Kd.ow p).rd=true then(fill as E os).map (PyData.list es0::·)else none)=some _:=h;rw[if_pos (show(Kd.ow p).rd=true from rfl)]at h;cases hf:fill as E os with
    |none=>rw[hf]at h;cases h
    |some es=>
     rw[hf]at h;cases h;obtain⟨v',h1,h2⟩:=R.slot i _ _ e0;rw[hv]at h1;cases h1;have nd':=N4.mp (show(i::lent ms as).Nodup from nd);obtain⟨ix,e1,e2,e3⟩:=ih (ms:=ms) hf sh nd'.2 (λj hj=>hl j (MC _ hj)) hk (λj hj=>hn j (MC _ hj));have hFi:=hn i M7;generalize hF:F i=fi at h2 hFi;cases h2 with
     |@ow _ a xs _ ha hr=>refine⟨(i,a)::ix,?_,.mu ha (hr.mono s) (hFi a M7) ?_ e2,?_⟩;{show i::ix.map (·.1)=i::lent ms as;rw[e1]};{intro m;obtain⟨q,hq,rfl⟩:=MS.mp m;have:=R.aM i q.1 q.2 (by rw[hF];exact M7) (by rw[(e3 q hq).2];exact M7);exact nd'.1 (e1▸(this▸MS.mpr ⟨q,hq,rfl⟩))};intro q hq;rcases MH.mp hq with rfl|hq;{exact⟨hv,hF⟩};exact e3 q hq
 |@ev d0 v u as os vs r G ih=>
  intro h sh nd hl hk hn;cases ms with
  |nil=>cases sh
  |cons b ms=>
   cases b with
   |true=>cases sh
   |false=>
    rw[fill]at h;cases hf:fill as E os with
    |none=>rw[hf]at h;cases h
    |some es=>rw[hf]at h;cases h;obtain⟨ix,e1,e2,e3⟩:=ih (ms:=ms) hf sh nd hl hk hn;exact⟨ix,e1,.sh (r.mono s) e2,e3⟩
theorem lA:∀{ms:QT}{as:List Arg}{us:QM}{E E2:En},nZ ms as us E=some E2->(lent ms as).Nodup->E2.length=E.length/\(∀j,j∉lent ms as->E2[j]?=E[j]?)/\(lent ms as).length=us.length /\ ∀(n i:Nat)(u:PyData),(lent ms as)[n]?=some i->us[n]?=some u->∃p es es',u=.list es'/\E[i]?=some (some (.ow p,.list es))/\E2[i]?=some (some (.ow p,.list es'))
 |[],[],[],E,E2,h,_=>by cases h;exact⟨rfl,λ_ _=>rfl,rfl,λ_ _ _ z=>by cases z⟩
 |[],[],_::_,E,E2,h,_=>by cases h
 |[],_::_,_,E,E2,h,_=>by cases h
 |false::ms,.pk j::r,us,E,E2,h,nd=>lA (ms:=ms) (as:=r) (us:=us) h nd
 |false::ms,.ev _::r,us,E,E2,h,nd=>lA (ms:=ms) (as:=r) (us:=us) h nd
 |false::ms,[],us,E,E2,h,_=>by cases h
 |true::ms,[],us,E,E2,h,_=>by cases h
 |true::ms,.ev _::r,us,E,E2,h,_=>by cases h
 |true::ms,.pk i::r,[],E,E2,h,_=>by cases h
 |true::ms,.pk i::r,u::us,E,E2,h,nd=>by
  rw[nZ]at h;obtain⟨n1,n2⟩:=N4.mp (show(i::lent ms r).Nodup from nd);split at h
  .rename_i p es e;by_cases hu:vM u=true
   .rw[if_pos hu]at h;cases u with
    |list es'=>
     have li:i<E.length:=by rcases Mv i E.length with h|h;{exact h};rw[Mk h]at e;cases e
     obtain⟨l1,g1,l2,g2⟩:=lA (ms:=ms) (as:=r) (us:=us) h n2;rw[MY]at l1;refine⟨l1,λj hj=>?_,congrArg (·+1) l2,λn j v h1 h2=>?_⟩;{have hj':j∉lent ms r:=λz=>hj (MC _ z);have hne:i≠j:=λz=>hj (z▸M7);rw[g1 j hj',ah hne]};cases n with
     |zero=>cases h1;cases h2;exact⟨p,es,es',rfl,e,by rw[g1 i n1,ao li]⟩
     |succ n=>have h1:(lent ms r)[n]?=some j:=h1;have h2:us[n]?=some v:=h2;obtain⟨p',fs,fs',e1,e2,e3⟩:=g2 n j v h1 h2;have hne:i≠j:=λz=>n1 (z▸Ma h1);rw[ah hne]at e2;exact⟨p',fs,fs',e1,e2,e3⟩
    |_=>cases hu
   rw[if_neg hu]at h;cases h
  cases h
theorem Bk.get:∀{as:QS}{us:QM}{n:Nat}{a:Addr},Bk K H Hm as us->as[n]?=some a->∃xs es,us[n]?=some (.list es)/\H a=some (.lst xs)/\ak K Hm xs es/\Hm a=none
 |_,_,_,_,.nil,h=>by simp at h
 |_,_,0,_,.cons h1 h2 h3 _,h=>by simp at h;subst h;exact⟨_,_,rfl,h1,h2,h3⟩
 |_,_,n+1,_,.cons _ _ _ t,h=>t.get (n:=n) (by simpa using h)
def yc{E E2 E3:En}{H H' Hm Hm2:Hp}{F:Nat->QS}{is:QW}{ix:List (Nat×Addr)}{us:QM}{k:Kd}{u:V}{v:PyData}{fp:QS}(R:Rl K g E U H Hm F)(hix:∀q∈ix,U[q.1]?=some (some (.ref q.2))/\F q.1=[q.2])(hik:∀q∈ix,q.1∉is)(l2:E2.length=E.length)(hs:∀j,j∉ix.map (·.1)->E2[j]?=E[j]?)(hu:∀q∈ix,∃p es xs' es',PyData.list es'∈us/\E[q.1]?=some (some (.ow p,.list es))/\E2[q.1]?=some (some (.ow p,.list es'))/\H' q.2=some (.lst xs')/\ak K Hm2 xs' es'/\Hm2 q.2=none)(hE:(if(flat k v&&us.all (flat (.ow false)))=true then some E2 else cS is E2)=some E3)(s1:af (lend Hm H (is.flatMap F)) Hm2)(s2:af Hm2 H')(sH:∀p o,p∉ix.map (·.2)->H p=some o->H' p=some o)(old:∀a,a∉ix.map (·.2)->H a≠none->OE (Hm2 a) (lend Hm H (is.flatMap F) a))(o:Own K H' Hm2 k u v fp)(fr:∀a∈fp,H a=none/\Hm2 a=none) : ∃Hm' F',Rl K g E3 U H' Hm' F'/\af Hm Hm'/\Tm K g F' H' Hm' k u v fp:=by
 have mem:∀{a i},a∈F i->i∈is->a∈is.flatMap F:=λha hi=>Mj.mpr ⟨_,hi,ha⟩;have off:∀a∈is.flatMap F,Hm a=none:=λa ha=>by obtain⟨i,_,h⟩:=Mj.mp ha;exact R.off i a h
 have up:af Hm (lend Hm H (is.flatMap F)):=gG off;have aX:∀{i a},a∈F i->H a≠none:=λha z=>by obtain⟨u,hu,_⟩:=R.aX _ _ ha;rw[z]at hu;cases hu
 have own:∀q∈ix,q.2∈F q.1:=λq hq=>by rw[(hix q hq).2];exact M7
 have lentF:∀{i a},a∈F i->a∈ix.map (·.2)->i∈ix.map (·.1):=λ{i a} ha m=>by obtain⟨q,hq,rfl⟩:=MS.mp m;exact MS.mpr ⟨q,hq,(R.aM i q.1 q.2 ha (own q hq)).symm⟩
 have lis:∀a,a∈ix.map (·.2)->a∉is.flatMap F:=λa m z=>by obtain⟨q,hq,rfl⟩:=MS.mp m;obtain⟨i,hi,h⟩:=Mj.mp z;exact hik q hq (R.aM i q.1 q.2 h (own q hq)▸hi)
 have nfp:∀a∈fp,∀i,a∉F i:=λa ha i=>R.fresh (fr a ha).1;have m2:∀{a},H a≠none->a∉is.flatMap F->(a∉ix.map (·.2)/\OE (Hm2 a) (Hm a))\/(a∈ix.map (·.2)/\Hm2 a=none):=λ{a} h c=>by by_cases z:a∈ix.map (·.2);{obtain⟨q,hq,rfl⟩:=MS.mp z;obtain⟨_,_,_,_,_,_,_,_,_,e⟩:=hu q hq;exact .inr ⟨z,e⟩};refine .inl ⟨z,?_⟩;have h':=old a z h;rw[b9 c]at h';exact h'
 have offI:∀{i a},a∈F i->a∉is.flatMap F->Hm2 a=none:=λ{i a} ha c=>by rcases m2 (aX ha) c with⟨z,e⟩|⟨_,e⟩;{obtain⟨w,hw,nt⟩:=R.aX i a ha;exact e.off (R.off i a ha) s2 (sH a w z hw) nt};exact e
 have od:∀{a},g.H0 a≠none->a∉is.flatMap F->OE (Hm2 a) (g.gF a):=λ{a} h c=>by rcases m2 (R.mY h) c with⟨_,e⟩|⟨z,e⟩;{exact e.trans (R.old a h)};obtain⟨q,hq,rfl⟩:=MS.mp z;have h':=R.old _ h;rw[R.off q.1 q.2 (own q hq)]at h';rw[e];exact h'
 have hliv:∀{i a},a∈F i->∃w,H' a=some w/\nH w:=λ{i a} ha=>by by_cases z:a∈ix.map (·.2);{obtain⟨q,hq,rfl⟩:=MS.mp z;obtain⟨_,_,_,_,_,_,_,e,_,_⟩:=hu q hq;exact⟨_,e,jE⟩};obtain⟨w,hw,nt⟩:=R.aX i a ha;exact⟨w,sH a w z hw,nt⟩
 have keepH:∀{j a},j∉ix.map (·.1)->a∈F j->H' a=H a:=λ{j a} hj ha=>by obtain⟨w,hw,_⟩:=R.aX j a ha;rw[hw];exact sH a w (λz=>hj (lentF ha z)) hw
 have frm:∀p o,p∉g.M->g.H0 p=some o->H' p=some o:=λp o hp ho=>by refine sH p o (λz=>?_) (R.fr p o hp ho);obtain⟨q,hq,rfl⟩:=MS.mp z;rcases R.new q.1 q.2 (own q hq)with y|y;{exact hp y};rw[y]at ho;cases ho
 have pinn:∀{E4:En},(∀j,j∉is->E4[j]?=E2[j]?)->(∀j∈is,E4[j]?=E2[j]?\/∃k d,E2[j]?=some (some (k,d))/\k.fz=true)->∀q∈g.pins,U[q.1]?=some (some (.ref q.2))/\∃ds,E4[q.1]?=some (some (.ow true,.list ds)):=λ{E4} h4 h5 q hq=>by
  obtain⟨h1,ds',h2⟩:=R.pin q hq;refine⟨h1,?_⟩;have e2:∃ds,E2[q.1]?=some (some (.ow true,.list ds)):=by by_cases z:q.1∈ix.map (·.1);{obtain⟨q',hq',e⟩:=MS.mp z;obtain⟨p,es,xs',es',_,g1,g2,_⟩:=hu q' hq';rw[e,h2]at g1;cases g1;exact⟨es',e▸g2⟩};exact⟨ds',by rw[hs _ z];exact h2⟩
  obtain⟨ds,e2⟩:=e2;by_cases z:q.1∈is;{rcases h5 _ z with y|⟨k0,d0,y,yk⟩;{exact⟨ds,y.trans e2⟩};rw[e2]at y;cases y;cases yk};exact⟨ds,(h4 _ z).trans e2⟩
 by_cases hf:(flat k v&&us.all (flat (.ow false)))=true
 .rw[if_pos hf]at hE;cases hE;rw[MA,MI]at hf;have st:jH Hm2 (back Hm2 (is.flatMap F)):=λa xs h=>by
   have c:a∉is.flatMap F:=λz=>by obtain⟨i,_,hi⟩:=Mj.mp z;obtain⟨w,hw,nt⟩:=R.aX i a hi;have e2:Hm2 a=some w:=s1 _ _ (by rw[d8 z];exact hw);rw[e2]at h;cases h;exact nt xs rfl
   rw[cg c];exact h
  have upB:af Hm (back Hm2 (is.flatMap F)):=λb o e=>by rw[cg λz=>by rw[off b z]at e;cases e];exact s1 _ _ (up _ _ e)
  have R':Rl K g E2 U H' (back Hm2 (is.flatMap F)) F:={
   len:=l2.trans R.len
   sub:=tH s2
   slot:=λj k' d' e'=>by
    by_cases z:j∈ix.map (·.1)
    .obtain⟨q,hq,rfl⟩:=MS.mp z;obtain⟨p,es,xs',es',mu,g1,g2,g3,g4,_⟩:=hu q hq;rw[g2]at e';cases e';obtain⟨h1,h2⟩:=hix q hq;exact⟨_,h1,by rw[h2];exact .ow g3 (g4.um st (hf.2 _ mu))⟩
    .rw[hs j z]at e';obtain⟨v',h1,h2⟩:=R.slot j k' d' e';exact⟨v',h1,h2.step upB λa ha=>keepH z ha⟩
   off:=λi a ha=>by
    by_cases c:a∈is.flatMap F
    .exact gJ c
    .rw[cg c];exact offI ha c
   aX:=λi a ha=>hliv ha
   aM:=R.aM
   fr:=frm
   new:=R.new
   pin:=pinn (λj _=>rfl) λj _=>.inl rfl
   old:=λa ha=>by
    by_cases c:a∈is.flatMap F
    .have h':=R.old a ha;rw[off a c]at h';rw[gJ c];exact h'
    .rw[cg c];exact od ha c }
  refine⟨_,F,R',upB,⟨o.flat st hf.1,λa ha=>?_,nfp,λa ha=>R.eK (fr a ha).1⟩⟩;by_cases c:a∈is.flatMap F;{exact gJ c};rw[cg c];exact(fr a ha).2
 rw[if_neg hf]at hE;obtain⟨l3,g3⟩:=kH hE;have R':Rl K g E3 U H' Hm2 (λj=>if j∈is then []else F j):={
  len:=l3.trans (l2.trans R.len)
  sub:=s2
  slot:=λj k' d' e'=>by
   by_cases c:j∈is
   .obtain⟨k0,d0,e0,hk0,e1⟩:=(g3 j).2 c;rw[e1]at e';cases e';have z:j∉ix.map (·.1):=λz=>by
     obtain⟨q,hq,rfl⟩:=MS.mp z;exact hik q hq c
    rw[hs j z]at e0;obtain⟨v',h1,h2⟩:=R.slot j k0 _ e0;refine⟨v',h1,?_⟩;rw[if_pos c];exact .sh ((h2.rp (by cases k0<;>first|rfl|cases hk0) up λa ha=>d8 (mem ha c)).mono s1)
   .rw[(g3 j).1 c]at e';rw[if_neg c]
    by_cases z:j∈ix.map (·.1)
    .obtain⟨q,hq,rfl⟩:=MS.mp z;obtain⟨p,es,xs',es',mu,g1,g2,g4,g5,_⟩:=hu q hq;rw[g2]at e';cases e';obtain⟨h1,h2⟩:=hix q hq;exact⟨_,h1,by rw[h2];exact .ow g4 g5⟩
    .rw[hs j z]at e';obtain⟨v',h1,h2⟩:=R.slot j k' d' e';exact⟨v',h1,h2.step (up.trans s1) λa ha=>keepH z ha⟩
  off:=λj a ha=>by
   by_cases c:j∈is
   .rw[if_pos c]at ha;cases ha
   .rw[if_neg c]at ha;exact offI ha λz=>by
     obtain⟨i,hi,h⟩:=Mj.mp z;exact c (R.aM i j a h ha▸hi)
  aX:=λj a ha=>by
   by_cases c:j∈is
   .rw[if_pos c]at ha;cases ha
   .rw[if_neg c]at ha;exact hliv ha
  aM:=λj l a h1 h2=>by
   by_cases c:j∈is
   .rw[if_pos c]at h1;cases h1
   .rw[if_neg c]at h1
    by_cases c':l∈is
    .rw[if_pos c']at h2;cases h2
    .rw[if_neg c']at h2;exact R.aM j l a h1 h2
  fr:=frm
  new:=λj a ha=>by
   by_cases c:j∈is
   .rw[if_pos c]at ha;cases ha
   .rw[if_neg c]at ha;exact R.new j a ha
  pin:=pinn (λj hj=>(g3 j).1 hj) λj hj=>by
   obtain⟨k0,d0,e0,hk0,_⟩:=(g3 j).2 hj;exact .inr ⟨k0,d0,e0,hk0⟩
  old:=λa ha=>by
   refine od ha λz=>?_
   obtain⟨i,hi,h⟩:=Mj.mp z;obtain⟨k0,d0,e0,hk0,_⟩:=(g3 i).2 hi;have zi:i∉ix.map (·.1):=λz=>by
    obtain⟨q,hq,rfl⟩:=MS.mp z;exact hik q hq hi
   rw[hs i zi]at e0;exact ha (R.notM e0 (by cases k0<;>first|rfl|(rename_i p;cases p<;>first|rfl|cases hk0)|cases hk0) h) }
 refine⟨Hm2,_,R',up.trans s1,⟨o,λa ha=>(fr a ha).2,λa ha i=>?_,λa ha=>R.eK (fr a ha).1⟩⟩;by_cases c:i∈is;{rw[if_pos c];simp};rw[if_neg c];exact nfp a ha i
end
section
variable{X:Cx}{Ex:XK}{Y:QW}
def E7{x:Str}{k:Nat}{ps:QY}{ms:QT}{sp:cy}{p pos:Pos}{e:Expr}{es:QU}{as:List Arg}(F:cO X.prog X.w X.K X.mg X.base k x ps (c9 X.mg X.K ms sp))(hp:Passes (dP X.prog X.w) X Ex)(hr:b8 k X.A)(hg:Gl X x)(hd:(x==("__debug__":Str))=false)(ns:(e::es).all noStar=true)(S:aH X Ex Y (e::es) as):SE X Ex Y (.Call (.Name x p) (e::es) [] pos) (aU sp ms as):=by
 intro g xc E U H Hm Fo P Q hx R h q;obtain⟨f,fd,h1,h2,h3,h4⟩:=F;refine WE.of (FI (E:=Ex) h4 hr hg h1 h2 h3 .nil hp (cX ns) hd (aS (by rw[MG,MA]at ns;exact ns.1)) (eU (by rw[MG,MA]at ns;exact ns.2))) ?_;refine jh hx S R h λE1 os vs H1 Hm1 F1 p R1 s1 G=>?_;replace p:z8 sp ms as xc E1 os P:=p;unfold z8 at p;rw[<-aR,dS]at p;obtain⟨ds,hf,p⟩:=p;rw[bY,BX]at p;obtain⟨hl,hsp⟩:=p;unfold vf at hl;rw[MA,MA,ND,MI]at hl;obtain⟨⟨l1,l2⟩,l3⟩:=hl;have hlent:∀i∈lent ms as,i∉kept ms as/\∃p es,E1[i]?=some (some (.ow p,.list es)):=λi hi=>by have:=l3 i hi;rw[MA]at this;refine⟨λz=>?_,?_⟩;{have y:=this.1;rw[Ob,OJ]at y;simp[z]at y};have y:=this.2;split at y;{rename_i p es e;exact⟨p,es,e⟩};cases y
 have off:∀a∈(kept ms as).flatMap F1,Hm1 a=none:=λa ha=>by obtain⟨i,_,h⟩:=Mj.mp ha;exact R1.off i a h
 have up:=gG (Hm:=Hm1) (H:=H1) off;obtain⟨ix,e1,e2,e3⟩:=Jp R1 up (ms:=ms) G hf l1 l2 (λi hi=>(hlent i hi).2) (λi hi a ha=>d8 (Mj.mpr ⟨i,hi,ha⟩)) λi hi a ha=>by
  rw[b9 λz=>by
   obtain⟨j,hj,h⟩:=Mj.mp z;exact(hlent i hi).1 (R1.aM j i a h ha▸hj)]
  exact R1.off i a ha
 show c9 X.mg X.K ms sp (vs++[]) H1 Q Ex;rw[NI];refine⟨ds,ix.map (·.2),lend Hm1 H1 ((kept ms as).flatMap F1),_,xc,jw R1.sub,e2,hsp,λus k r u H' Hm' fp p sM sS fr old bk o new=>?_,λc d C a H' hC hxc fr ha hn=>?_⟩
 .replace p:yP ms as E1 us k r P:=p;unfold yP at p;rw[<-aR,qV]at p;obtain⟨E2,hu,p⟩:=p;rw[<-aR,Bx]at p;obtain⟨E3,ha,p⟩:=p;obtain⟨u1,u2,u3,u4⟩:=lA hu l2;have hu':∀q∈ix,∃p es xs' es',PyData.list es'∈us/\E1[q.1]?=some (some (.ow p,.list es))/\E2[q.1]?=some (some (.ow p,.list es'))/\H' q.2=some (.lst xs')/\ak X.K Hm' xs' es'/\Hm' q.2=none:=λq hq=>by
   obtain⟨n,hn⟩:=NS hq;have hn1:(lent ms as)[n]?=some q.1:=by rw[<-e1,MQ,hn];rfl
   have hn2:(ix.map (·.2))[n]?=some q.2:=by rw[MQ,hn];rfl
   obtain⟨xs',es',g1,g2,g3,g4⟩:=bk.get hn2;obtain⟨p',es,es'',g5,g6,g7⟩:=u4 n q.1 _ hn1 g1;cases g5;exact⟨p',es,xs',es',Ma g1,g6,g7,g2,g3,g4⟩
  obtain⟨Hm'',F'',R'',s'',T⟩:=yc R1 (is:=kept ms as) (ix:=ix) (us:=us) e3 (λq hq=>(hlent q.1 (e1▸MS.mpr ⟨q,hq,rfl⟩)).1) u1 (λj hj=>u2 j (e1▸hj)) hu' (t9 ha) sM sS fr old o new;exact q _ _ _ _ _ _ _ _ p R'' (s1.trans s'') T
 refine hx c d C a H' hC hxc (λp o hp ho=>?_) ha (R1.eK hn);refine fr p o (λz=>?_) (R1.fr p o hp ho);obtain⟨q,hq,rfl⟩:=MS.mp z;rcases R1.new q.1 q.2 (by rw[(e3 q hq).2];exact M7)with y|y;{exact hp y};rw[y]at ho;cases ho
end
def WS(X:Cx)(st:Stmt):TS:=λD U H=>∀(pins:QF)(s:Shared),Inv X pins U H s->wpAny (model X.prog X.w) X.A (exec st X.env) (SP X pins D) X.xe s
def lH(X:Cx)(st:QV):TS:=λD U H=>∀(pins:QF)(s:Shared),Inv X pins U H s->wpAny (model X.prog X.w) X.A (execs st X.env) (SP X pins D) X.xe s
def x6:PS X st (WS X st):=λpins s _ _ _ I h=>h pins s I
def fu:jA X st (lH X st):=λpins s _ _ _ I h=>h pins s I
def WS.of(h:PS X st t)(q:t D U H):WS X st D U H:=λpins s I=>h pins s U H D I q
def lH.of(h:jA X st t)(q:t D U H):lH X st D U H:=λpins s I=>h pins s U H D I q
def aF{α:Type}{l:List α}{i:Nat}{a:α}(h:l[i]?=some a):i<l.length:=by rcases Mv i l.length with z|z;{exact z};rw[Mk z]at h;cases h
def gO{Y:QW}{U:St}{j i:Nat}{v:Option V}(nd:Y.Nodup)(h:Y[j]?=some i)(hi:i<U.length):(sel Y U).set j v=sel Y (U.set i v):=by
 have lj:j<Y.length:=aF h;refine Nc λk=>?_;by_cases c:k=j;{subst c;rw[ao (by unfold sel;rw[M9];exact lj)];unfold sel;rw[MQ,h];show some v=some ((U.set i v)[i]?).join;rw[ao hi];rfl};rw[ah (Ne.symm c)];unfold sel;rw[MQ,MQ];cases e:Y[k]? with
 |none=>rfl
 |some m=>
  have ne:i≠m:=λz=>c (by
   have h1:=N2.mp e;have h2:=N2.mp h;obtain⟨l1,e1⟩:=h1;obtain⟨l2,e2⟩:=h2;exact(List.getElem_inj nd).mp (e1.trans (z.symm.trans e2.symm)))
  show some (U[m]?).join=some ((U.set i v)[m]?).join;rw[ah ne]
abbrev aJ(X:Cx):QW:=List.range X.N.length
def Kc(X:Cx)(Ex:XK)(w:TS)(d:DS):Prop:=
 ∀(g:Gh)(D':eB)(E:En)(U:St)(H Hm:Hp)(F:Nat->QS)(D:Ends),XL X Ex D'.xc g->Rl X.K g E U H Hm F->d D' E->
  (∀E' σ' H' Hm' F',D'.nx E'->Rl X.K g E' σ' H' Hm' F'->af Hm Hm'->D.nx (sel (aJ X) σ') H')->
  (∀E' k v u σ' H' Hm' F' fp,D'.rt E' k v->Rl X.K g E' σ' H' Hm' F'->Tm X.K g F' H' Hm' k u v fp->D.rt u H')->w D (sel (aJ X) U) H
abbrev S1(X:Cx)(Ex:XK)(st:Stmt)(d:DS):Prop:=Kc X Ex (WS X st) d
abbrev SS(X:Cx)(Ex:XK)(st:QV)(d:DS):Prop:=Kc X Ex (lH X st) d
section
variable{X:Cx}{Ex:XK}
def cE:SS X Ex [] er:=λg D' E U H Hm F D hx R h nx rt=>lH.of Fc (nx _ _ _ _ _ h R (af.refl _))
def aj{st:Stmt}{rest:QV}{a b:DS}(h1:S1 X Ex st a)(h2:SS X Ex rest b):SS X Ex (st::rest) (aC a b):=by intro g D' E U H Hm F D hx R h nx rt;refine lH.of (uD x6 fu) (h1 g { D' with nx:=b D' } E U H Hm F _ hx R h (λE1 σ1 H1 Hm1 F1 p1 R1 s1=>?_) rt);exact h2 g D' E1 σ1 H1 Hm1 F1 D hx R1 p1 (λE2 σ2 H2 Hm2 F2 p2 R2 s2=>nx _ _ _ _ _ p2 R2 (s1.trans s2)) rt
def sZ{st:Stmt}{rest:QV}{a b:DS}(h1:S1 X Ex st a)(h2:SS X Ex rest b):SS X Ex (st::rest) (qW a b):=by intro g D' E U H Hm F D hx R h nx rt;obtain⟨J,h,hJ⟩:=h;refine lH.of (uD x6 fu) (h1 g { D' with nx:=J } E U H Hm F _ hx R h (λE1 σ1 H1 Hm1 F1 p1 R1 s1=>?_) rt);exact h2 g D' E1 σ1 H1 Hm1 F1 D hx R1 (hJ E1 p1) (λE2 σ2 H2 Hm2 F2 p2 R2 s2=>nx _ _ _ _ _ p2 R2 (s1.trans s2)) rt
def au(h1:S1 X Ex st a):SS X Ex [st] a:=λg D' E U H Hm F D hx R h nx rt=>lH.of (qP x6) (h1 g D' E U H Hm F D hx R h nx rt)
def KP(hc:ST X Ex (aJ X) c t)(ha:SS X Ex a d)(hb:SS X Ex b2 e):S1 X Ex (.If c a b2 pos) (c7 t d e):=by
 rw[Ed];intro g D' E U H Hm F D hx R h nx rt;refine WS.of (Jh g8 fu fu) (hc g D'.xc E U H Hm F _ (λb H1=>if b=true then lH X a D _ H1 else lH X b2 D _ H1) hx R h λE1 b H1 Hm1 F1 p1 R1 s1=>?_);cases b with
 |true=>exact oq (ha g D' E1 U H1 Hm1 F1 D hx R1 (by simpa using p1) (λE2 σ2 H2 Hm2 F2 p2 R2 s2=>nx _ _ _ _ _ p2 R2 (s1.trans s2)) rt)
 |false=>exact oV (hb g D' E1 U H1 Hm1 F1 D hx R1 (by simpa using p1) (λE2 σ2 H2 Hm2 F2 p2 R2 s2=>nx _ _ _ _ _ p2 R2 (s1.trans s2)) rt)
def Jz(h:SE X Ex (aJ X) e d):S1 X Ex (.Return (some e) pos) (cH d):=λg D' E U H Hm F D hx R p nx rt=>WS.of (AY bz) (h g D'.xc E U H Hm F _ _ hx R p λE' k v u H' Hm' F' fp p' R' s' T=>rt _ _ _ _ _ _ _ _ _ p' R' T)
def IF(h:SE X Ex (aJ X) e d)(hs:swapsWith e none pos.line X.env=pure false):S1 X Ex (.Expr e pos) (iV d):=λg D' E U H Hm F D hx R p nx rt=>WS.of (m9 bz hs) (h g D'.xc E U H Hm F _ _ hx R p λE' k v u H' Hm' F' fp p' R' s' T=>nx _ _ _ _ _ p' R' s')
def Rl.move{K:Frag}{g:Gh}{E:En}{U:St}{H Hm:Hp}{F:Nat->QS}(R:Rl K g E U H Hm F){i:Nat}{k:Kd}{d:PyData}(e:E[i]?=some (some (k,d)))(hk:k.pin=false):∃v F',U[i]?=some (some v)/\Rl K g (E.set i none) U H Hm F'/\Tm K g F' H Hm k v d (F i):=by
 obtain⟨v,h1,h2⟩:=R.slot i k d e;have li:=aF e;refine⟨v,λj=>if j=i then []else F j,h1,?_,⟨h2,R.off i,λa ha j=>?_,λa ha=>R.notM e hk ha⟩⟩
 .exact {
   len:=by rw[MY];exact R.len
   sub:=R.sub
   slot:=λj k' d' e'=>by
    by_cases c:j=i
    .subst c;rw[ao li]at e';cases e'
    .rw[ah (Ne.symm c)]at e';obtain⟨u,g1,g2⟩:=R.slot j k' d' e';exact⟨u,g1,by rw[if_neg c];exact g2⟩
   off:=λj a ha=>by
    by_cases c:j=i
    .rw[if_pos c]at ha;cases ha
    .rw[if_neg c]at ha;exact R.off j a ha
   aX:=λj a ha=>by
    by_cases c:j=i
    .rw[if_pos c]at ha;cases ha
    .rw[if_neg c]at ha;exact R.aX j a ha
   aM:=λj l a g1 g2=>by
    by_cases c:j=i
    .rw[if_pos c]at g1;cases g1
    .rw[if_neg c]at g1
     by_cases c':l=i
     .rw[if_pos c']at g2;cases g2
     .rw[if_neg c']at g2;exact R.aM j l a g1 g2
   fr:=R.fr
   new:=λj a ha=>by
    by_cases c:j=i
    .rw[if_pos c]at ha;cases ha
    .rw[if_neg c]at ha;exact R.new j a ha
   pin:=λq hq=>by
    obtain⟨g1,ds',g2⟩:=R.pin q hq;have c:i≠q.1:=λz=>by
     rw[<-z,e]at g2;cases g2;cases hk
    exact⟨g1,ds',by rw[ah c];exact g2⟩
   old:=R.old }
 by_cases c:j=i;{rw[if_pos c];simp};rw[if_neg c];exact λz=>c (R.aM j i a z ha)
def cR{n i:Nat}(h:i<n):(List.range n)[i]?=some i:=NN h
def IE{i:Nat}(h:PE X e (kW i))(hi:i<X.N.length):S1 X Ex (.Return (some e) pos) (kR i):=by
 intro g D' E U H Hm F D hx R p nx rt;replace p:AV E i D'.rt:=p;unfold AV at p;split at p
 rotate_left
 .exact p.elim
 rename_i k d e1;rw[bY]at p;obtain⟨hk,p⟩:=p;have hk:k.pin=false:=by simpa using hk
 obtain⟨v,F',h1,R',T⟩:=R.move e1 hk;exact WS.of (AY h) ⟨v,b6 (cR hi) h1,rt _ _ _ _ _ _ _ _ _ p R' T⟩
def dG{i:Nat}(h:aW E i=true):i<E.length:=by rcases Mv i E.length with z|z;{exact z};unfold aW at h;rw[Mk z]at h;cases h
def JG{i:Nat}{x:Str}{e:Expr}{pos pos':Pos}{d:DE}(hN:X.N.Nodup)(hi:X.N[i]?=some x)(hl:Loc X.env.scope x)(hs:swapsWith e (some (.Name x pos')) pos.line X.env=pure false)(hf:X.fn x=true\/X.env.scope.names.lookup x=some .local)(h:SE X Ex (aJ X) e d):S1 X Ex (.Assign [.Name x pos'] e pos) (bu i d):=by rw[wo];intro g D' E U H Hm F D hx R p nx rt;refine WS.of (HV hN hi hl bz hs hf) (h g D'.xc E U H Hm F _ _ hx R p λE' k v u H' Hm' F' fp p' R' s' T=>?_);show D.nx ((sel (aJ X) U).set i (some u)) H';rw[gO NF (cR (aF hi)) (R'.len▸dG p'.1)];exact nx _ _ _ _ _ p'.2 (R'.put T p'.1) s'
inductive jf(X:Cx)(Y:QW):QU->QW->Prop
 |nil:jf X Y [] []
 |cons {x:Str}{p:Pos}{j i:Nat}{ts:QU}{is:QW}:X.N[j]?=some x->Y[j]?=some i->Loc X.env.scope x->(X.fn x=true\/X.env.scope.names.lookup x=some .local)->jf X Y ts is->jf X Y (.Name x p::ts) (i::is)
inductive eL(X:Cx)(Y:QW):Expr->Tg->Prop
 |nm {x:Str}{p:Pos}{j i:Nat}:X.N[j]?=some x->Y[j]?=some i->Loc X.env.scope x->(X.fn x=true\/X.env.scope.names.lookup x=some .local)->eL X Y (.Name x p) (.nm i)
 |tp {ts:QU}{k:Nat}{p:Pos}{is:QW}:jf X Y ts is->eL X Y (.Tuple ts k p) (.tp is)
def LM(X:Cx)(Y:QW)(tg:Tg)(G:TG):Prop:=∀{g:Gh}{d:PyData}{v:V}{E E2:En}{U:St}{H Hm:Hp}{F:Nat->QS}{Q:St->Hp->Prop},bW tg d E=some E2->Rp X.K Hm v d->Rl X.K g E U H Hm F->(∀σ' F',Rl X.K g E2 σ' H Hm F'->(∀j,j∉tg.slots->σ'[j]?=U[j]?)->Q (sel Y σ') H)->G v (sel Y U) H Q
def Bq(hN:X.N.Nodup)(nd:Y.Nodup)(h:jf X Y ts is):∃G:nO,zD X ts G/\(assignEach ts X.env).length=is.length/\(assignEach ts X.env).findIdx? (·.1)=none /\ ∀{g:Gh}{ds:QM}{vs:List V}{E E2:En}{U:St}{H Hm:Hp}{F:Nat->QS}{Q:St->Hp->Prop},bC is ds E=some E2->ak X.K Hm vs ds->Rl X.K g E U H Hm F->(∀σ' F',Rl X.K g E2 σ' H Hm F'->(∀j,j∉is->σ'[j]?=U[j]?)->Q (sel Y σ') H)->vs.length=is.length/\G vs (sel Y U) H Q:=by
 induction h with
 |nil=>
  refine⟨Ic,Er,rfl,rfl,λ{g ds vs E E2 U H Hm F Q} h r R q=>?_⟩;cases ds with
  |nil=>cases h;cases r;exact⟨rfl,rfl,q _ _ R λ_ _=>rfl⟩
  |cons _ _=>cases h
 |@cons x p j i ts is h1 h2 h3 h4 _ ih=>
  obtain⟨G,g1,g2,g3,g4⟩:=ih;refine⟨Dj (m8 j) G,BI (qF hN h1 h3 h4) g1,?_,?_,λ{g ds vs E E2 U H Hm F Q} h r R q=>?_⟩;{show(assignEach ts X.env).length+1=_;rw[g2];rfl};{show List.findIdx? (·.1) ((false,assign (.Name x p) X.env)::assignEach ts X.env)=none;rw[List.findIdx?_cons,g3];rfl};cases ds with
  |nil=>cases h
  |cons d ds=>
   rw[bC]at h;by_cases o:aW E i=true
   .rw[if_pos o]at h;cases r with
    |cons r1 r2=>
     obtain⟨l,k⟩:=g4 h r2 (R.put (Tm.sh r1) o) λσ' F' R' a=>q σ' F' R' λj' hj=>by have ne:i≠j':=λz=>hj (z▸M7);exact(a j' λz=>hj (MC _ z)).trans (ah ne)
     refine⟨congrArg (·+1) l,_,_,rfl,?_⟩;show G _ ((sel Y U).set j (some _)) H Q;rw[gO nd h2 (R.len▸dG o)];exact k
   rw[if_neg o]at h;cases h
def pT(hc:X.calm=true)(hN:X.N.Nodup)(nd:Y.Nodup)(h:eL X Y e tg):∃G,PG X e G/\LM X Y tg G:=by
 cases h with
 |@nm x p j i h1 h2 h3 h4=>refine⟨m8 j,qF hN h1 h3 h4,λ{g d v E E2 U H Hm F Q} h r R q=>?_⟩;have h:bC [i] [d] E=some E2:=h;rw[bC]at h;by_cases o:aW E i=true;{rw[if_pos o]at h;cases h;show Q ((sel Y U).set j (some v)) H;rw[gO nd h2 (R.len▸dG o)];exact q _ _ (R.put (Tm.sh r) o) λj' hj=>ah (show i≠j' from λz=>hj (z▸M7))};rw[if_neg o]at h;cases h
 |@tp ts k p is h=>
  obtain⟨G,g1,g2,g3,g4⟩:=Bq hN nd h;refine⟨_,Iv hc g1 g2 g3,λ{g d v E E2 U H Hm F Q} h r R q=>?_⟩;cases d with
  |tuple ds=>
   have h:bC is ds E=some E2:=h;cases r with
   |tup a r=>obtain⟨l,k⟩:=g4 h r R q;exact⟨_,_,rfl,bG.of (R.sub _ _ a),l,k⟩
  |_=>cases h
def JT{k:Nat}(hc:X.calm=true)(hN:X.N.Nodup)(ht:jf X (aJ X) ts is)(hs:swapsWithSole [.Tuple ts k p] e pos.line X.env=pure false)(hw:swappedStores [.Tuple ts k p] e X.env=pure none)(h:SE X Ex (aJ X) e d):S1 X Ex (.Assign [.Tuple ts k p] e pos) (qS is d):=by
 intro g D' E U H Hm F D hx R pp nx rt;obtain⟨G,g1,g2⟩:=pT hc hN NF (eL.tp (k:=k) (p:=p) ht);refine WS.of (y9 bz g1 hs hw) (h g D'.xc E U H Hm F _ _ hx R pp λE' k v u H' Hm' F' fp p' R' s' T=>?_);replace p':bK k.fz _:=p';rw[bY]at p';obtain⟨hk,p'⟩:=p';unfold Dw at p';split at p'
 rotate_left
 .exact p'.elim
 rename_i ds;rw[<-aR,Ax]at p';obtain⟨E2,e2,p'⟩:=p';have e2:bW (.tp is) (.tuple ds) E'=some E2:=e2;obtain⟨Hm2,s2,R2,r2⟩:=T.d7 R' hk;exact g2 e2 r2 R2 λσ' F' R3 _=>nx _ _ _ _ _ p' R3 (s'.trans s2)
def Eu(hp:PassesOwn (model X.prog X.w) X.A X.env X.xe)(hc:ST X Ex (aJ X) c t)(hb:SS X Ex b d):S1 X Ex (.While c b [] pos) (tw t d):=by
 intro g D' E U H Hm F D hx R h nx rt;obtain⟨W,⟨m0,w0⟩,step⟩:=h;refine WS.of (Bv hp g8 fu) ⟨λm τ H'=>∃E' σ' Hm' F',W m E'/\Rl X.K g E' σ' H' Hm' F'/\af Hm Hm'/\τ=sel (aJ X) σ',⟨m0,E,U,Hm,F,w0,R,af.refl _,rfl⟩,?_⟩;rintro m τ H1⟨E1,σ1,Hm1,F1,w1,R1,s1,rfl⟩;refine hc g D'.xc E1 σ1 H1 Hm1 F1 _ _ hx R1 (step m E1 w1) λE2 b2 H2 Hm2 F2 p2 R2 s2=>?_;cases b2 with
 |true=>
  refine oq ⟨λτ H'=>∃m',m'<m/\∃E' σ' Hm' F',W m' E'/\Rl X.K g E' σ' H' Hm' F'/\af Hm Hm'/\τ=sel (aJ X) σ',λ_ _ z=>z,?_⟩;exact hb g { D' with nx:=λE'=>∃m',m'<m/\W m' E' } E2 σ1 H2 Hm2 F2 _ hx R2 (by simpa using p2) (λE3 σ3 H3 Hm3 F3 p3 R3 s3=>by
   obtain⟨m',hm,w3⟩:=p3;exact⟨m',hm,E3,σ3,Hm3,F3,w3,R3,s1.trans (s2.trans s3),rfl⟩) rt
 |false=>exact oV (nx _ _ _ _ _ (by simpa using p2) R2 (s1.trans s2))
def vG(K:Frag)(J:It)(xs:QM)(gF:Hp):Prop:=∀(i:Nat)(H Hm:Hp),af gF Hm->af Hm H->
 (∀d,xs[i]?=some d->J.go i H/\∀x H',J.nQ i H x H'->∃Hm',af Hm Hm'/\af Hm' H'/\af H H'/\(∀a,H a≠none->OE (Hm' a) (Hm a))/\Rp K Hm' x d)/\(xs.length<=i->J.stop i H)
def SI(X:Cx)(Ex:XK)(Y:QW)(tg e:Expr)(d:DI):Prop:=∃wi:TI,PI X tg e wi /\
 ∀(g:Gh)(x:XC)(E:En)(U:St)(H Hm:Hp)(F:Nat->QS)(P:En->QM->Prop)(R:It->Hp->Prop),XL X Ex x g->Rl X.K g E U H Hm F->d x E P->
  (∀E' xs J H' Hm' F',P E' xs->Rl X.K g E' U H' Hm' F'->af Hm Hm'->vG X.K J xs Hm'->R J H')->wi (sel Y U) H R
def Rl.turn{F:Nat->QS}(R:Rl K g E U H Hm F)(s1:af Hm Hm')(s2:af Hm' H')(s3:af H H')(old:∀a,H a≠none->OE (Hm' a) (Hm a)):Rl K g E U H' Hm' F:=
 R.grow s3 s1 s2 (λi a ha=>by
  obtain⟨u,hu,nt⟩:=R.aX i a ha;exact(old a (by rw[hu];simp)).off (R.off i a ha) s2 (s3 _ _ hu) nt) λa ha=>old a (R.mY ha)
def JH(hp:PassesOwn (model X.prog X.w) X.A X.env X.xe)(hc:X.calm=true)(hN:X.N.Nodup)(hi:SI X Ex (aJ X) tg it di)(ht:eL X (aJ X) tg t)(hb:SS X Ex b d)(hs:∀x,foldedSetIterable it X.env x=pure x):S1 X Ex (.For tg it b [] pos) (gW di t d):=by
 intro g D' E U H Hm F D hx R h nx rt;obtain⟨wi,hpi,hw⟩:=hi;obtain⟨G,g1,g2⟩:=pT hc hN NF ht;refine WS.of (zP hp hc hpi g1 fu hs) (hw g D'.xc E U H Hm F _ _ hx R h λE1 xs J H1 Hm1 F1 p1 R1 s1 it1=>?_);obtain⟨I,i0,step,fin⟩:=p1;refine⟨λi m τ H'=>m=xs.length-i/\i<=xs.length/\∃E' σ' Hm' F',I i E'/\Rl X.K g E' σ' H' Hm' F'/\af Hm1 Hm'/\τ=sel (aJ X) σ',⟨xs.length,by simp,Mq _,E1,U,Hm1,F1,i0,R1,af.refl _,rfl⟩,?_⟩;rintro i m τ H2⟨rfl,hi,E2,σ2,Hm2,F2,i2,R2,s2,rfl⟩;obtain⟨go,stop⟩:=it1 i H2 Hm2 s2 R2.sub;by_cases c:i<xs.length;{obtain⟨go,nQ⟩:=go xs[i] (MP c);refine .inr ⟨go,λτ H'=>i+1<=xs.length/\∃E' σ' Hm' F',I (i+1) E'/\Rl X.K g E' σ' H' Hm' F'/\af Hm1 Hm'/\τ=sel (aJ X) σ',λτ H' z=>⟨xs.length-(i+1),by lia,rfl,z⟩,λx H3 y=>?_⟩;obtain⟨Hm3,t1,t2,t3,old,r⟩:=nQ x H3 y;have R3:=R2.turn t1 t2 t3 old;obtain⟨E4,e4,p4⟩:=step i xs[i] E2 (MP c) i2;refine g2 e4 r R3 λσ4 F4 R4 _=>?_;exact hb g { D' with nx:=I (i+1) } E4 σ4 H3 Hm3 F4 _ hx R4 p4 (λE5 σ5 H5 Hm5 F5 p5 R5 s5=>⟨c,E5,σ5,Hm5,F5,p5,R5,s2.trans (t1.trans s5),rfl⟩) rt};have e:i=xs.length:=by lia
 subst e;exact .inl ⟨stop (M5 _),nx _ _ _ _ _ (fin E2 i2) R2 (s1.trans s2)⟩
end
end Dv
namespace L2
open PySem PySem.Spec PyProof.Rows
def gK(elt:Expr)(gens:QD)(scope:Scope)(pos:Pos) (k:Nat)(acc:Value)(env:Env)(fin:Sem Fin):Sem Fin:=match gens[k]? with
 |some g'=>do
  let x <-eval g'.iter env
  standAt g'.iter.pos
  let x <-foldedSetIterable g'.iter env x
  let y <-holding [x] (pyIter x)
  let _ <-runOwn (.compStart (.ListComp elt gens scope pos) k y acc env) env
  fin
 |none=>do
  (do let _ <-call (.builtin "list.append") [acc,<-eval elt env])
  fin
def compTurn_gen{k:Nat}(hk:gens[k]?=some ⟨tg,iter,ifs,0⟩)(ha:∀g∈gens,g.is_async=0)(it acc:Value)(env:Env) :
  compTurn (.ListComp elt gens scope pos) k it acc env=(do
   standAt iter.pos
   match <-pyNext it with
   |none=>pure (.done .next)
   |some v=>
    letOwnedTupleGo tg it v
    assign tg env v
    let mut ok:=true
    for c in ifs do
     if ok then ok <-isTrue c env (eval c env)
    if ok then gK elt gens scope pos (k+1) acc env (again (.compLoop (.ListComp elt gens scope pos) k it acc env))
    else again (.compLoop (.ListComp elt gens scope pos) k it acc env)):=by
 unfold compTurn gK;simp only[hk];cases h:gens[k+1]? with
 |none=>rfl
 |some g'=>have e:=ha g' (Ma h);obtain⟨t,i,f,a⟩:=g';dsimp only at e;subst e;rfl
section
variable{prog:Program}{w:World}{A:Around}{R:Result->Shared->Prop}{s:Shared}{elt tg iter:Expr}{gens:QD}{ifs:QU}{scope:Scope}{pos:Pos}{k:Nat}
def pO(hk:gens[k]?=some ⟨tg,iter,ifs,0⟩)(ha:∀g∈gens,g.is_async=0)(I:Nat->Shared->Prop)(turn:∀n s,I n s->wpAny (model prog w) A (pyNext it) (λr s1=>match r with
   |none=>R (.ok .next) s1
   |some v=>wpAny (model prog w) A (letOwnedTupleGo tg it v) (λ_ s0=>wpAny (model prog w) A (assign tg env v) (λ_ s2=>wpAny (model prog w) A (forIn ifs true λc r=>if r=true then do let ok <-isTrue c env (eval c env);pure (ForInStep.yield ok)else pure (ForInStep.yield r)) (λok s3=>
      if ok=true then ∀(fin:Sem Fin)(Qf:Fin->Shared->Prop),(∀s5,(∃m,m<n/\I m s5)->wpAny (model prog w) A fin Qf (iu prog w A env R) s5)->wpAny (model prog w) A (gK elt gens scope pos (k+1) acc env fin) Qf (iu prog w A env R) s3
      else ∃m,m<n/\I m s3) (iu prog w A env R) s2) (iu prog w A env R) s0) (iu prog w A env R) s1) (iu prog w A env R) s)
  (n:Nat)(h:I n s):codeAny (model prog w) A (.compLoop (.ListComp elt gens scope pos) k it acc env) R s:=by
 refine codeAny_loop rfl I (λn s hI=>?_) n h
 refine(wpAny_noted (?_:_):wpAny _ A ((compTurn (.ListComp elt gens scope pos) k it acc env).onRaise (λx=>do noteFrame x env;theTreesLotGoes x)) _ _ s)
 rw[compTurn_gen hk ha];refine M1 (wpAny_standAt (M1 (Me (turn n s hI) (λr s1 h1=>?_) λ_ _ z=>z)))
 cases r with
 |none=>exact M8 h1
 |some v=>
  refine M1 (Me h1 (λ_ s0 h0=>M1 (Me h0 (λ_ s2 h2=>M1 (Me h2 (λok s3 h3=>?_) λ_ _ z=>z)) λ_ _ z=>z)) λ_ _ z=>z)
  cases ok with
  |false=>exact M8 ⟨rfl,h3⟩
  |true=>exact h3 _ _ λs5 h5=>M8 ⟨rfl,h5⟩
end
def kC(N:QY)(fs scope:Scope)(vs NB:QY)(ix:QW):Bool:=
 decide (scope.kind=.function)&&scope.names.all (λy=>decide (y.2≠.cell))&&scope.names.all (λy=>decide (y.2≠.local)||decide (scope.names.lookup y.1=some .local)) &&
 scope.names.all (λy=>decide (y.2≠.free)||(decide (fs.names.lookup y.1=some .cell)||decide (fs.names.lookup y.1=some .free))) &&
 decide (NB=vs++ix.map λi=>N.getD i "")&&decide NB.Nodup&&ix.all λi=>match N[i]? with|some y=>decide (scope.names.lookup y=some .free)|none=>false
structure bQ(X:Cx)(scope:Scope)(vs NB:QY)(ix:QW):Prop where
 kind:scope.kind=.function
 cell:∀y∈scope.names,y.2≠.cell
 names:∀y∈scope.names,y.2=.local->scope.names.lookup y.1=some .local
 free:∀y,(y,NameKind.free)∈scope.names->(X.env.kindOf y=some .cell\/X.env.kindOf y=some .free)
 nb:NB=vs++ix.map λi=>X.N.getD i ""
 nd:NB.Nodup
 cap:∀i∈ix,∃y,X.N[i]?=some y/\scope.names.lookup y=some .free
def bQ.of(h:kC N fs scope vs NB ix=true)(hN:X.N=N:=by rfl)(hf:X.env.scope=fs:=by rfl):bQ X scope vs NB ix:=by
 subst hN hf;unfold kC at h;simp only[MA]at h;obtain⟨⟨⟨⟨⟨⟨h1,h2⟩,h3⟩,h4⟩,h6⟩,h7⟩,h8⟩:=h;refine⟨MU h1,λy hy=>MU (MI.mp h2 y hy),λy hy e=>?_,λy hy=>?_,MU h6,MU h7,λi hi=>?_⟩;{have z:=MI.mp h3 y hy;rw[Nb]at z;rcases z with z|z;{exact absurd e (MU z)};exact MU z};{have z:=MI.mp h4 _ hy;rw[Nb,Nb]at z;rcases z with z|z|z;{exact absurd rfl (MU z)};{exact .inl (MU z)};exact .inr (MU z)};have z:=MI.mp h8 i hi;cases e:X.N[i]? with
 |none=>rw[e]at z;cases z
 |some y=>rw[e]at z;exact⟨y,rfl,MU z⟩
section
variable{X:Cx}{scope:Scope}{vs:QY}{NB:QY}{ix:QW}{pins:QF}{U:St}{H2:Hp}{s2:Shared}{fp:QS}
def bQ.clos(B:bQ X scope vs NB ix)(I2:Inv X pins U H2 s2):closureFor scope X.env=pure (bH X.env.cells scope.names []):=
 jI λn hn=>I2.ok.has n (B.free n hn)
def bQ.look(B:bQ X scope vs NB ix)(I2:Inv X pins U H2 s2){c:Addr}(h:(bH X.env.cells scope.names []).lookup y=some c):X.env.cells.lookup y=some c:=by rcases jP _ _ h with⟨m,e⟩|e;{obtain⟨c',hc⟩:=I2.ok.has y (B.free y m);rw[hc]at e⊢;exact congrArg some e};cases e
def Ai(B:bQ X scope vs NB ix)(I2:Inv X pins U H2 s2){C:Addr}(hC:s2.heap.objs.size<=C)(f2:∀b∈fp,dB X pins H2 b)(ft:∀b∈fp,b<s2.heap.objs.size):(X.block scope C NB s2 H2 fp).Ok where
 mod:=I2.ok.mod
 kind:=B.kind
 glob:=I2.ok.glob
 blt:=I2.ok.blt
 above:=hC
 inj:=λa b c h1 h2=>I2.ok.inj a b c (B.look I2 h1) (B.look I2 h2)
 has:=λy hy=>by
  have key:∀k,(relabel scope X.env).names.lookup y=some k->(k=.cell\/k=.free)->∃c,(bH X.env.cells scope.names []).lookup y=some c:=λk hk kk=>by
   rcases oH (names:=scope.names) hk with e|⟨e,_⟩
   .rcases kk with rfl|rfl
    .exact absurd rfl (B.cell _ (cu e))
    .exact dX _ _ (.inl (cu e))
   .exact dX _ _ (.inl (cu e))
  rcases hy with e|e
  .exact key _ e (.inl rfl)
  .exact key _ e (.inr rfl)
 rD:=λ_ _ z=>by cases z
 hd:=I2.ok.hd
 frames:=I2.ok.frames
 stk:=.inl rfl
 zK:=λb hb=>⟨MO (MN (ft b hb) hC),λy c e=>(f2 b hb).2.2.2.2.1 y c (B.look I2 e)⟩
 bs:=I2.bs
 mw:=MZ I2.ok.mw I2.sz
 lC:=λb o e hb=>by
  rcases(f2 b hb).2.2.2.1 with z|z
  .exact I2.ok.lC b o e z
  .exact absurd (MN (MB (I2.ok.bs b o e).1) z) (Mm _)
 nV:=λb hb z=>by
  rcases MH.mp (I2.gw b z)with e|e
  .exact(f2 b hb).2.1 e
  .exact(f2 b hb).2.2.1 e
 gf:=I2.stack
 p7:=I2.j6
def ya(B:bQ X scope vs NB ix)(I2:Inv X pins U H2 s2){C D:Addr}{tk:Nat}(hC:s2.heap.objs.size<=C)(hD:s2.heap.objs.size<=D)(hDC:D≠C)(f2:∀b∈fp,dB X pins H2 b)(ft:∀b∈fp,b<s2.heap.objs.size)(old:∀b o,s2.heap.get? b=some o->h1.get? b=some o)(hn:h1.Ns C m)(ho:h1.get? D=some oD)(hcl:∀v,oD.data≠.cell v) : Inv (X.block scope C NB s2 H2 fp) [(D,oD)] (List.replicate vs.length none++caps ix U) H2 { s2 with heap:=h1,toks:=tk } where
 ok:=Ai B I2 hC f2 ft
 os:=rfl
 bare:=I2.bare
 base:=Un.kept old
 loc:=by
  refine⟨m,hn,λi y v e1 e2 _=>?_⟩
  have e1:NB[i]?=some y:=e1
  by_cases li:i<vs.length
  .rw[NW (by rw[N5];exact li),Pd,if_pos li]at e2
   cases e2
  .obtain⟨j,rfl⟩:∃j,i=vs.length+j:=⟨i-vs.length,by lia⟩
   have e2:(caps ix U)[j]?=some (some v):=by
    rw[NJ (by rw[N5];lia),N5,OU]at e2
    exact e2
   rw[B.nb]at e1;have e1:(ix.map λi=>X.N.getD i "")[j]?=some y:=by
    rw[NJ (by lia),OU]at e1
    exact e1
   rw[MQ]at e1;unfold caps at e2;rw[MQ]at e2;cases q:ix[j]? with
   |none=>rw[q]at e1;cases e1
   |some i=>
    rw[q]at e1 e2;obtain⟨z,hz,fz⟩:=B.cap i (Ma q);have ey:y=z:=by
     have w:X.N.getD i ""=y:=Option.some.inj e1;rw[<-w,N6,hz];rfl
    subst ey;have e2:(U[i]?).join=some v:=Option.some.inj e2;have es:U[i]?=some (some v):=by
     cases w:U[i]? with
     |none=>rw[w]at e2;cases e2
     |some o=>rw[w]at e2;exact congrArg some e2
    have fk:=B.free y (cu fz);have vis:iA X.env.scope y:=.inr fk;obtain⟨mm,_,hl⟩:=I2.loc;obtain⟨u,ru,lk⟩:=hl i y v hz es vis;refine⟨u,ru,.inr ⟨?_,?_⟩⟩
    .rcases kY (env:=X.env) (names:=scope.names) fz with e|⟨_,e⟩
     .exact .inr e
     .exact .inl e
    .rcases lk with⟨lk,_⟩|⟨_,c,hc,hcell⟩
     .rcases fk with fk|fk
      .rw[lk]at fk;cases fk
      .rw[lk]at fk;cases fk
     .obtain⟨c',hc'⟩:=dX (cells:=X.env.cells) scope.names [] (.inl (cu fz));have e3:=B.look I2 hc';rw[hc]at e3;cases e3;obtain⟨oc,g1,g2⟩:=hcell;exact⟨c,hc',oc,old _ _ g1,g2⟩
 cell:=λy c e=>by
  obtain⟨v,o,g1,g2⟩:=I2.cell y c (B.look I2 e);exact⟨v,o,old _ _ g1,g2⟩
 free:=I2.hok.fresh hC
 cL:=λy c e=>I2.cL y c (B.look I2 e)
 pin:=λp hp=>by
  have e:p=(D,oD):=by simpa[Cx.block]using hp
  subst e;refine⟨ho,I2.hok.fresh hD,hDC,λz=>?_,hcl⟩
  rcases MH.mp (I2.gw D z)with e|e
  .have e:D=X.env.locals:=e;exact absurd (MN I2.lt (e▸hD)) (Mm _)
  .exact I2.Bl hD e
 hok:=I2.hok.kept old
 len:=by
  show(List.replicate vs.length none++caps ix U).length=NB.length;rw[B.nb,MV,MV,tU,M9,N5]
end
abbrev TL:=List V->St->Hp->(List V->St->Hp->Prop)->Prop
def PL(X:Cx)(D:Addr)(elt:Expr)(gens:QD)(scope:Scope)(pos:Pos) (k:Nat)(t:TL):Prop:=
 X.s₀.heap.objs.size<=D->(∀y c,X.env.cells.lookup y=some c->c≠D)->(∀e s',X.xe e s'->False)->
 ∀(pins:QF)(s:Shared)(U:St)(H:Hp)(ys:List V)(its:QO) (nn:Nat)(Q:List V->St->Hp->Prop)(fin:Sem Fin)(Qf:Fin->Shared->Prop)(E:QC),
  (∀p∈X.pn++pins,p.1≠D)->Inv X ((D,c6 its nn)::pins) U H s->Vals ys its->ys.length<=sizeLine->t ys U H Q->
  (∀s' ys' its' nn' σ' H',Inv X ((D,c6 its' nn')::pins) σ' H' s'->Vals ys' its'->ys'.length<=sizeLine->Q ys' σ' H'->wpAny (model X.prog X.w) X.A fin Qf E s')->
  wpAny (model X.prog X.w) X.A (gK elt gens scope pos k (.ref D) X.env fin) Qf E s
def Dr(te:TE):TL:=λys U H Q=>te U H λv H1=>ys.length<sizeLine/\Q (ys++[v]) U H1
def xq(J:It)(g:TG)(tt:TT)(tr:TL)(ys0:List V)(σ0:St)(H1:Hp)(Q:List V->St->Hp->Prop):Prop:=
 ∃W:Nat->Nat->List V->St->Hp->Prop,(∃m,W 0 m ys0 σ0 H1)/\∀i m ys U H,W i m ys U H->
  (J.stop i H/\Q ys U H)\/(J.go i H/\∃N:List V->St->Hp->Prop,(∀ys' σ' H',N ys' σ' H'->∃m',m'<m/\W (i+1) m' ys' σ' H') /\
   ∀x H',J.nQ i H x H'->g x U H' λσ2 H2=>tt σ2 H2 λb H3=>if b=true then tr ys σ2 H3 N else N ys σ2 H3)
section
variable{X:Cx}{D:Addr}{elt tg iter:Expr}{gens:QD}{ifs:QU}{scope:Scope}{pos:Pos}{k:Nat}
def vV(he:PE X elt te)(hk:gens[k]?=none:=by rfl):PL X D elt gens scope pos k (Dr te):=by
 intro hD hc hx pins s U H ys its nn Q fin Qf E hp I rv hz h hf;unfold gK;rw[hk];refine M1 (M1 (Me (he _ s U H _ I h) (λy s8 ⟨yv,H8,I8,r8,hlt,n8⟩=>M1 ?_) λe s' z=>(hx e s' z).elim));have pD:=I8.pin (D,c6 its nn) (Mt _ M7);refine append_at (hsz:=by rw[MK,<-rv.length];exact hz) pD.1 λh9 hs9 hD9=>M8 ?_;have I8n:Inv X pins U H8 s8:=I8.i7 λp hp'=>I8.pin p (Mt _ (MC _ hp'));have I9:=I8n.turned (h':=h9) (t':=s8.toks) (it:=D) (λb o hb e=>hs9.extBut b o hb e) pD.2.1 pD.2.2.1 (.inr hD) hc hp;have e9:c6 (its++[y]) (nn+1)={ cls:=.type "list",data:=.seq (its.toArray.push y) (nn+1) }:=by show({ cls:=.type "list",data:=.seq (its++[y]).toArray (nn+1) }:Obj)=_;rw[List.push_toArray]
 have I10:Inv X ((D,c6 (its++[y]) (nn+1))::pins) U H8 { s8 with heap:=h9 }:=by refine I9.i7 λp hp'=>?_;rcases MH.mp hp' with rfl|hp';{exact⟨hD9.trans (congrArg some e9.symm),pD.2.1,pD.2.2.1,pD.2.2.2.1,λv q=>by cases q⟩};exact I9.pin p (Mt _ hp')
 exact hf _ (ys++[yv]) (its++[y]) (nn+1) U H8 I10 (Vals.append rv (.cons r8 .nil)) (by rw[MV];exact hlt) n8
end
section
variable{X:Cx}{scope:Scope}{vs:QY}{NB:QY}{ix:QW}
def j5(wi:TI) (n:Nat)(ix:QW)(g:TG)(tt:TT)(tr:TL):TE:=λU H Q=>wi U H λJ H1=>xq J g tt tr [] (List.replicate n none++caps ix U) H1 λys _ H'=>∀p,H' p=none->Q (.ref p) (upd H' p (.lst ys))
def qw{elt tg iter:Expr}{ifs:QU}{rest:QD}{pos:Pos}{g:TG}{tt:TT}{tr:TL}{J:It}{it:Addr}{tn:Nat->Heap->Prop}{fp:QS}{pins:QF}{U:St}{H2:Hp}{s2:Shared}{E:QC}{RR:Value->Addr->Result->Shared->Prop}{Qr:VK}(B:bQ X scope vs NB ix)(hc:X.calm=true)(hg:∀(C:Addr)(s:Shared)(H:Hp)(fp:QS),PG (X.block scope C NB s H fp) tg g)(ht:∀(C:Addr)(s:Shared)(H:Hp)(fp:QS),l5 (X.block scope C NB s H fp) ifs tt)(hr:∀(C:Addr)(s:Shared)(H:Hp)(fp:QS)(D:Addr),PL (X.block scope C NB s H fp) D elt (⟨tg,iter,ifs,0⟩::rest) scope pos 1 tr)(ha:∀g∈rest,g.is_async=0)(I2:Inv X pins U H2 s2)(T:Turn X.prog X.w X.K tg J fp it tn)(st2:tn 0 s2.heap)(f2:∀b∈fp,dB X pins H2 b)(h:xq J g tt tr [] (List.replicate vs.length none++caps ix U) H2 λys _ H'=>∀p,H' p=none->Qr (.ref p) (upd H' p (.lst ys)))(hRR:∀(D C:Addr)(Hf:Hp)(s':Shared)(m':QE),Inv X pins U Hf s'->s'.heap.Ns C m'->dB X pins Hf C->Qr (.ref D) Hf->RR (.ref D) C (.ok .next) s') : wpAny (model X.prog X.w) X.A (newList []) (λacc s3=>wpAny (model X.prog X.w) X.A (newFunctionEnv scope X.env.globals (bH X.env.cells scope.names []) [] X.env.qual none .none (some X.env)) (λcenv s4=> codeAny (model X.prog X.w) X.A (.compStart (.ListComp elt (⟨tg,iter,ifs,0⟩::rest) scope pos) 0 (.ref it) acc { cenv with scope:=relabel scope X.env }) (RR acc cenv.locals) s4) E s3) E s2:=by
 obtain⟨W,⟨m0,w0⟩,turn⟩:=h;have ha':∀g∈(⟨tg,iter,ifs,0⟩:Comprehension)::rest,g.is_async=0:=λg hg=>by rcases MH.mp hg with rfl|hg;{rfl};exact ha g hg
 refine Nk (wpAny_newFunctionEnv B.cell (by intro y hy;simp at hy) (λh1 hns hsb=>?_) B.kind);dsimp only at hns hsb⊢;generalize eG:s2.heap.push { cls:=.type "list",dict:=none,data:=.seq ([]:QO).toArray }=G at hns hsb⊢;have hC:G.objs.size=s2.heap.objs.size+1:=by rw[<-eG,OY]
 have hDC:s2.heap.objs.size≠G.objs.size:=by rw[hC];exact MO (P9 _)
 have hCle:s2.heap.objs.size<=G.objs.size:=by rw[hC];exact Nz _
 have old:∀b o,s2.heap.get? b=some o->h1.get? b=some o:=λb o e=>by have lt:=MB e;exact hsb.extBut b o (MO (MN lt hCle)) (ML _ (eG▸ML _ e))
 have hacc:h1.get? s2.heap.objs.size=some (c6 [] 0):=hsb.extBut _ _ hDC (ML _ (eG▸Mn _ rfl));have ft:∀b∈fp,b<s2.heap.objs.size:=λb hb=>by obtain⟨o,e,_⟩:=T.obj _ _ st2 b hb;exact MB e
 have cD:∀y c,(X.block scope G.objs.size NB s2 H2 fp).env.cells.lookup y=some c->c≠s2.heap.objs.size:=λy c e z=>by obtain⟨w,q⟩:=I2.cell y c (B.look I2 e);exact Mm _ (z▸q.lt)
 have loop:∀s3:Shared,s3={ s2 with heap:=h1,toks:=s2.toks+([]:List (Str×Value)).length }->
   codeAny (model X.prog X.w) X.A (.compLoop (.ListComp elt (⟨tg,iter,ifs,0⟩::rest) scope pos) 0 (.ref it) (.ref s2.heap.objs.size) (compEnvC scope (bH X.env.cells scope.names []) G.objs.size X.env))
    (RR (.ref s2.heap.objs.size) G.objs.size) s3:=by
  rintro s3 rfl;have I3:=ya (tk:=s2.toks+([]:List (Str×Value)).length) B I2 hCle (M5 _) hDC f2 ft old hns hacc (λv q=>by cases q)
  have st3:tn 0 h1:=T.keep _ _ _ st2 λb _ o e=>old b o e
  have fy:∀{H':Hp}{oD:Obj},(∀b∈fp,H' b=none)->∀b∈fp,dB (X.block scope G.objs.size NB s2 H2 fp) [(s2.heap.objs.size,oD)] H' b:=λ{H' oD} hn b hb=>by
   refine⟨hn b hb,MO (MN (ft b hb) hCle),λz=>?_,.inl hb,λy c e=>(f2 b hb).2.2.2.2.1 y c (B.look I2 e),λp hp=>?_⟩;{rcases MH.mp (I2.gw b z)with e|e;{exact(f2 b hb).2.1 e};exact(f2 b hb).2.2.1 e};have e:p=(s2.heap.objs.size,oD):=by simpa[Cx.block]using hp
   subst e;exact Ne.symm (MO (ft b hb))
  refine pO (k:=0) rfl ha' (λn s'=>∃i ys its nn σ' H',W i n ys σ' H'/\Inv (X.block scope G.objs.size NB s2 H2 fp) [(s2.heap.objs.size,c6 its nn)] σ' H' s'/\tn i s'.heap/\(∀b∈fp,H' b=none)/\Vals ys its/\ys.length<=sizeLine)
   ?_ m0 ⟨0,[],[],0,_,H2,w0,I3,st3,λb hb=>(f2 b hb).1,.nil,Mq _⟩
  rintro n s'⟨i,ys,its,nn,σ',H',w',I',st',fr',rv,hz⟩;rcases turn i n ys σ' H' w' with⟨stop,q⟩|⟨go,Nx,hNx,step⟩
  .refine Me (T.done (X.block scope G.objs.size NB s2 H2 fp) rfl rfl rfl hc i _ s' _ H' (λ_ _=>False) I' (fy fr') st' stop) (λr s4 ⟨hr',I4⟩=>?_) λ_ _ z=>z.elim
   subst hr';have I5:=Aj I2 f2 (M5 _) I4 rv hz;obtain⟨m4,hn4,_⟩:=I4.loc;have hfree:H' s2.heap.objs.size=none:=(I4.pin (s2.heap.objs.size,c6 its nn) (by show _∈[]++[(s2.heap.objs.size,c6 its nn)];simp)).2.1
   have fC:dB X pins (upd H' s2.heap.objs.size (.lst ys)) G.objs.size:=I2.oO hCle (by
    rw[ai (Ne.symm hDC)];exact I4.free)
   exact hRR _ _ _ s4 m4 I5 hn4 fC (q _ hfree)
  .refine Me (T.item (X.block scope G.objs.size NB s2 H2 fp) rfl rfl rfl hc i _ s' _ H' (λ_ _=>False) I' (fy fr') st' go) (λr s4 ⟨u,hr',h4⟩=>?_) λ_ _ z=>z.elim
   subst hr';refine Me h4 (λ_ s4 ⟨v,H5,I5,r5,y5,st5,fr5⟩=>?_) λ_ _ z=>z.elim
   have pIt:∀b∈fp,∃o,s4.heap.get? b=some o/\∀v,o.data≠.cell v:=T.obj _ _ st5;have I5':=I5.pinned (fy fr5) pIt;refine Me (hg _ _ _ _ _ s4 σ' H5 v u _ I5' r5 (step v H5 y5)) (λ_ s6 ⟨σ6,H6,I6,q6⟩=>?_) λ_ _ z=>z.elim
   refine Me (ht _ _ _ _ _ s6 σ6 H6 _ I6 q6) (λb s7 ⟨H7,I7,q7⟩=>?_) λ_ _ z=>z.elim
   have stays:∀{s9:Shared}{H9:Hp}{σ9:St}{oD:Obj},Inv (X.block scope G.objs.size NB s2 H2 fp) ((s2.heap.objs.size,oD)::fO fp s4.heap) σ9 H9 s9->tn (i+1) s9.heap/\(∀b∈fp,H9 b=none)/\Inv (X.block scope G.objs.size NB s2 H2 fp) [(s2.heap.objs.size,oD)] σ9 H9 s9:=λ{s9 H9 σ9 oD} I9=>by
    refine⟨T.keep _ _ _ st5 λb hb o e=>(I9.pin (b,o) (Mt _ (MC _ (fc hb e)))).1,λb hb=>?_,I9.i7 λp hp'=>I9.pin p (Mt _ ?_)⟩
    .obtain⟨o,e,d⟩:=pIt b hb;exact(I9.pin (b,o) (Mt _ (MC _ (fc hb e)))).2.1
    .rw[MR.mp hp'];exact M7
   cases b with
   |false=>
    rw[if_neg MJ]at q7⊢;obtain⟨m',hm,w7⟩:=hNx _ _ _ q7;obtain⟨g1,g2,g3⟩:=stays I7;exact⟨m',hm,i+1,ys,its,nn,σ6,H7,w7,g3,g1,g2,rv,hz⟩
   |true=>
    rw[if_pos rfl]at q7⊢;intro fin' Qf' hf';refine hr _ _ _ _ s2.heap.objs.size (M5 _) cD (λ_ _ z=>z) (fO fp s4.heap) s7 σ6 H7 ys its nn Nx fin' Qf' _ (λp hp'=>?_) I7 rv hz q7 λs8 ys8 its8 nn8 σ8 H8 I8 rv8 hz8 n8=>?_
    .have hp'':p∈fO fp s4.heap:=hp';exact MO (ft _ (mH hp'').1)
    .obtain⟨m',hm,w8⟩:=hNx _ _ _ n8;obtain⟨g1,g2,g3⟩:=stays I8;exact hf' s8 ⟨m',hm,i+1,ys8,its8,nn8,σ8,H8,w8,g3,g1,g2,rv8,hz8⟩
 exact codeAny_compStart_list (loop _ rfl) (T.self _ 0 _ _ _ (T.keep _ _ _ st2 λb _ o e=>old b o e) (loop _ rfl))
def tK{elt tg iter:Expr}{ifs:QU}{rest:QD}{pos:Pos}{wi:TI}{g:TG}{tt:TT}{tr:TL}(B:bQ X scope vs NB ix)(hc:X.calm=true)(hi:PI X tg iter wi)(hg:∀(C:Addr)(s:Shared)(H:Hp)(fp:QS),PG (X.block scope C NB s H fp) tg g)(ht:∀(C:Addr)(s:Shared)(H:Hp)(fp:QS),l5 (X.block scope C NB s H fp) ifs tt)(hr:∀(C:Addr)(s:Shared)(H:Hp)(fp:QS)(D:Addr),PL (X.block scope C NB s H fp) D elt (⟨tg,iter,ifs,0⟩::rest) scope pos 1 tr)(ha:∀g∈rest,g.is_async=0:=by decide)(hs:∀v,foldedSetIterable iter X.env v=pure v:=by intro _;rfl):PE X (.ListComp elt (⟨tg,iter,ifs,0⟩::rest) scope pos) (j5 wi vs.length ix g tt tr):=by intro pins s U H Q I h;rw[eval_ListComp];refine Pz (use:=none) rfl hs (B.clos I) B.kind B.names (aG (hi pins s U H _ I h) λv s1 h1=>aG h1 λitv s2 h2=>?_);obtain⟨it,fp,tn,J,H2,e,I2,T,st2,f2,w⟩:=h2;subst e;refine qw (Qr:=Q) (RR:=λacc C=>compPost (model X.prog X.w) X.A X.xe none (EP X pins U Q) acc C) B hc hg ht hr ha I2 T st2 f2 w λD C Hf s' m' I' hn' fC q=>?_;refine⟨m',hn',λh'' hs''=>⟨.ref D,Hf,?_,rfl,q⟩⟩;obtain⟨c0,c1,c2,c3,c4,c5⟩:=fC;exact I'.turned (it:=C) (t':=s'.toks) (λb o hb e=>hs''.extBut b o hb e) c0 c1 c3 c4 c5
def Bf{elt tg iter:Expr}{ifs:QU}{rest:QD}{pos py spos:Pos}{wi:TI}{g:TG}{tt:TT}{tr:TL}{j:Nat}{y:Str}(hN:X.N.Nodup)(hj:X.N[j]?=some y)(hy:X.env.scope.names.lookup y=some .local)(B:bQ X scope vs NB ix)(hc:X.calm=true)(hi:PI X tg iter wi)(hg:∀(C:Addr)(s:Shared)(H:Hp)(fp:QS),PG (X.block scope C NB s H fp) tg g)(ht:∀(C:Addr)(s:Shared)(H:Hp)(fp:QS),l5 (X.block scope C NB s H fp) ifs tt)(hr:∀(C:Addr)(s:Shared)(H:Hp)(fp:QS)(D:Addr),PL (X.block scope C NB s H fp) D elt (⟨tg,iter,ifs,0⟩::rest) scope pos 1 tr)(hsw:swapsWith (.ListComp elt (⟨tg,iter,ifs,0⟩::rest) scope pos) (some (.Name y py)) spos.line X.env=pure true)(ha:∀g∈rest,g.is_async=0:=by decide)(hs:∀v,foldedSetIterable iter X.env v=pure v:=by intro _;rfl):PS X (.Assign [.Name y py] (.ListComp elt (⟨tg,iter,ifs,0⟩::rest) scope pos) spos) (BC (j5 wi vs.length ix g tt tr) (m8 j)):=by
 intro pins s U H Dn I h;rw[exec_Assign_Name_used _ _ _ _ hsw];refine M1 (wpAny_standAt (M1 ?_));show wpAny (model X.prog X.w) X.A (comprehension (.ListComp elt (⟨tg,iter,ifs,0⟩::rest) scope pos) scope X.env _ (newList []) false (eval iter X.env) (some (assign (.Name y py) X.env))>>=λ_=>pure ()) _ _ s;refine M1 (aG (Pz (use:=some (assign (.Name y py) X.env)) (Q:=λ_ s'=>SP X pins Dn .next s') rfl hs (B.clos I) B.kind B.names (aG (hi pins s U H _ I h) λv s1 h1=>aG h1 λitv s2 h2=>?_)) λ_ s' q=>M8 (M8 q));obtain⟨it,fp,tn,J,H2,e,I2,T,st2,f2,w⟩:=h2;subst e;refine qw (Qr:=λx H1=>m8 j x U H1 Dn.nx) (RR:=λacc C=>compPost (model X.prog X.w) X.A X.xe (some (assign (.Name y py) X.env)) (λ_ s'=>SP X pins Dn .next s') acc C) B hc hg ht hr ha I2 T st2 f2 w λD C Hf s' m' I' hn' fC q=>?_;obtain⟨c0,c1,c2,c3,c4,c5⟩:=fC;show wpAny (model X.prog X.w) X.A (assign (.Name y py) X.env (.ref D)) _ _ s';refine wpAny_assign_Name (rJ I' hN hj (.inl hy) (v:=.ref D) rfl (λs'' I'' ⟨a,sb,ha⟩=>?_) (.inr hy));have hCa:C≠a:=by rcases ha with e|e;{rw[e];exact c1};exact λz=>c4 y a e z.symm
 refine⟨m',hn'.sameBut sb hCa,λh3 hs3=>⟨_,Hf,?_,q⟩⟩;exact I''.turned (it:=C) (t':=s''.toks) (λb o hb e=>hs3.extBut b o hb e) c0 c1 c3 c4 c5
end
end L2
namespace Dv
open PySem L2 PySem.W
section
variable{X:Cx}{Ex:XK}{Y:QW}{tg:Expr}
def BE{a:Addr}(h:bX K gF a xs)(r:ak K gF xs ds):vG K (zo K a) ds gF:=by intro i H Hm s1 s2;have q:bD K H a xs:=(bX.mono (s1.trans s2) h).sq;refine⟨λd e=>?_,λl=>⟨xs,q,by rw[r.len];exact l⟩⟩;obtain⟨v,e1,r1⟩:=r.get e;refine⟨⟨xs,v,q,e1⟩,λx H' y=>?_⟩;obtain⟨rfl,y⟩:=y;have:=y xs q;rw[e1]at this;cases this;exact⟨Hm,af.refl _,s2,af.refl _,λ_ _=>.inl rfl,r1.mono s1⟩
def EL{a:Addr}(h:gF a=some (.tup xs))(r:ak K gF xs ds):vG K (CO K a) ds gF:=by intro i H Hm s1 s2;have q:bG K H a xs:=bG.of (s2 _ _ (s1 _ _ h));refine⟨λd e=>?_,λl=>⟨xs,q,by rw[r.len];exact l⟩⟩;obtain⟨v,e1,r1⟩:=r.get e;refine⟨⟨xs,v,q,e1⟩,λx H' y=>?_⟩;obtain⟨rfl,y⟩:=y;have:=y xs q;rw[e1]at this;cases this;exact⟨Hm,af.refl _,s2,af.refl _,λ_ _=>.inl rfl,r1.mono s1⟩
def Ft{lo:Int}{n i:Nat}(h:(iS lo n)[i]?=some d):i<n/\d=.int (lo+i):=by unfold iS at h;rw[MQ]at h;by_cases c:i<n;{rw[NN c]at h;cases h;exact⟨c,rfl⟩};rw[Mk (by rw[MT];lia)]at h;cases h
def vN{lo:Int}{n:Nat}:vG K (Aw lo n) (iS lo n) gF:=by intro i H Hm s1 s2;refine⟨λd e=>?_,λl=>?_⟩;{obtain⟨l,rfl⟩:=Ft e;refine⟨l,λx H' y=>?_⟩;obtain⟨rfl,rfl⟩:=y;exact⟨Hm,af.refl _,s2,af.refl _,λ_ _=>.inl rfl,.int _⟩};unfold iS at l;rw[M9,MT]at l;exact l
def Bd{T:Addr}(s:af Hm H)(hT:H T=none)(r1:Rp K Hm x a)(r2:Rp K Hm y b):∃Hm',af Hm Hm'/\af Hm' (upd H T (.tup [x,y]))/\af H (upd H T (.tup [x,y]))/\(∀a,H a≠none->OE (Hm' a) (Hm a))/\Rp K Hm' (.ref T) (.tuple [a,b]):=by have n:=ie s hT;have s2:=bI (o:=.tup [x,y]) n;refine⟨upd Hm T (.tup [x,y]),s2,λb o e=>?_,bI hT,λa ha=>.inl (ai λz=>ha (z▸hT)),.tup aB (.cons (r1.mono s2) (.cons (r2.mono s2) .nil))⟩;by_cases c:b=T;{rw[c,aB]at e⊢;exact e};rw[ai c]at e⊢;exact s _ _ e
def yU{i:Nat}(h:(g9 ds)[i]?=some d):∃e,ds[i]?=some e/\d=.tuple [.int i,e]:=by
 unfold g9 at h;rw[MQ,List.getElem?_zipIdx]at h;cases e:ds[i]? with
 |none=>rw[e]at h;cases h
 |some a=>rw[e]at h;simp at h;exact⟨a,rfl,h.symm⟩
def zL(ds:QM):(g9 ds).length=ds.length:=by unfold g9;rw[M9,List.length_zipIdx]
def BV{a:Addr}(h:bX K gF a xs)(r:ak K gF xs ds):vG K (F9 K a) (g9 ds) gF:=by intro i H Hm s1 s2;have q:bD K H a xs:=(bX.mono (s1.trans s2) h).sq;refine⟨λd e=>?_,λl=>⟨xs,q,by rw[r.len,<-zL];exact l⟩⟩;obtain⟨d0,e0,rfl⟩:=yU e;obtain⟨v,e1,r1⟩:=r.get e0;refine⟨⟨xs,v,q,e1⟩,λx H' y=>?_⟩;obtain⟨T,hT,rfl,y⟩:=y;obtain⟨x',e2,rfl⟩:=y xs q;rw[e1]at e2;cases e2;exact Bd s2 hT (.int _) (r1.mono s1)
open PyProof.Rows in
def FH{a:Addr}(I:Inv X pins U H s)(hq:bD X.K H a xs)(q:R (zo X.K a) H):wpAny (model X.prog X.w) X.A (pyIter (.ref a)) (CS X pins U tg R) E s:=by
 obtain⟨its,rv,p,hz⟩:=I.list hq;refine PX p.isList ?_;refine⟨s.heap.objs.size,[s.heap.objs.size],_,_,H,rfl,I.kept (t':=s.toks) λb o e=>ML _ e,rP a _,⟨_,Mn _ rfl,rfl,rfl⟩,λb hb=>?_,q⟩;have e:b=s.heap.objs.size:=by simpa using hb
 subst e;exact I.oO (M5 _) (I.hok.fresh (M5 _))
open PyProof.Rows in
def IM{a:Addr}(I:Inv X pins U H s)(hq:bG X.K H a xs)(q:R (CO X.K a) H):wpAny (model X.prog X.w) X.A (pyIter (.ref a)) (CS X pins U tg R) E s:=by
 obtain⟨its,rv,p,hz⟩:=I.tuple hq;refine wpAny_pyIter_tuple (show s.heap.IsTuple a its.toArray from p) ?_;refine⟨s.heap.objs.size,[s.heap.objs.size],_,_,H,rfl,I.kept (t':=s.toks) λb o e=>ML _ e,xA a _,⟨_,Mn _ rfl,rfl,rfl⟩,λb hb=>?_,q⟩;have e:b=s.heap.objs.size:=by simpa using hb
 subst e;exact I.oO (M5 _) (I.hok.fresh (M5 _))
def iB(h:SE X Ex Y e d):SI X Ex Y tg e (iE d):=by
 rw[J1];refine⟨λU H R=>WE X e U H λx H1=>(∃a,x=.ref a/\(∃xs,bD X.K H1 a xs)/\R (zo X.K a) H1)\/∃a,x=.ref a/\(∃xs,bG X.K H1 a xs)/\R (CO X.K a) H1,?_,?_⟩;{intro pins s U H R I h;refine aG (h pins s I) λv s1 ⟨x,H1,I1,r1,q1⟩=>?_;rcases q1 with⟨a,rfl,⟨xs,hq⟩,q⟩|⟨a,rfl,⟨xs,hq⟩,q⟩;{cases r1;exact FH I1 hq q};cases r1;exact IM I1 hq q};intro g x E U H Hm F P R hx Rl p q;refine h g x E U H Hm F _ _ hx Rl p λE' k v u H' Hm' F' fp p' R' s' T=>?_;obtain⟨hk,ds,e1,p'⟩:=p';obtain⟨Hm2,s2,R2,r2⟩:=T.d7 R' hk;cases r2 with
 |lst a r=>cases e1;exact .inl ⟨_,rfl,⟨_,(bX.mono R2.sub a).sq⟩,q _ _ _ _ _ _ p' R2 (s'.trans s2) (BE a r)⟩
 |tup a r=>cases e1;exact .inr ⟨_,rfl,⟨_,bG.of (R2.sub _ _ a)⟩,q _ _ _ _ _ _ p' R2 (s'.trans s2) (EL a r)⟩
 |_=>cases e1
def nU:QM->Option (QM)
 |[.int j]=>@ite _ (-(2^62)<=j/\j<2^62) (Classical.propDecidable _) (some (iS 0 j.toNat)) none
 |_=>none
def yT:QM->Option (QM)
 |[.int i,.int j]=>@ite _ (-(2^62)<=i/\i<2^62/\-(2^62)<=j/\j<2^62) (Classical.propDecidable _) (some (iS i (j-i).toNat)) none
 |_=>none
def tD{g:Gh}{U:St}{E:En}{H Hm:Hp}{F:Nat->QS}{as:List Arg}{os:Qa}{vs:List V}{ds:QM}{K:Frag}(R:Rl K g E U H Hm F)(G:Got K U Hm as os vs)(h:fill as E os=some ds):ak K H vs ds:=mR R R.sub G h λ_ _ _ _=>rfl
def Jj(hg:Gl X "range")(hm:X.mg "range"=none)(ns:noStar a=true)(S:aH X Ex Y [a] as):SI X Ex Y tg (.Call (.Name "range" p) [a] [] pos) (lJ nU as):=by refine⟨_,zZ hg hm (cX (es:=[a]) (by rw[MG,ns];rfl)) (aS ns),λg x E U H Hm F P R hx Rl p q=>?_⟩;refine jh hx S Rl p λE1 os vs H1 Hm1 F1 p1 R1 s1 G=>?_;replace p1:aq (bS as E1 os) _:=p1;rw[<-aR,dS]at p1;obtain⟨ds,hf,p1⟩:=p1;rw[<-aR]at p1;obtain⟨xs,hg',p1⟩:=p1;have r:=tD R1 G hf;unfold nU at hg';split at hg';{rename_i j;obtain⟨v,rfl,r1⟩:=cI r;cases r1;split at hg';{rename_i c;cases hg';exact⟨j,rfl,c.1,c.2,q _ _ _ _ _ _ p1 R1 s1 vN⟩};cases hg'};cases hg'
def Jc(hg:Gl X "range")(hm:X.mg "range"=none)(ns:noStar a=true)(ns2:noStar b=true)(S:aH X Ex Y [a,b] as):SI X Ex Y tg (.Call (.Name "range" p) [a,b] [] pos) (lJ yT as):=by refine⟨_,AD hg hm (cX (es:=[a,b]) (by rw[MG,MG,ns,ns2];rfl)) ((aS ns).trans (by rw[aS ns2];rfl)) (aS ns2),λg x E U H Hm F P R hx Rl p q=>?_⟩;refine jh hx S Rl p λE1 os vs H1 Hm1 F1 p1 R1 s1 G=>?_;replace p1:aq (bS as E1 os) _:=p1;rw[<-aR,dS]at p1;obtain⟨ds,hf,p1⟩:=p1;rw[<-aR]at p1;obtain⟨xs,hg',p1⟩:=p1;have r:=tD R1 G hf;unfold yT at hg';split at hg';{rename_i i j;obtain⟨v,w,rfl,r1,r2⟩:=fB r;cases r1;cases r2;split at hg';{rename_i c;cases hg';exact⟨i,j,rfl,c,q _ _ _ _ _ _ p1 R1 s1 vN⟩};cases hg'};cases hg'
def J9{x1:Nat}(hg:Gl X "enumerate")(hm:X.mg "enumerate"=none)(ns:noStar e=true)(h:SE X Ex Y e d):SI X Ex Y (.Tuple elts x1 tp) (.Call (.Name "enumerate" p) [e] [] pos) (w4 d):=by rw[Gq];refine⟨_,Fe hg hm (cX (es:=[e]) (by rw[MG,ns];rfl)) (aS ns),λg x E U H Hm F P R hx Rl p q=>?_⟩;refine h g x E U H Hm F _ _ hx Rl p λE' k v u H' Hm' F' fp p' R' s' T=>?_;obtain⟨hk,ds,rfl,p'⟩:=p';obtain⟨Hm2,s2,R2,r2⟩:=T.d7 R' hk;obtain⟨a,xs,rfl,ha,r⟩:=kF r2;exact⟨a,rfl,⟨xs,(bX.mono R2.sub ha).sq⟩,q _ _ _ _ _ _ p' R2 (s'.trans s2) (BV ha r)⟩
end
def WG(X:Cx)(tg:Expr):TG:=λv U H Q=>∀(pins:QF)(s:Shared)(u:Value),Inv X pins U H s->RelV v u->wpAny (model X.prog X.w) X.A (assign tg X.env u) (λ_ s'=>∃σ' H',Inv X pins σ' H' s'/\Q σ' H') X.xe s
def WG.of(h:PG X tg t)(q:t v U H Q):WG X tg v U H Q:=λpins s u I r=>h pins s U H v u Q I r q
def rG(X:Cx)(ifs:QU):TT:=λU H Q=>∀(pins:QF)(s:Shared),Inv X pins U H s->wpAny (model X.prog X.w) X.A (forIn ifs true λc r=>if r=true then do let ok <-isTrue c X.env (eval c X.env);pure (ForInStep.yield ok)else pure (ForInStep.yield r)) (TP X pins U Q) X.xe s
def rG.of(h:l5 X ifs t)(q:t U H Q):rG X ifs U H Q:=λpins s I=>h pins s U H Q I q
def WL(X:Cx)(D:Addr)(elt:Expr)(gens:QD)(scope:Scope)(pos:Pos) (k:Nat):TL:=λys U H Q=>
 X.s₀.heap.objs.size<=D->(∀y c,X.env.cells.lookup y=some c->c≠D)->(∀e s',X.xe e s'->False)->
 ∀(pins:QF)(s:Shared)(its:QO) (nn:Nat)(fin:Sem Fin)(Qf:Fin->Shared->Prop)(E:QC),
  (∀p∈X.pn++pins,p.1≠D)->Inv X ((D,c6 its nn)::pins) U H s->Vals ys its->ys.length<=sizeLine->
  (∀s' ys' its' nn' σ' H',Inv X ((D,c6 its' nn')::pins) σ' H' s'->Vals ys' its'->ys'.length<=sizeLine->Q ys' σ' H'->wpAny (model X.prog X.w) X.A fin Qf E s')->
  wpAny (model X.prog X.w) X.A (gK elt gens scope pos k (.ref D) X.env fin) Qf E s
def WL.of{D:Addr}{k:Nat}(h:PL X D elt gens scope pos k t)(q:t ys U H Q):WL X D elt gens scope pos k ys U H Q:=λh1 h2 h3 pins s its nn fin Qf E hp I rv hz hf=>h h1 h2 h3 pins s U H ys its nn Q fin Qf E hp I rv hz q hf
def Agree(cs:QW)(U σ':St):Prop:=U.length=σ'.length/\∀j,j∉cs->σ'[j]?=U[j]?
def Agree.refl(cs:QW)(U:St):Agree cs U U:=⟨rfl,λ_ _=>rfl⟩
theorem Agree.trans(h:Agree cs a b)(k:Agree cs b c):Agree cs a c:=⟨h.1.trans k.1,λj hj=>(k.2 j hj).trans (h.2 j hj)⟩
theorem Agree.symm(h:Agree cs a b):Agree cs b a:=⟨h.1.symm,λj hj=>(h.2 j hj).symm⟩
section
variable{K:Frag}{g:Gh}{E E0:En}{U σ':St}{H Hm:Hp}{F:Nat->QS}
def Rl.CV(R:Rl K g E U H Hm F){i:Nat}(o:aW E i=true)(v:Option V):Rl K g (E.set i none) (U.set i v) H Hm (λj=>if j=i then []else F j) where
 len:=by rw[MY,MY];exact R.len
 sub:=R.sub
 slot:=λj k' d' e'=>by
  by_cases c:j=i
  .subst c;rw[ao (dG o)]at e';cases e'
  .rw[ah (Ne.symm c)]at e';obtain⟨u,g1,g2⟩:=R.slot j k' d' e';exact⟨u,by rw[ah (Ne.symm c)];exact g1,by rw[if_neg c];exact g2⟩
 off:=λj a ha=>by
  by_cases c:j=i
  .rw[if_pos c]at ha;cases ha
  .rw[if_neg c]at ha;exact R.off j a ha
 aX:=λj a ha=>by
  by_cases c:j=i
  .rw[if_pos c]at ha;cases ha
  .rw[if_neg c]at ha;exact R.aX j a ha
 aM:=λj l a g1 g2=>by
  by_cases c:j=i
  .rw[if_pos c]at g1;cases g1
  .rw[if_neg c]at g1
   by_cases c':l=i
   .rw[if_pos c']at g2;cases g2
   .rw[if_neg c']at g2;exact R.aM j l a g1 g2
 fr:=R.fr
 new:=λj a ha=>by
  by_cases c:j=i
  .rw[if_pos c]at ha;cases ha
  .rw[if_neg c]at ha;exact R.new j a ha
 pin:=λq hq=>by
  obtain⟨g1,ds',g2⟩:=R.pin q hq;have c:i≠q.1:=λz=>by
   unfold aW at o;rw[z,g2]at o;cases o
  exact⟨by rw[ah c];exact g1,ds',by rw[ah c];exact g2⟩
 old:=R.old
theorem Rl.aV:∀{cs:QW}{E E0:En}{U:St}{F:Nat->QS},Rl K g E U H Hm F->Dv.aV cs E=some E0->∃σ' F',Rl K g E0 σ' H Hm F'/\Agree cs U σ'/\(∀c∈cs,σ'[c]?=some none/\E0[c]?=some none)
 |[],E,E0,U,F,R,h=>by cases h;exact⟨U,F,R,Agree.refl _ _,λ_ z=>by cases z⟩
 |c::cs,E,E0,U,F,R,h=>by
  rw[Dv.aV]at h;by_cases o:aW E c=true
  .rw[if_pos o]at h;have R1:=R.CV o none;obtain⟨σ',F',R',a,n⟩:=Rl.aV (cs:=cs) R1 h;have lc:=dG o;have keep:∀{l:QW}{E E0:En},Dv.aV l E=some E0->∀j,j∉l->E0[j]?=E[j]?:=by
    intro l;induction l with
    |nil=>intro E E0 h j _;cases h;rfl
    |cons i l ih=>intro E E0 h j hj;rw[Dv.aV]at h;by_cases o:aW E i=true;{rw[if_pos o]at h;have ne:i≠j:=λz=>hj (z▸M7);exact(ih h j λz=>hj (MC _ z)).trans (ah ne)};rw[if_neg o]at h;cases h
   refine⟨σ',F',R',⟨by rw[<-a.1,MY],λj hj=>?_⟩,λd hd=>?_⟩;{have ne:c≠j:=λz=>hj (z▸M7);exact(a.2 j λz=>hj (MC _ z)).trans (ah ne)};by_cases m:d∈cs;{exact n d m};have e:d=c:=(MH.mp hd).resolve_right m;subst e;exact⟨(a.2 d m).trans (ao (R.len▸lc)),(keep h d m).trans (ao lc)⟩
  rw[if_neg o]at h;cases h
def Rl.agree(R:Rl K g E U H Hm F)(a:Agree cs U σ')(n:∀c∈cs,E[c]?=some none):Rl K g E σ' H Hm F where
 len:=R.len.trans a.1
 sub:=R.sub
 slot:=λj k d e=>by
  obtain⟨v,h1,h2⟩:=R.slot j k d e;refine⟨v,?_,h2⟩;rw[a.2 j λz=>by rw[n j z]at e;cases e]
  exact h1
 off:=R.off
 aX:=R.aX
 aM:=R.aM
 fr:=R.fr
 new:=R.new
 pin:=λq hq=>by
  obtain⟨g1,ds',g2⟩:=R.pin q hq;refine⟨?_,ds',g2⟩;rw[a.2 q.1 λz=>by rw[n q.1 z]at g2;cases g2]
  exact g1
 old:=R.old
end
inductive gM(X:Cx)(Ex:XK)(Y:QW):QU->DT->Prop
 |nil:gM X Ex Y [] gR
 |one {e:Expr}{t:DT}:ST X Ex Y e t->gM X Ex Y [e] t
def gM.ok(h:gM X Ex Y ifs t){F:Nat->QS}(hx:XL X Ex x g)(R:Rl X.K g E U H Hm F)(p:t x E P)(q:∀E' b H' Hm' F',P E' b->Rl X.K g E' U H' Hm' F'->af Hm Hm'->Q b H'):rG X ifs (sel Y U) H Q:=by
 cases h with
 |nil=>exact rG.of EX (q _ _ _ _ _ p R (af.refl _))
 |one h=>exact rG.of (FG g8) (h g x E U H Hm F P Q hx R p q)
def SL(X:Cx)(Y cs:QW)(D:Addr)(elt:Expr)(gens:QD)(scope:Scope)(pos:Pos) (k:Nat)(dc:DC):Prop:=
 ∀(g:Gh)(E:En)(U:St)(H Hm:Hp)(F:Nat->QS)(ys:List V)(dys:QM)(P:QM->En->Prop)(Q:List V->St->Hp->Prop),Rl X.K g E U H Hm F->ak X.K Hm ys dys->dc xF dys E P->
  (∀E' dys' ys' σ' H' Hm' F',P dys' E'->Rl X.K g E' σ' H' Hm' F'->af Hm Hm'->ak X.K Hm' ys' dys'->Agree cs U σ'->Q ys' (sel Y σ') H')->WL X D elt gens scope pos k ys (sel Y U) H Q
section
variable{X:Cx}{Ex:XK}{Y cs:QW}{D:Addr}{elt tg iter:Expr}{ifs:QU}{gens:QD}{scope:Scope}{pos:Pos}{k:Nat}
def Fy(h:SE X Ex Y elt d)(hk:gens[k]?=none):SL X Y cs D elt gens scope pos k (dg sizeLine d):=by intro g E U H Hm F ys dys P Q R r p q;refine WL.of (vV bz hk) (h g xF E U H Hm F _ _ XL.no R p λE1 k1 v u H1 Hm1 F1 fp p1 R1 s1 T=>?_);obtain⟨hk,hl,p1⟩:=p1;obtain⟨Hm2,s2,R2,r2⟩:=T.d7 R1 hk;exact⟨by rw[r.len];exact hl,q _ _ _ _ _ _ _ p1 R2 (s1.trans s2) ((r.mono (s1.trans s2)).snoc r2) (Agree.refl _ _)⟩
def tO{xs:QM}{t:Tg}{c:DT}{r:DC}{G:TG}{tt:TT}{tr:TL}{I:Nat->QM->En->Prop}{U:St}{F1:Nat->QS}{Q:List V->St->Hp->Prop}(hts:∀i∈t.slots,i∈cs)(it1:vG K J xs Hm1)(R1:Rl K g E1 U H1 Hm1 F1)(r0:ak K Hm1 ys dys)(i0:I 0 dys E1)(hG:∀{d:PyData}{v:V}{E E2:En}{U:St}{H Hm:Hp}{F:Nat->QS}{Q:St->Hp->Prop},bW t d E=some E2->Rp K Hm v d->Rl K g E U H Hm F->(∀σ' F',Rl K g E2 σ' H Hm F'->(∀j,j∉t.slots->σ'[j]?=U[j]?)->Q (sel Y σ') H)->G v (sel Y U) H Q)(hT:∀{E:En}{U:St}{H Hm:Hp}{F:Nat->QS}{P:Qg}{Q:Bool->Hp->Prop},Rl K g E U H Hm F->c xF E P->(∀E' b H' Hm' F',P E' b->Rl K g E' U H' Hm' F'->af Hm Hm'->Q b H')->tt (sel Y U) H Q)(hR:∀{E:En}{U:St}{H Hm:Hp}{F:Nat->QS}{ys:List V}{dys:QM}{P:QM->En->Prop}{Q:List V->St->Hp->Prop},Rl K g E U H Hm F->ak K Hm ys dys->r xF dys E P->(∀E' dys' ys' σ' H' Hm' F',P dys' E'->Rl K g E' σ' H' Hm' F'->af Hm Hm'->ak K Hm' ys' dys'->Agree cs U σ'->Q ys' (sel Y σ') H')->tr ys (sel Y U) H Q)(step:∀i d ys E,xs[i]?=some d->I i ys E->∃E2,bW t d E=some E2/\c xF E2 λE3 b=>if b=true then r xF ys E3 (I (i+1))else I (i+1) ys E3)(fin:∀E' dys' ys' σ' H' Hm' F',I xs.length dys' E'->Rl K g E' σ' H' Hm' F'->af Hm1 Hm'->ak K Hm' ys' dys'->Agree cs U σ'->Q ys' (sel Y σ') H'):xq J G tt tr ys (sel Y U) H1 Q:=by
 refine⟨λi m ys τ H'=>m=xs.length-i/\i<=xs.length/\∃E' dys' σ' Hm' F',I i dys' E'/\Rl K g E' σ' H' Hm' F'/\af Hm1 Hm'/\ak K Hm' ys dys'/\Agree cs U σ'/\τ=sel Y σ',⟨xs.length,by simp,Mq _,E1,dys,U,Hm1,F1,i0,R1,af.refl _,r0,Agree.refl _ _,rfl⟩,?_⟩;rintro i m ys τ H2⟨rfl,hi,E2,dys2,σ2,Hm2,F2,i2,R2,s2,r2,a2,rfl⟩;obtain⟨go,stop⟩:=it1 i H2 Hm2 s2 R2.sub;by_cases c':i<xs.length
 .obtain⟨go,nQ⟩:=go xs[i] (MP c');refine .inr ⟨go,λys τ H'=>i+1<=xs.length/\∃E' dys' σ' Hm' F',I (i+1) dys' E'/\Rl K g E' σ' H' Hm' F'/\af Hm1 Hm'/\ak K Hm' ys dys'/\Agree cs U σ'/\τ=sel Y σ',λys τ H' z=>⟨xs.length-(i+1),by lia,rfl,z⟩,λx H3 y=>?_⟩;obtain⟨Hm3,t1,t2,t3,old,rx⟩:=nQ x H3 y;have R3:=R2.turn t1 t2 t3 old;obtain⟨E4,e4,p4⟩:=step i xs[i] dys2 E2 (MP c') i2;refine hG e4 rx R3 λσ4 F4 R4 ag=>?_;have a4:Agree cs U σ4:=a2.trans ⟨by rw[<-R3.len,<-R4.len];exact(show E2.length=E4.length from R3.len.trans (by
   have h1:=R3.len;have h2:=R4.len;have:E4.length=E2.length:=by
    have go:∀{is:QW}{ds:QM}{E E':En},bC is ds E=some E'->E'.length=E.length:=by
     intro is
     induction is with
     |nil=>intro ds E E' h;cases ds with|nil=>cases h;rfl|cons _ _=>cases h
     |cons j is ih=>
      intro ds E E' h;cases ds with
      |nil=>cases h
      |cons d ds=>
       rw[bC]at h
       by_cases o:aW E j=true
       .rw[if_pos o]at h;rw[ih h,MY]
       .rw[if_neg o]at h;cases h
    cases t with
    |nm j=>exact go (is:=[j]) e4
    |tp js=>
     cases hd:xs[i]with
     |tuple ds=>rw[hd]at e4;exact go (is:=js) e4
     |_=>rw[hd]at e4;cases e4
   lia)),λj hj=>ag j λz=>hj (hts j z)⟩
  refine hT R4 p4 λE5 b H5 Hm5 F5 p5 R5 s5=>?_;cases b with
  |true=>refine oq (hR R5 (r2.mono (t1.trans s5)) (by simpa using p5) λE6 dys6 ys6 σ6 H6 Hm6 F6 p6 R6 s6 r6 a6=>?_);exact⟨c',E6,dys6,σ6,Hm6,F6,p6,R6,s2.trans (t1.trans (s5.trans s6)),r6,a4.trans a6,rfl⟩
  |false=>exact oV ⟨c',E5,dys2,σ4,Hm5,F5,by simpa using p5,R5,s2.trans (t1.trans s5),r2.mono (t1.trans s5),a4,rfl⟩
 have e:i=xs.length:=by lia
 subst e;exact .inl ⟨stop (M5 _),fin _ _ _ _ _ _ _ i2 R2 s2 r2 a2⟩
def Ck:caps ix (sel Y U)=ix.map λi=>(((Y[i]?).map λm=>(U[m]?).join)).join:=by unfold caps sel;refine OC λi _=>?_;rw[MQ]
def bx(Y cs ix:QW):QW:=cs++ix.map λi=>(Y[i]?).getD 0
def rq(hix:∀i∈ix,i<Y.length)(aM:∀c∈cs,c∉Y)(a:Agree cs U σ0)(n:∀c∈cs,σ0[c]?=some none):List.replicate cs.length none++caps ix (sel Y U)=sel (bx Y cs ix) σ0:=by unfold bx;rw[Ck];unfold sel;rw[Mr,Mu];congr 1;{refine(List.eq_replicate_iff.mpr ⟨M9 ..,λx hx=>?_⟩).symm;obtain⟨c,hc,rfl⟩:=MS.mp hx;rw[n c hc];rfl};refine OC λi hi=>?_;have l:=hix i hi;show((Y[i]?).map λm=>(U[m]?).join).join=(σ0[(Y[i]?).getD 0]?).join;rw[MP l];show(U[Y[i]]?).join=(σ0[Y[i]]?).join;rw[a.2 Y[i] λz=>aM _ z (Na l)]
def EU{rest:QD}{vs NB:QY}{ix:QW}{di:DI}{t:Tg}{c:DT}{r:DC}(B:bQ X scope vs NB ix)(hc:X.calm=true)(hcs:cs.length=vs.length)(hix:∀i∈ix,i<Y.length)(aM:∀c∈cs,c∉Y)(nd:(bx Y cs ix).Nodup)(hi:SI X Ex Y tg iter di)(ht:∀(C:Addr)(s:Shared)(H:Hp)(fp:QS),eL (X.block scope C NB s H fp) (bx Y cs ix) tg t)(hts:∀i∈t.slots,i∈cs)(hif:∀(C:Addr)(s:Shared)(H:Hp)(fp:QS),gM (X.block scope C NB s H fp) E0 (bx Y cs ix) ifs c)(hr:∀(C:Addr)(s:Shared)(H:Hp)(fp:QS)(D:Addr),SL (X.block scope C NB s H fp) (bx Y cs ix) cs D elt (⟨tg,iter,ifs,0⟩::rest) scope pos 1 r)(ha:∀g∈rest,g.is_async=0)(hs:∀v,foldedSetIterable iter X.env v=pure v){w:(V->Hp->Prop)->St->Hp->Prop}(hw:∀{wi:TI}{G:TG}{tt:TT}{tr:TL}{U:St}{H:Hp}{Q:VK},PI X tg iter wi->(∀(C:Addr)(s:Shared)(H:Hp)(fp:QS),PG (X.block scope C NB s H fp) tg G)->(∀(C:Addr)(s:Shared)(H:Hp)(fp:QS),l5 (X.block scope C NB s H fp) ifs tt)-> (∀(C:Addr)(s:Shared)(H:Hp)(fp:QS)(D:Addr),PL (X.block scope C NB s H fp) D elt (⟨tg,iter,ifs,0⟩::rest) scope pos 1 tr)->j5 wi vs.length ix G tt tr U H Q->w Q U H)(g:Gh)(x:XC)(E:En)(U:St)(H Hm:Hp)(F:Nat->QS)(P:QZ)(Q:VK)(hx:XL X Ex x g)(R:Rl X.K g E U H Hm F)(p:cW cs di t c r x E P)(q:∀E' k v u H' Hm' F' fp,P E' k v->Rl X.K g E' U H' Hm' F'->af Hm Hm'->Tm X.K g F' H' Hm' k u v fp->Q u H'):w Q (sel Y U) H:=by
 obtain⟨wi,hpi,hwi⟩:=hi;refine hw (wi:=wi) (G:=λv U H Q=>∀(C:Addr)(s:Shared)(H2:Hp)(fp:QS),WG (X.block scope C NB s H2 fp) tg v U H Q) (tt:=λU H Q=>∀(C:Addr)(s:Shared)(H2:Hp)(fp:QS),rG (X.block scope C NB s H2 fp) ifs U H Q)
  (tr:=λys U H Q=>∀(C:Addr)(s:Shared)(H2:Hp)(fp:QS)(D:Addr),WL (X.block scope C NB s H2 fp) D elt (⟨tg,iter,ifs,0⟩::rest) scope pos 1 ys U H Q) hpi (λC s H2 fp pins s' U H v u Q I r h=>h C s H2 fp pins s' u I r) (λC s H2 fp pins s' U H Q I h=>h C s H2 fp pins s' I)
  (λC s H2 fp D h1 h2 h3 pins s' U H ys its nn Q fin Qf E hp I rv hz h hf=>h C s H2 fp D h1 h2 h3 pins s' its nn fin Qf E hp I rv hz hf) ?_
 refine hwi g x E U H Hm F _ _ hx R p λE1 xs J H1 Hm1 F1 p1 R1 s1 it1=>?_;obtain⟨E0',I,hcl,i0,step,fin⟩:=p1;obtain⟨σ0,F0,R0,a0,n0⟩:=R1.aV hcl;rw[<-hcs,rq hix aM a0 λc hc=>(n0 c hc).1];refine tO (cs:=cs) (t:=t) (c:=c) (r:=r) hts it1 R0 .nil i0 (λh1 h2 h3 h4 C s H2 fp=>?_) (λh1 h2 h3 C s H2 fp=>(hif C s H2 fp).ok XL.no h1 h2 h3) (λh1 h2 h3 h4 C s H2 fp D=>hr C s H2 fp D g _ _ _ _ _ _ _ _ _ h1 h2 h3 h4) step λE' dys' ys' σ' H' Hm' F' i R' s' r' a' p hp=>?_;{obtain⟨G,g1,g2⟩:=pT (X:=X.block scope C NB s H2 fp) hc B.nd nd (ht C s H2 fp);exact WG.of g1 (g2 h1 h2 h3 h4)};obtain⟨E2,hcl2,p2⟩:=fin _ _ i;obtain⟨σ2,F2,R2,a2,n2⟩:=R'.aV hcl2;have R3:=R2.agree (cs:=cs) ((a0.trans a').trans a2).symm λc hc=>(n2 c hc).2;have s2:=bI (o:=.lst ys') hp;have R4:=R3.grow (H':=upd H' p (.lst ys')) s2 (af.refl _) (R3.sub.trans s2) (λi a ha=>R3.off i a ha) λ_ _=>.inl rfl;refine q _ _ _ _ _ Hm' F2 [p] p2 R4 (s1.trans s') ⟨.ow aB r',λa ha=>?_,λa ha i=>?_,λa ha=>?_⟩;{rw[MR.mp ha];exact R3.pL hp};{rw[MR.mp ha];exact R3.fresh hp};rw[MR.mp ha];exact R3.eK hp
end
end Dv
namespace L2
open PySem PySem.Spec PyProof.Rows
structure cB(X:Cx)(scope:Scope) (x:Str)(vs NB:QY)(ix:QW):Prop where
 kind:scope.kind=.function
 cell:∀y∈scope.names,y.2=.cell->y.1=x
 names:∀y∈scope.names,y.2=.local->scope.names.lookup y.1=some .local
 free:∀y,(y,NameKind.free)∈scope.names->(X.env.kindOf y=some .cell\/X.env.kindOf y=some .free)
 uu:(x,NameKind.free)∉scope.names
 var:scope.names.lookup x=some .cell
 nb:NB=vs++ix.map λi=>X.N.getD i ""
 nd:NB.Nodup
 cap:∀i∈ix,∃y,X.N[i]?=some y/\scope.names.lookup y=some .free
 cf:∀(n:Nat)(acc:List (Str×Addr)),cellsFrom n scope.names acc=(x,n)::acc
 pc:∀h:Heap,pushCells h scope.names=h.push nk
section
variable{M:Model}{A:Around}{E:QC}{s:Shared}{X:Cx}{scope:Scope}{x:Str}{vs NB:QY}{ix:QW}
def KY{g:Addr}(B:cB X scope x vs NB ix)(q:Q { scope:=scope,locals:=s.heap.objs.size,globals:=g,cells:=(x,s.heap.objs.size+1)::cl,qual:=ql,func:=none,code:=env.code,frame:=env.frame,builtins:=env.builtins } { s with heap:=(s.heap.push { cls:=.type "dict",data:=.dict #[] }).push nk }) : wpAny M A (newFunctionEnv scope g cl [] ql none .none (some env)) Q E s:=by simp only[newFunctionEnv,Option.isSome_some,if_true];refine M1 (wpAny_alloc (?_:_));refine M1 (wpAny_layCells _ (λname kind cells=>by cases hkc:kind==NameKind.cell<;>simp[hkc]) _ _ _ _ (?_:_));rw[B.cf,B.pc];rw[show({ s with heap:=s.heap.push { cls:=.type "dict",data:=.dict #[] } }:Shared).heap.objs.size=s.heap.objs.size+1 from OY ..];rw[List.forIn_nil];exact M1 (M8 (M8 q))
end
section
variable{X:Cx}{scope:Scope}{x:Str}{vs NB:QY}{ix:QW}{pins:QF}{U:St}{H2:Hp}{s2:Shared}{fp:QS}
def cB.clos(B:cB X scope x vs NB ix)(I2:Inv X pins U H2 s2):closureFor scope X.env=pure (bH X.env.cells scope.names []):=
 jI λn hn=>I2.ok.has n (B.free n hn)
def cB.look(B:cB X scope x vs NB ix)(I2:Inv X pins U H2 s2){c c':Addr}(h:((x,c)::bH X.env.cells scope.names []).lookup y=some c'):(y=x/\c'=c)\/X.env.cells.lookup y=some c':=by
 rw[Mi]at h;cases q:(y==x)with
 |true=>rw[q]at h;exact .inl ⟨by simpa using q,(Option.some.inj h).symm⟩
 |false=>rw[q]at h;rcases jP _ _ h with⟨m,e⟩|e;{obtain⟨c2,hc⟩:=I2.ok.has y (B.free y m);rw[hc]at e⊢;exact .inr (congrArg some e)};cases e
def cB.apart(B:cB X scope x vs NB ix)(I2:Inv X pins U H2 s2){c c' b:Addr}(hc:s2.heap.objs.size<=c)(h:((x,c)::bH X.env.cells scope.names []).lookup y=some c')(hb:b<s2.heap.objs.size)(nb:∀z d,X.env.cells.lookup z=some d->d≠b):c'≠b:=by rcases B.look I2 h with⟨_,rfl⟩|e;{exact Nu (MN hb hc)};exact nb y c' e
def yW(B:cB X scope x vs NB ix)(I2:Inv X pins U H2 s2){C c:Addr}(hC:s2.heap.objs.size<=C)(hc:s2.heap.objs.size<=c)(f2:∀b∈fp,dB X pins H2 b)(ft:∀b∈fp,b<s2.heap.objs.size):(X.aL scope x C c NB s2 H2 fp).Ok where
 mod:=I2.ok.mod
 kind:=B.kind
 glob:=I2.ok.glob
 blt:=I2.ok.blt
 above:=hC
 inj:=λa b d h1 h2=>by
  rcases B.look I2 h1 with⟨e1,e2⟩|e1<;>rcases B.look I2 h2 with⟨e3,e4⟩|e3
  .rw[e1,e3]
  .exact absurd (MN (om I2 e3) (e2▸hc)) (Mm _)
  .exact absurd (MN (om I2 e1) (e4▸hc)) (Mm _)
  .exact I2.ok.inj a b d e1 e3
 has:=λy hy=>by
  show ∃d,((x,c)::bH X.env.cells scope.names []).lookup y=some d;rw[Mi];cases q:(y==x)with
  |true=>exact⟨c,rfl⟩
  |false=>
   have nx:y≠x:=λz=>by rw[z,Pg]at q;cases q
   have key:∀k,(relabel scope X.env).names.lookup y=some k->(k=.cell\/k=.free)->∃d,(bH X.env.cells scope.names []).lookup y=some d:=λk hk kk=>by
    rcases oH (names:=scope.names) hk with e|⟨e,_⟩
    .rcases kk with rfl|rfl
     .exact absurd (B.cell _ (cu e) rfl) nx
     .exact dX _ _ (.inl (cu e))
    .exact dX _ _ (.inl (cu e))
   rcases hy with e|e
   .exact key _ e (.inl rfl)
   .exact key _ e (.inr rfl)
 rD:=λy d z e=>by
  rcases B.look I2 e with⟨_,rfl⟩|e
  .exact hc
  .have z:(y==x)=true:=z;have yx:y=x:=by simpa using z
   have h:((x,c)::bH X.env.cells scope.names []).lookup y=some d:=‹_›;rw[Mi,z]at h;cases h;exact hc
 hd:=I2.ok.hd
 frames:=I2.ok.frames
 stk:=.inl rfl
 zK:=λb hb=>⟨MO (MN (ft b hb) hC),λy d e=>B.apart I2 hc e (ft b hb) (f2 b hb).2.2.2.2.1⟩
 bs:=I2.bs
 mw:=MZ I2.ok.mw I2.sz
 lC:=λb o e hb=>by
  rcases(f2 b hb).2.2.2.1 with z|z
  .exact I2.ok.lC b o e z
  .exact absurd (MN (MB (I2.ok.bs b o e).1) z) (Mm _)
 nV:=λb hb z=>by
  rcases MH.mp (I2.gw b z)with e|e
  .exact(f2 b hb).2.1 e
  .exact(f2 b hb).2.2.1 e
 gf:=I2.stack
 p7:=I2.j6
def xT(B:cB X scope x vs NB ix)(I2:Inv X pins U H2 s2){C c D:Addr}{tk:Nat}(hC:s2.heap.objs.size<=C)(hD:s2.heap.objs.size<=D)(hDC:D≠C)(hc:s2.heap.objs.size<=c)(hcc:h1.IsCell c none)(f2:∀b∈fp,dB X pins H2 b)(ft:∀b∈fp,b<s2.heap.objs.size)(old:∀b o,s2.heap.get? b=some o->h1.get? b=some o)(hn:h1.Ns C m)(ho:h1.get? D=some oD)(hcl:∀v,oD.data≠.cell v) : Inv (X.aL scope x C c NB s2 H2 fp) [(D,oD)] (List.replicate vs.length none++caps ix U) H2 { s2 with heap:=h1,toks:=tk } where
 ok:=yW B I2 hC hc f2 ft
 os:=rfl
 bare:=I2.bare
 base:=Un.kept old
 loc:=by
  refine⟨m,hn,λi y v e1 e2 _=>?_⟩
  have e1:NB[i]?=some y:=e1
  by_cases li:i<vs.length
  .rw[NW (by rw[N5];exact li),Pd,if_pos li]at e2
   cases e2
  .obtain⟨j,rfl⟩:∃j,i=vs.length+j:=⟨i-vs.length,by lia⟩
   have e2:(caps ix U)[j]?=some (some v):=by
    rw[NJ (by rw[N5];lia),N5,OU]at e2
    exact e2
   rw[B.nb]at e1;have e1:(ix.map λi=>X.N.getD i "")[j]?=some y:=by
    rw[NJ (by lia),OU]at e1
    exact e1
   rw[MQ]at e1;unfold caps at e2;rw[MQ]at e2;cases q:ix[j]? with
   |none=>rw[q]at e1;cases e1
   |some i=>
    rw[q]at e1 e2;obtain⟨z,hz,fz⟩:=B.cap i (Ma q);have ey:y=z:=by
     have w:X.N.getD i ""=y:=Option.some.inj e1;rw[<-w,N6,hz];rfl
    subst ey;have e2:(U[i]?).join=some v:=Option.some.inj e2;have es:U[i]?=some (some v):=by
     cases w:U[i]? with
     |none=>rw[w]at e2;cases e2
     |some o=>rw[w]at e2;exact congrArg some e2
    have fk:=B.free y (cu fz);have vis:iA X.env.scope y:=.inr fk;obtain⟨mm,_,hl⟩:=I2.loc;obtain⟨u,ru,lk⟩:=hl i y v hz es vis;refine⟨u,ru,.inr ⟨?_,?_⟩⟩
    .rcases kY (env:=X.env) (names:=scope.names) fz with e|⟨_,e⟩
     .exact .inr e
     .exact .inl e
    .rcases lk with⟨lk,_⟩|⟨_,d,hd,hcell⟩
     .rcases fk with fk|fk
      .rw[lk]at fk;cases fk
      .rw[lk]at fk;cases fk
     .obtain⟨c',hc'⟩:=dX (cells:=X.env.cells) scope.names [] (.inl (cu fz));have nx:(y==x)=false:=by
       cases q:(y==x)with
       |false=>rfl
       |true=>
        have e:y=x:=by simpa using q
        exact absurd (e▸cu fz) B.uu
      have hc2:((x,c)::bH X.env.cells scope.names []).lookup y=some c':=by
       rw[Mi,nx];exact hc'
      have e3:X.env.cells.lookup y=some c':=by
       rcases B.look I2 hc2 with⟨e,_⟩|e
       .rw[e,Pg]at nx;cases nx
       .exact e
      rw[hd]at e3;cases e3;obtain⟨oc,g1,g2⟩:=hcell;exact⟨d,hc2,oc,old _ _ g1,g2⟩
 cell:=λy d e=>by
  rcases B.look I2 e with⟨_,rfl⟩|e
  .exact⟨none,hcc⟩
  .obtain⟨v,o,g1,g2⟩:=I2.cell y d e;exact⟨v,o,old _ _ g1,g2⟩
 free:=I2.hok.fresh hC
 cL:=λy d e=>by
  rcases B.look I2 e with⟨_,rfl⟩|e
  .exact I2.hok.fresh hc
  .exact I2.cL y d e
 pin:=λp hp=>by
  have e:p=(D,oD):=by simpa[Cx.aL]using hp
  subst e;refine⟨ho,I2.hok.fresh hD,hDC,λz=>?_,hcl⟩
  rcases MH.mp (I2.gw D z)with e|e
  .have e:D=X.env.locals:=e;exact absurd (MN I2.lt (e▸hD)) (Mm _)
  .exact I2.Bl hD e
 hok:=I2.hok.kept old
 len:=by
  show(List.replicate vs.length none++caps ix U).length=NB.length;rw[B.nb,MV,MV,tU,M9,N5]
end
section
variable{X:Cx}{scope:Scope}{x:Str}{vs:QY}{NB:QY}{ix:QW}
def xX{elt tg iter:Expr}{ifs:QU}{rest:QD}{pos:Pos}{g:TG}{tt:TT}{tr:TL}{J:It}{it:Addr}{tn:Nat->Heap->Prop}{fp:QS}{pins:QF}{U:St}{H2:Hp}{s2:Shared}{E:QC}{RR:Value->Addr->Result->Shared->Prop}{Qr:VK}(B:cB X scope x vs NB ix)(hc:X.calm=true)(hg:∀(C c:Addr)(s:Shared)(H:Hp)(fp:QS),PG (X.aL scope x C c NB s H fp) tg g)(ht:∀(C c:Addr)(s:Shared)(H:Hp)(fp:QS),l5 (X.aL scope x C c NB s H fp) ifs tt)(hr:∀(C c:Addr)(s:Shared)(H:Hp)(fp:QS)(D:Addr),PL (X.aL scope x C c NB s H fp) D elt (⟨tg,iter,ifs,0⟩::rest) scope pos 1 tr)(ha:∀g∈rest,g.is_async=0)(I2:Inv X pins U H2 s2)(T:Turn X.prog X.w X.K tg J fp it tn)(st2:tn 0 s2.heap)(f2:∀b∈fp,dB X pins H2 b)(h:xq J g tt tr [] (List.replicate vs.length none++caps ix U) H2 λys _ H'=>∀p,H' p=none->Qr (.ref p) (upd H' p (.lst ys)))(hRR:∀(D C:Addr)(Hf:Hp)(s':Shared)(m':QE),Inv X pins U Hf s'->s'.heap.Ns C m'->dB X pins Hf C->Qr (.ref D) Hf->RR (.ref D) C (.ok .next) s') : wpAny (model X.prog X.w) X.A (newList []) (λacc s3=>wpAny (model X.prog X.w) X.A (newFunctionEnv scope X.env.globals (bH X.env.cells scope.names []) [] X.env.qual none .none (some X.env)) (λcenv s4=> codeAny (model X.prog X.w) X.A (.compStart (.ListComp elt (⟨tg,iter,ifs,0⟩::rest) scope pos) 0 (.ref it) acc { cenv with scope:=relabel scope X.env }) (RR acc cenv.locals) s4) E s3) E s2:=by
 obtain⟨W,⟨m0,w0⟩,turn⟩:=h;have ha':∀g∈(⟨tg,iter,ifs,0⟩:Comprehension)::rest,g.is_async=0:=λg hg=>by rcases MH.mp hg with rfl|hg;{rfl};exact ha g hg
 refine Nk (KY B ?_);dsimp only;generalize eG:s2.heap.push { cls:=.type "list",dict:=none,data:=.seq ([]:QO).toArray }=G;obtain⟨h1,eh1⟩:∃h1,h1=(G.push { cls:=.type "dict",data:=.dict #[] }).push { cls:=.type "cell",data:=.cell none }:=⟨_,rfl⟩;rw[<-eh1];have hC:G.objs.size=s2.heap.objs.size+1:=by rw[<-eG,OY]
 have hDC:s2.heap.objs.size≠G.objs.size:=by rw[hC];exact MO (P9 _)
 have hCle:s2.heap.objs.size<=G.objs.size:=by rw[hC];exact Nz _
 have up:∀b o,G.get? b=some o->h1.get? b=some o:=λb o e=>by rw[eh1];exact ML _ (ML _ e)
 have old:∀b o,s2.heap.get? b=some o->h1.get? b=some o:=λb o e=>up b o (eG▸ML _ e);have hacc:h1.get? s2.heap.objs.size=some (c6 [] 0):=up _ _ (eG▸Mn _ rfl);have hns:h1.Ns G.objs.size (λ_=>none):=by rw[eh1];exact(Heap.Ns.new G (.type "dict")).keeps λb o e=>ML _ e
 have hcc:h1.IsCell (G.objs.size+1) none:=by rw[eh1];refine⟨nk,?_,rfl⟩;have e:=Mn (G.push { cls:=.type "dict",data:=.dict #[] }) (o:=nk) rfl;rw[OY]at e;exact e
 have hcle:s2.heap.objs.size<=G.objs.size+1:=Nat.le_succ_of_le hCle;have ft:∀b∈fp,b<s2.heap.objs.size:=λb hb=>by obtain⟨o,e,_⟩:=T.obj _ _ st2 b hb;exact MB e
 have cD:∀y c,(X.aL scope x G.objs.size (G.objs.size+1) NB s2 H2 fp).env.cells.lookup y=some c->c≠s2.heap.objs.size:=λy c e z=>by rcases B.look I2 e with⟨_,e4⟩|e4;{rw[e4,hC]at z;exact absurd z (Nu (O9 (P9 _)))};exact Mm _ (z▸om I2 e4)
 have loop:∀s3:Shared,s3={ s2 with heap:=h1 }->
   codeAny (model X.prog X.w) X.A (.compLoop (.ListComp elt (⟨tg,iter,ifs,0⟩::rest) scope pos) 0 (.ref it) (.ref s2.heap.objs.size) (compEnvC scope ((x,G.objs.size+1)::bH X.env.cells scope.names []) G.objs.size X.env))
    (RR (.ref s2.heap.objs.size) G.objs.size) s3:=by
  rintro s3 rfl;have I3:=xT (tk:=s2.toks) B I2 hCle (M5 _) hDC hcle hcc f2 ft old hns hacc (λv q=>by cases q)
  have st3:tn 0 h1:=T.keep _ _ _ st2 λb _ o e=>old b o e
  have fy:∀{H':Hp}{oD:Obj},(∀b∈fp,H' b=none)->∀b∈fp,dB (X.aL scope x G.objs.size (G.objs.size+1) NB s2 H2 fp) [(s2.heap.objs.size,oD)] H' b:=λ{H' oD} hn b hb=>by
   refine⟨hn b hb,MO (MN (ft b hb) hCle),λz=>?_,.inl hb,λy c e=>B.apart I2 hcle e (ft b hb) (f2 b hb).2.2.2.2.1,λp hp=>?_⟩;{rcases MH.mp (I2.gw b z)with e|e;{exact(f2 b hb).2.1 e};exact(f2 b hb).2.2.1 e};have e:p=(s2.heap.objs.size,oD):=by simpa[Cx.aL]using hp
   subst e;exact Ne.symm (MO (ft b hb))
  refine pO (k:=0) rfl ha' (λn s'=>∃i ys its nn σ' H',W i n ys σ' H'/\Inv (X.aL scope x G.objs.size (G.objs.size+1) NB s2 H2 fp) [(s2.heap.objs.size,c6 its nn)] σ' H' s'/\tn i s'.heap/\(∀b∈fp,H' b=none)/\Vals ys its/\ys.length<=sizeLine)
   ?_ m0 ⟨0,[],[],0,_,H2,w0,I3,st3,λb hb=>(f2 b hb).1,.nil,Mq _⟩
  rintro n s'⟨i,ys,its,nn,σ',H',w',I',st',fr',rv,hz⟩;rcases turn i n ys σ' H' w' with⟨stop,q⟩|⟨go,Nx,hNx,step⟩
  .refine Me (T.done (X.aL scope x G.objs.size (G.objs.size+1) NB s2 H2 fp) rfl rfl rfl hc i _ s' _ H' (λ_ _=>False) I' (fy fr') st' stop) (λr s4 ⟨hr',I4⟩=>?_) λ_ _ z=>z.elim
   subst hr';have I5:=x8 I2 f2 (M5 _) I4 rv hz;obtain⟨m4,hn4,_⟩:=I4.loc;have hfree:H' s2.heap.objs.size=none:=(I4.pin (s2.heap.objs.size,c6 its nn) (by show _∈[]++[(s2.heap.objs.size,c6 its nn)];simp)).2.1
   have fC:dB X pins (upd H' s2.heap.objs.size (.lst ys)) G.objs.size:=I2.oO hCle (by
    rw[ai (Ne.symm hDC)];exact I4.free)
   exact hRR _ _ _ s4 m4 I5 hn4 fC (q _ hfree)
  .refine Me (T.item (X.aL scope x G.objs.size (G.objs.size+1) NB s2 H2 fp) rfl rfl rfl hc i _ s' _ H' (λ_ _=>False) I' (fy fr') st' go) (λr s4 ⟨u,hr',h4⟩=>?_) λ_ _ z=>z.elim
   subst hr';refine Me h4 (λ_ s4 ⟨v,H5,I5,r5,y5,st5,fr5⟩=>?_) λ_ _ z=>z.elim
   have pIt:∀b∈fp,∃o,s4.heap.get? b=some o/\∀v,o.data≠.cell v:=T.obj _ _ st5;have I5':=I5.pinned (fy fr5) pIt;refine Me (hg _ _ _ _ _ _ s4 σ' H5 v u _ I5' r5 (step v H5 y5)) (λ_ s6 ⟨σ6,H6,I6,q6⟩=>?_) λ_ _ z=>z.elim
   refine Me (ht _ _ _ _ _ _ s6 σ6 H6 _ I6 q6) (λb s7 ⟨H7,I7,q7⟩=>?_) λ_ _ z=>z.elim
   have stays:∀{s9:Shared}{H9:Hp}{σ9:St}{oD:Obj},Inv (X.aL scope x G.objs.size (G.objs.size+1) NB s2 H2 fp) ((s2.heap.objs.size,oD)::fO fp s4.heap) σ9 H9 s9->tn (i+1) s9.heap/\(∀b∈fp,H9 b=none)/\Inv (X.aL scope x G.objs.size (G.objs.size+1) NB s2 H2 fp) [(s2.heap.objs.size,oD)] σ9 H9 s9:=λ{s9 H9 σ9 oD} I9=>by
    refine⟨T.keep _ _ _ st5 λb hb o e=>(I9.pin (b,o) (Mt _ (MC _ (fc hb e)))).1,λb hb=>?_,I9.i7 λp hp'=>I9.pin p (Mt _ ?_)⟩
    .obtain⟨o,e,d⟩:=pIt b hb;exact(I9.pin (b,o) (Mt _ (MC _ (fc hb e)))).2.1
    .rw[MR.mp hp'];exact M7
   cases b with
   |false=>
    rw[if_neg MJ]at q7⊢;obtain⟨m',hm,w7⟩:=hNx _ _ _ q7;obtain⟨g1,g2,g3⟩:=stays I7;exact⟨m',hm,i+1,ys,its,nn,σ6,H7,w7,g3,g1,g2,rv,hz⟩
   |true=>
    rw[if_pos rfl]at q7⊢;intro fin' Qf' hf';refine hr _ _ _ _ _ s2.heap.objs.size (M5 _) cD (λ_ _ z=>z) (fO fp s4.heap) s7 σ6 H7 ys its nn Nx fin' Qf' _ (λp hp'=>?_) I7 rv hz q7 λs8 ys8 its8 nn8 σ8 H8 I8 rv8 hz8 n8=>?_
    .have hp'':p∈fO fp s4.heap:=hp';exact MO (ft _ (mH hp'').1)
    .obtain⟨m',hm,w8⟩:=hNx _ _ _ n8;obtain⟨g1,g2,g3⟩:=stays I8;exact hf' s8 ⟨m',hm,i+1,ys8,its8,nn8,σ8,H8,w8,g3,g1,g2,rv8,hz8⟩
 exact codeAny_compStart_list (loop _ rfl) (T.self _ 0 _ _ _ (T.keep _ _ _ st2 λb _ o e=>old b o e) (loop _ rfl))
def Bb{elt tg iter:Expr}{ifs:QU}{rest:QD}{pos:Pos}{wi:TI}{g:TG}{tt:TT}{tr:TL}(B:cB X scope x vs NB ix)(hc:X.calm=true)(hi:PI X tg iter wi)(hg:∀(C c:Addr)(s:Shared)(H:Hp)(fp:QS),PG (X.aL scope x C c NB s H fp) tg g)(ht:∀(C c:Addr)(s:Shared)(H:Hp)(fp:QS),l5 (X.aL scope x C c NB s H fp) ifs tt)(hr:∀(C c:Addr)(s:Shared)(H:Hp)(fp:QS)(D:Addr),PL (X.aL scope x C c NB s H fp) D elt (⟨tg,iter,ifs,0⟩::rest) scope pos 1 tr)(ha:∀g∈rest,g.is_async=0:=by decide)(hs:∀v,foldedSetIterable iter X.env v=pure v:=by intro _;rfl):PE X (.ListComp elt (⟨tg,iter,ifs,0⟩::rest) scope pos) (j5 wi vs.length ix g tt tr):=by intro pins s U H Q I h;rw[eval_ListComp];refine Pz (use:=none) rfl hs (B.clos I) B.kind B.names (aG (hi pins s U H _ I h) λv s1 h1=>aG h1 λitv s2 h2=>?_);obtain⟨it,fp,tn,J,H2,e,I2,T,st2,f2,w⟩:=h2;subst e;refine xX (Qr:=Q) (RR:=λacc C=>compPost (model X.prog X.w) X.A X.xe none (EP X pins U Q) acc C) B hc hg ht hr ha I2 T st2 f2 w λD C Hf s' m' I' hn' fC q=>?_;refine⟨m',hn',λh'' hs''=>⟨.ref D,Hf,?_,rfl,q⟩⟩;obtain⟨c0,c1,c2,c3,c4,c5⟩:=fC;exact I'.turned (it:=C) (t':=s'.toks) (λb o hb e=>hs''.extBut b o hb e) c0 c1 c3 c4 c5
end
end L2
namespace Dv
open PySem L2 PySem.W
section
variable{X:Cx}{Ex:XK}{Y cs:QW}{elt tg iter:Expr}{ifs:QU}{scope:Scope}{pos:Pos}
def By{cx:Str}{rest:QD}{vs NB:QY}{ix:QW}{di:DI}{t:Tg}{c:DT}{r:DC}(B:cB X scope cx vs NB ix)(hc:X.calm=true)(hcs:cs.length=vs.length)(hix:∀i∈ix,i<Y.length)(aM:∀c∈cs,c∉Y)(nd:(bx Y cs ix).Nodup)(hi:SI X Ex Y tg iter di)(ht:∀(C c':Addr)(s:Shared)(H:Hp)(fp:QS),eL (X.aL scope cx C c' NB s H fp) (bx Y cs ix) tg t)(hts:∀i∈t.slots,i∈cs)(hif:∀(C c':Addr)(s:Shared)(H:Hp)(fp:QS),gM (X.aL scope cx C c' NB s H fp) E0 (bx Y cs ix) ifs c)(hr:∀(C c':Addr)(s:Shared)(H:Hp)(fp:QS)(D:Addr),SL (X.aL scope cx C c' NB s H fp) (bx Y cs ix) cs D elt (⟨tg,iter,ifs,0⟩::rest) scope pos 1 r)(ha:∀g∈rest,g.is_async=0)(hs:∀v,foldedSetIterable iter X.env v=pure v){w:(V->Hp->Prop)->St->Hp->Prop}(hw:∀{wi:TI}{G:TG}{tt:TT}{tr:TL}{U:St}{H:Hp}{Q:VK},PI X tg iter wi->(∀(C c':Addr)(s:Shared)(H:Hp)(fp:QS),PG (X.aL scope cx C c' NB s H fp) tg G)->(∀(C c':Addr)(s:Shared)(H:Hp)(fp:QS),l5 (X.aL scope cx C c' NB s H fp) ifs tt)-> (∀(C c':Addr)(s:Shared)(H:Hp)(fp:QS)(D:Addr),PL (X.aL scope cx C c' NB s H fp) D elt (⟨tg,iter,ifs,0⟩::rest) scope pos 1 tr)->j5 wi vs.length ix G tt tr U H Q->w Q U H)(g:Gh)(x:XC)(E:En)(U:St)(H Hm:Hp)(F:Nat->QS)(P:QZ)(Q:VK)(hx:XL X Ex x g)(R:Rl X.K g E U H Hm F)(p:cW cs di t c r x E P)(q:∀E' k v u H' Hm' F' fp,P E' k v->Rl X.K g E' U H' Hm' F'->af Hm Hm'->Tm X.K g F' H' Hm' k u v fp->Q u H'):w Q (sel Y U) H:=by
 obtain⟨wi,hpi,hwi⟩:=hi;refine hw (wi:=wi) (G:=λv U H Q=>∀(C c':Addr)(s:Shared)(H2:Hp)(fp:QS),WG (X.aL scope cx C c' NB s H2 fp) tg v U H Q) (tt:=λU H Q=>∀(C c':Addr)(s:Shared)(H2:Hp)(fp:QS),rG (X.aL scope cx C c' NB s H2 fp) ifs U H Q)
  (tr:=λys U H Q=>∀(C c':Addr)(s:Shared)(H2:Hp)(fp:QS)(D:Addr),WL (X.aL scope cx C c' NB s H2 fp) D elt (⟨tg,iter,ifs,0⟩::rest) scope pos 1 ys U H Q) hpi (λC c' s H2 fp pins s' U H v u Q I r h=>h C c' s H2 fp pins s' u I r) (λC c' s H2 fp pins s' U H Q I h=>h C c' s H2 fp pins s' I)
  (λC c' s H2 fp D h1 h2 h3 pins s' U H ys its nn Q fin Qf E hp I rv hz h hf=>h C c' s H2 fp D h1 h2 h3 pins s' its nn fin Qf E hp I rv hz hf) ?_
 refine hwi g x E U H Hm F _ _ hx R p λE1 xs J H1 Hm1 F1 p1 R1 s1 it1=>?_;obtain⟨E0',I,hcl,i0,step,fin⟩:=p1;obtain⟨σ0,F0,R0,a0,n0⟩:=R1.aV hcl;rw[<-hcs,rq hix aM a0 λc hc=>(n0 c hc).1];refine tO (cs:=cs) (t:=t) (c:=c) (r:=r) hts it1 R0 .nil i0 (λh1 h2 h3 h4 C c' s H2 fp=>?_) (λh1 h2 h3 C c' s H2 fp=>(hif C c' s H2 fp).ok XL.no h1 h2 h3) (λh1 h2 h3 h4 C c' s H2 fp D=>hr C c' s H2 fp D g _ _ _ _ _ _ _ _ _ h1 h2 h3 h4) step λE' dys' ys' σ' H' Hm' F' i R' s' r' a' p hp=>?_;{obtain⟨G,g1,g2⟩:=pT (X:=X.aL scope cx C c' NB s H2 fp) hc B.nd nd (ht C c' s H2 fp);exact WG.of g1 (g2 h1 h2 h3 h4)};obtain⟨E2,hcl2,p2⟩:=fin _ _ i;obtain⟨σ2,F2,R2,a2,n2⟩:=R'.aV hcl2;have R3:=R2.agree (cs:=cs) ((a0.trans a').trans a2).symm λc hc=>(n2 c hc).2;have s2:=bI (o:=.lst ys') hp;have R4:=R3.grow (H':=upd H' p (.lst ys')) s2 (af.refl _) (R3.sub.trans s2) (λi a ha=>R3.off i a ha) λ_ _=>.inl rfl;refine q _ _ _ _ _ Hm' F2 [p] p2 R4 (s1.trans s') ⟨.ow aB r',λa ha=>?_,λa ha i=>?_,λa ha=>?_⟩;{rw[MR.mp ha];exact R3.pL hp};{rw[MR.mp ha];exact R3.fresh hp};rw[MR.mp ha];exact R3.eK hp
def GY{rest:QD}{vs NB:QY}{ix:QW}{di:DI}{t:Tg}{c:DT}{r:DC}(B:bQ X scope vs NB ix)(hc:X.calm=true)(hcs:cs.length=vs.length)(hix:∀i∈ix,i<Y.length)(aM:∀c∈cs,c∉Y)(nd:(bx Y cs ix).Nodup)(hi:SI X Ex Y tg iter di)(ht:∀(C:Addr)(s:Shared)(H:Hp)(fp:QS),eL (X.block scope C NB s H fp) (bx Y cs ix) tg t)(hts:∀i∈t.slots,i∈cs)(hif:∀(C:Addr)(s:Shared)(H:Hp)(fp:QS),gM (X.block scope C NB s H fp) E0 (bx Y cs ix) ifs c)(hr:∀(C:Addr)(s:Shared)(H:Hp)(fp:QS)(D:Addr),SL (X.block scope C NB s H fp) (bx Y cs ix) cs D elt (⟨tg,iter,ifs,0⟩::rest) scope pos 1 r)(ha:∀g∈rest,g.is_async=0)(hs:∀v,foldedSetIterable iter X.env v=pure v):SE X Ex Y (.ListComp elt (⟨tg,iter,ifs,0⟩::rest) scope pos) (cW cs di t c r):=λg x E U H Hm F P Q hx R p q=>
 EU B hc hcs hix aM nd hi ht hts hif hr ha hs (w:=λQ U H=>WE X (.ListComp elt (⟨tg,iter,ifs,0⟩::rest) scope pos) U H Q) (λh1 h2 h3 h4 h5=>WE.of (tK B hc h1 h2 h3 h4 ha hs) h5) g x E U H Hm F P Q hx R p q
def Gf{cx:Str}{rest:QD}{vs NB:QY}{ix:QW}{di:DI}{t:Tg}{c:DT}{r:DC}(B:cB X scope cx vs NB ix)(hc:X.calm=true)(hcs:cs.length=vs.length)(hix:∀i∈ix,i<Y.length)(aM:∀c∈cs,c∉Y)(nd:(bx Y cs ix).Nodup)(hi:SI X Ex Y tg iter di)(ht:∀(C c':Addr)(s:Shared)(H:Hp)(fp:QS),eL (X.aL scope cx C c' NB s H fp) (bx Y cs ix) tg t)(hts:∀i∈t.slots,i∈cs)(hif:∀(C c':Addr)(s:Shared)(H:Hp)(fp:QS),gM (X.aL scope cx C c' NB s H fp) E0 (bx Y cs ix) ifs c)(hr:∀(C c':Addr)(s:Shared)(H:Hp)(fp:QS)(D:Addr),SL (X.aL scope cx C c' NB s H fp) (bx Y cs ix) cs D elt (⟨tg,iter,ifs,0⟩::rest) scope pos 1 r)(ha:∀g∈rest,g.is_async=0)(hs:∀v,foldedSetIterable iter X.env v=pure v):SE X Ex Y (.ListComp elt (⟨tg,iter,ifs,0⟩::rest) scope pos) (cW cs di t c r):=λg x E U H Hm F P Q hx R p q=>
 By B hc hcs hix aM nd hi ht hts hif hr ha hs (w:=λQ U H=>WE X (.ListComp elt (⟨tg,iter,ifs,0⟩::rest) scope pos) U H Q) (λh1 h2 h3 h4 h5=>WE.of (Bb B hc h1 h2 h3 h4 ha hs) h5) g x E U H Hm F P Q hx R p q
end
def wY(K:Frag)(f:DM)(r:V->List V->Hp->VK->Prop):Prop:=∀(H Hm:Hp)(a:Addr)(xs:List V)(ds:QM)(vs:List V)(args:QM)(P:QM->PyData->Prop)(Q:VK),H a=some (.lst xs)->Hm a=none->af Hm H->ak K Hm xs ds->ak K Hm vs args->f ds args P->
 (∀ys new u v,P new v->ak K Hm ys new->Rp K Hm u v->Q u (upd H a (.lst ys)))->r (.ref a) vs H Q
theorem zI:∀{es:List DE}{os:Qa}{vs:List V}{ds:QM},Got K U Hm (es.map .ev) os vs->fill (es.map .ev) E os=some ds->ak K Hm vs ds
 |[],_,_,_,.nil,h=>by cases h;exact .nil
 |e::es,_,_,_,.ev (os:=os) r G,h=>by
  have h:(fill (es.map .ev) E os).map (_::·)=some _:=h;cases hf:fill (es.map .ev) E os with
  |none=>rw[hf]at h;cases h
  |some ds=>rw[hf]at h;cases h;exact .cons r (zI G hf)
inductive nG(X:Cx)(Ex:XK)(Y:QW):QU->List DE->Prop
 |nil:nG X Ex Y [] []
 |cons {e:Expr}{d:DE}{es:QU}{ds:List DE}:SE X Ex Y e d->nG X Ex Y es ds->nG X Ex Y (e::es) (d::ds)
def nG.as(h:nG X Ex Y es ds):aH X Ex Y es (ds.map .ev):=by
 induction h with
 |nil=>exact .nil
 |cons h _ ih=>exact .ev h ih
def qq(ns:es.all noStar=true)(l:es.length<30):((backTo cpos (starEach es env)).all (λx=>!x.1)&&(backToKw cpos (keywordEach [] env)).all (λx=>x.1.isSome)&&decide (es.length+([]:List Keyword).length+(if([]:List Keyword).isEmpty then 0 else 1)<30))=true:=by have h:=eU (pos:=cpos) (env:=env) ns;rw[List.any_eq_false]at h;rw[MA,MA,MI];refine⟨⟨λx hx=>by simpa using h x hx,rfl⟩,Nn ?_⟩;show es.length+0+0<30;lia
section
variable{X:Cx}{Ex:XK}{Y:QW}
def AZ{i:Nat}(h:gI E i=true):∃p ds,E[i]?=some (some (.ow p,.list ds)):=by unfold gI at h;split at h;{rename_i p ds e;exact⟨p,ds,e⟩};cases h
def JZ{x name:Str}{id:String}{p apos cpos:Pos}{es:QU}{ds:List DE}{f:DM}{r:V->List V->Hp->VK->Prop}{i j:Nat}(hm:qc X id r)(D:wY X.K f r)(slot:Slot "list" name id)(hty:typeOf (.builtin id)=pure (.type "method_descriptor"))(hv:PE X (.Name x p) (kW j))(hj:Y[j]?=some i)(ns:es.all noStar=true)(l30:es.length<30)(hline:(apos.endLine==cpos.line)=true)(S:nG X Ex Y es ds):SE X Ex Y (.Call (.Attribute (.Name x p) name apos) es [] cpos) (uo f i ds):=by
 intro g xc E U H Hm F P Q hx R h q;replace h:bK (gI E i) _:=h;rw[bY]at h;obtain⟨ho,h⟩:=h;obtain⟨p0,ds0,e0⟩:=AZ ho;obtain⟨v,h1,h2⟩:=R.slot i _ _ e0;have hs1:=b6 hj h1;have fin:∀a xs0,v=.ref a->H a=some (.lst xs0)->rV X es (sel Y U) H λvs H2=>r (.ref a) vs H2 Q:=λa xs0 ev _=>by
  subst ev;refine jh hx S.as R h λE1 os vs H1 Hm1 F1 p1 R1 s1 G=>?_;replace p1:yO f i (ds.map .ev) E1 os P:=p1;unfold yO at p1;rw[<-aR,dS]at p1;obtain⟨args,hf,p1⟩:=p1;split at p1
  rotate_left
  .exact p1.elim
  rename_i p1' ds1 e1;have ra:=zI G hf;obtain⟨v',g1,g2⟩:=R1.slot i _ _ e1;rw[h1]at g1;cases g1;generalize hfi:F1 i=fi at g2;cases g2 with
  |@ow _ _ xs1 _ ha1 hr1=>refine D H1 Hm1 a xs1 ds1 vs args _ Q ha1 (R1.off i a (by rw[hfi];exact M7)) R1.sub hr1 ra p1 λys new u v p2 ry ru=>?_;obtain⟨a',xs',k1,k2,k3,k4,R2⟩:=R1.chg e1 ry;rw[h1]at k1;cases k1;exact q _ _ _ _ _ _ _ [] p2 R2 s1 (Tm.sh ru)
 generalize hfi:F i=fi at h2;cases h2 with
 |@ow _ a xs _ ha hr=>
  cases es with
  |nil=>exact WE.of (Ga OD slot hty hm hv rfl hline) ⟨_,hs1,.inl ⟨rfl,_,bD.of ha⟩,fin a xs rfl ha⟩
  |cons e es=>have ns':=ns;rw[MG,MA]at ns';exact WE.of (pN OD slot hty hm hv (cX ns) rfl (qq ns l30) hline (aS ns'.1) (eU ns'.2)) ⟨_,hs1,.inl ⟨rfl,_,bD.of ha⟩,fin a xs rfl ha⟩
def fX:DM:=λds args P=>match args with
 |[d]=>ds.length<sizeLine/\P (ds++[d]) .none
 |_=>False
def iU:wY K fX wN:=by intro H Hm a xs ds vs args P Q ha _ s r ra h q;unfold fX at h;split at h;{obtain⟨x,rfl,h1⟩:=cI ra;exact⟨a,xs,x,rfl,rfl,ha,by rw[r.len];exact h.1,q _ _ _ _ h.2 (r.snoc h1) .aN⟩};exact h.elim
def Fg:DM:=λds args P=>match args with
 |[.list es]=>ds.length+es.length<=sizeLine/\P (ds++es) .none
 |_=>False
theorem ak.dropLast(r:ak K H vs ds):ak K H vs.dropLast ds.dropLast:=by rw[List.dropLast_eq_take,List.dropLast_eq_take,r.len];exact r.take _
theorem ak.erase:∀{vs:List V}{ds:QM} (i:Nat),ak K H vs ds->ak K H (vs.eraseIdx i) (ds.eraseIdx i)
 |_,_,_,.nil=>.nil
 |_,_,0,.cons _ r=>r
 |_,_,i+1,.cons h r=>.cons h (r.erase i)
def qE:DM:=λds args P=>match args with
 |[]=>∃d,ds[ds.length-1]?=some d/\P ds.dropLast d
 |[.int i]=>(-(2^63)<=i/\i<2^63)/\∃n d,seqIndex? i ds.length=some n/\ds[n]?=some d/\P (ds.eraseIdx n) d
 |_=>False
def w5:qc X "list.pop" λx vs H Q=>Cg x vs H Q\/uT x vs H Q:=λpins s U H x xs v us Q I a b z=>z.elim (GR pins s U H x xs v us Q I a b) (Cm pins s U H x xs v us Q I a b)
def vS:wY K qE λx vs H Q=>Cg x vs H Q\/uT x vs H Q:=by intro H Hm a xs ds vs args P Q ha _ s r ra h q;unfold qE at h;split at h;{cases ra;obtain⟨d,e,h⟩:=h;obtain⟨v,ev,rv⟩:=r.get e;refine .inl ⟨a,xs,v,rfl,rfl,ha,by rw[r.len];exact ev,q _ _ _ _ h r.dropLast rv⟩};{obtain⟨x,rfl,h1⟩:=cI ra;cases h1;obtain⟨⟨b1,b2⟩,n,d,e1,e2,h⟩:=h;obtain⟨v,ev,rv⟩:=r.get e2;exact .inr ⟨a,xs,_,n,v,rfl,rfl,ha,b1,b2,by rw[r.len];exact e1,ev,q _ _ _ _ h (r.erase n) rv⟩};exact h.elim
end
def kL:br a=br b↔a=b:=by cases a<;>cases b<;>simp[br]
theorem rE:∀{a b:List Key},a.map br=b.map br↔a=b
 |[],[]=>by simp
 |[],_::_=>by simp
 |_::_,[]=>by simp
 |a::as,b::bs=>by simp[kL,rE (a:=as) (b:=bs)]
def oJ{a b:List Key}:PyData.tuple (a.map br)=.tuple (b.map br)↔a=b:=by rw[PyData.tuple.injEq];exact rE
def m6(h:lF w=true):∃k,w=br k:=by
 cases w with
 |int i=>exact⟨.inl i,rfl⟩
 |str x=>exact⟨.inr x,rfl⟩
 |_=>cases h
theorem jz:∀{ks:QM},ks.all lF=true->∃k:List Key,ks=k.map br
 |[],_=>⟨[],rfl⟩
 |w::ks,h=>by rw[MG,MA]at h;obtain⟨k,rfl⟩:=m6 h.1;obtain⟨l,rfl⟩:=jz h.2;exact⟨k::l,rfl⟩
section
variable{K:Frag}{H:Hp}
def pC(r:Rp K H u (br k)):u=kV k:=by
 cases k with
 |inl i=>have r:Rp K H u (.int i):=r;cases r;rfl
 |inr x=>have r:Rp K H u (.str x):=r;cases r;rfl
theorem uZ:∀{us:List V}{k:List Key},ak K H us (k.map br)->us=k.map kV
 |_,[],r=>by cases r;rfl
 |_,k::ks,r=>by
  cases r with
  |cons h t=>rw[pC h,uZ t];rfl
def qI{k:List Key}(r:Rp K H u (.tuple (k.map br))):∃b,u=.ref b/\H b=some (.tup (k.map kV)):=by
 cases r with
 |tup a r=>exact⟨_,rfl,by rw[<-uZ r];exact a⟩
theorem dJ.len:∀{kvs:List (Key×V)}{ds:QA},dJ K H kvs ds->kvs.length=ds.length
 |_,_,.nil=>rfl
 |_,_,.cons _ r=>congrArg (·+1) r.len
theorem dO.len:∀{kvs:List (List Key×V)}{ds:QA},dO K H kvs ds->kvs.length=ds.length
 |_,_,.nil=>rfl
 |_,_,.cons _ r=>congrArg (·+1) r.len
theorem dJ.val:∀{kvs:List (Key×V)}{ds:QA},dJ K H kvs ds->(cJ ds (br k)=none/\b5 kvs k=none)\/∃v d,b5 kvs k=some v/\cJ ds (br k)=some d/\Rp K H v d
 |_,_,.nil=>.inl ⟨rfl,rfl⟩
 |_,_,.cons (k:=k') (v:=v) (d:=d) (kvs:=kvs) (ds:=ds) h r=>by
  by_cases c:k'=k;{subst c;exact .inr ⟨v,d,by unfold b5;rw[PF (by simp)];rfl,by unfold cJ;rw[PF (by simp)];rfl,h⟩};have c':¬br k'=br k:=λz=>c (kL.mp z);have e1:b5 ((k',v)::kvs) k=b5 kvs k:=by unfold b5;rw[PJ (by simpa using c)]
  have e2:cJ ((br k',d)::ds) (br k)=cJ ds (br k):=by unfold cJ;rw[PJ (by simpa using c')]
  rw[e1,e2];exact r.val
theorem dO.val:∀{kvs:List (List Key×V)}{ds:QA},dO K H kvs ds->(cJ ds (.tuple (k.map br))=none/\b5 kvs k=none)\/∃v d,b5 kvs k=some v/\cJ ds (.tuple (k.map br))=some d/\Rp K H v d
 |_,_,.nil=>.inl ⟨rfl,rfl⟩
 |_,_,.cons (k:=k') (v:=v) (d:=d) (kvs:=kvs) (ds:=ds) h r=>by
  by_cases c:k'=k;{subst c;exact .inr ⟨v,d,by unfold b5;rw[PF (by simp)];rfl,by unfold cJ;rw[PF (by simp)];rfl,h⟩};have c':¬PyData.tuple (k'.map br)=.tuple (k.map br):=λz=>c (oJ.mp z);have e1:b5 ((k',v)::kvs) k=b5 kvs k:=by unfold b5;rw[PJ (by simpa using c)]
  have e2:cJ ((.tuple (k'.map br),d)::ds) (.tuple (k.map br))=cJ ds (.tuple (k.map br)):=by unfold cJ;rw[PJ (by simpa using c')]
  rw[e1,e2];exact r.val
theorem dJ.any:∀{kvs:List (Key×V)}{ds:QA},dJ K H kvs ds->(kvs.any λkv=>decide (kv.1=k))=ds.any λkv=>decide (kv.1=br k)
 |_,_,.nil=>rfl
 |_,_,.cons (k:=k') h r=>by rw[NQ,NQ,r.any,decide_eq_decide.mpr (kL (a:=k') (b:=k)).symm]
theorem dO.any{k:List Key}:∀{kvs:List (List Key×V)}{ds:QA},dO K H kvs ds->(kvs.any λkv=>decide (kv.1=k))=ds.any λkv=>decide (kv.1=.tuple (k.map br))
 |_,_,.nil=>rfl
 |_,_,.cons (k:=k') h r=>by rw[NQ,NQ,r.any,decide_eq_decide.mpr (oJ (a:=k') (b:=k)).symm]
theorem dJ.app(k:Key)(h:Rp K H v d):∀{kvs:List (Key×V)}{ds:QA},dJ K H kvs ds->dJ K H (kvs++[(k,v)]) (ds++[(br k,d)])
 |_,_,.nil=>.cons h .nil
 |_,_,.cons g r=>.cons g (r.app k h)
theorem dO.app(k:List Key)(h:Rp K H v d):∀{kvs:List (List Key×V)}{ds:QA},dO K H kvs ds->dO K H (kvs++[(k,v)]) (ds++[(.tuple (k.map br),d)])
 |_,_,.nil=>.cons h .nil
 |_,_,.cons g r=>.cons g (r.app k h)
def dJ.put(k:Key)(h:Rp K H v d)(r:dJ K H kvs ds):dJ K H (putK kvs k v) (putD ds (br k) d):=by
 unfold putK putD;rw[r.any (k:=k)];split
 .have go:∀{kvs:List (Key×V)}{ds:QA},dJ K H kvs ds->dJ K H (kvs.map λkv=>if kv.1=k then(kv.1,v)else kv) (ds.map λkv=>if kv.1=br k then(kv.1,d)else kv):=by
   intro kvs;induction kvs with
   |nil=>intro ds r;cases r;exact .nil
   |cons p kvs ih=>
    intro ds r;cases r with
    |@cons k' v' d' _ ds g r=>rw[Mb,Mb];by_cases c:k'=k;{rw[if_pos c,if_pos (congrArg br c)];exact .cons h (ih r)};rw[if_neg c,if_neg λz=>c (kL.mp z)];exact .cons g (ih r)
  exact go r
 exact r.app k h
def dO.put(k:List Key)(h:Rp K H v d)(r:dO K H kvs ds):dO K H (putK kvs k v) (putD ds (.tuple (k.map br)) d):=by
 unfold putK putD;rw[r.any (k:=k)];split
 .have go:∀{kvs:List (List Key×V)}{ds:QA},dO K H kvs ds->dO K H (kvs.map λkv=>if kv.1=k then(kv.1,v)else kv) (ds.map λkv=>if kv.1=.tuple (k.map br)then(kv.1,d)else kv):=by
   intro kvs;induction kvs with
   |nil=>intro ds r;cases r;exact .nil
   |cons p kvs ih=>
    intro ds r;cases r with
    |@cons k' v' d' _ ds g r=>rw[Mb,Mb];by_cases c:k'=k;{rw[if_pos c,if_pos (by rw[c])];exact .cons h (ih r)};rw[if_neg c,if_neg λz=>c (oJ.mp z)];exact .cons g (ih r)
  exact go r
 exact r.app k h
end
section
variable{X:Cx}{Ex:XK}{Y:QW}
inductive CJ(neg:Bool) (x:V) (y:V)(H:Hp)(Q:VK):Prop
 |mk:∀a o,(y=.ref a)->(gr H a x o)->(Q (.bl (if neg then !o.isSome else o.isSome)) H)->CJ neg x y H Q
def Cn(neg:Bool):R2:=λx y H Q=>CJ neg x y H Q
def HG(hu:X.A.units+64<cLine):bw X (compareOp .In) (Cn false):=by intro pins s U H x y v u Q I rx ry h;obtain⟨a,o,rfl,g,q⟩:=h;cases ry;exact K6 (by lia) I g rx λs3 I3=>⟨.bl o.isSome,H,I3,rfl,q⟩
def AI(hu:X.A.units+64<cLine):bw X (compareOp .NotIn) (Cn true):=by intro pins s U H x y v u Q I rx ry h;obtain⟨a,o,rfl,g,q⟩:=h;cases ry;exact E9 (by lia) I g rx λs3 I3=>⟨.bl (!o.isSome),H,I3,rfl,q⟩
def jX(neg:Bool):DR:=λds P=>wJ (λx y=>match y,x with
 |.dict ((.none,.none)::kvs),.tuple ks=>ks.all lF=true/\P .sh (.bool (if neg then !(cJ kvs (.tuple ks)).isSome else(cJ kvs (.tuple ks)).isSome))
 |.dict kvs,w=>(lF w=true/\kE kvs=true)/\P .sh (.bool (if neg then !(cJ kvs w).isSome else(cJ kvs w).isSome))
 |y,x=>Ds neg [x,y] P) ds
def uq(K:Frag)(neg:Bool):R2:=λx y H Q=>xx K neg x y H Q\/Cn neg x y H Q
def HQ(hu:X.A.units+64<cLine):bw X (compareOp .In) (uq X.K false):=bw.or (HS hu) (HG hu)
def zb(hu:X.A.units+64<cLine):bw X (compareOp .NotIn) (uq X.K true):=bw.or (zR hu) (AI hu)
def oW(r:Rp K H u (.dict kvs))(h:kE kvs=true):∃a es,u=.ref a/\H a=some (.dK es)/\dJ K H es kvs:=by
 cases r with
 |dk a r=>exact⟨_,_,rfl,a,r⟩
 |dt a r=>cases h
 |exc _ _=>cases h
def zJ(r:Rp K H u (.dict ((.none,.none)::kvs))):∃a es,u=.ref a/\H a=some (.dT es)/\dO K H es kvs:=by
 generalize e:((PyData.none,PyData.none)::kvs)=ds at r;cases r with
 |dk a r=>
  cases r with
  |nil=>cases e
  |@cons k _ _ _ _ _ _=>cases k<;>cases e
 |dt a r=>cases e;exact⟨_,_,rfl,a,r⟩
 |exc _ _=>cases e
def wV(neg:Bool):bU K (jX neg) (r2 (uq K neg)):=by
 intro H Hm vs ds P Q s r h q;obtain⟨x,y,w,d,rfl,rfl,h1,h2,h⟩:=l8 r h;have dflt:Ds neg [w,d] P->r2 (uq K neg) [x,y] H Q:=λh=>.inl (FU neg H Hm _ _ P Q s r h q);have alt:∀kvs,d=.dict kvs->((lF w=true/\kE kvs=true)/\P .sh (.bool (if neg then !(cJ kvs w).isSome else(cJ kvs w).isSome)))->r2 (uq K neg) [x,y] H Q:=λkvs e hz=>by
  subst e;obtain⟨⟨hk,hp⟩,hz⟩:=hz;obtain⟨k,rfl⟩:=m6 hk;cases pC h1;obtain⟨a,es,rfl,ha,rt⟩:=oW h2 hp;refine .inr ⟨a,_,rfl,gr.k (s _ _ ha),?_⟩;have e:(b5 es k).isSome=(cJ kvs (br k)).isSome:=by rcases rt.val (k:=k)with⟨e1,e2⟩|⟨v,d,e1,e2,_⟩;{rw[e1,e2];rfl};rw[e1,e2];rfl
  rw[e];exact aZ.sc q s hz (.bl _)
 have h2':=h2;cases h2' with
 |dk _ rk=>
  cases rk with
  |nil=>exact alt _ rfl h
  |@cons k _ _ _ _ _ _=>cases k<;>exact alt _ rfl h
 |exc _ _=>exact alt _ rfl h
 |@dt _ _ kvs _ _=>
  cases w with
  |tuple ks=>
   obtain⟨k,rfl⟩:=jz h.1;obtain⟨b,rfl,hb⟩:=qI h1;obtain⟨a,es,e,ha,rt⟩:=zJ h2;cases e;refine .inr ⟨_,_,rfl,gr.t (s _ _ ha) (s _ _ hb),?_⟩;have e:(b5 es k).isSome=(cJ kvs (.tuple (k.map br))).isSome:=by rcases rt.val (k:=k)with⟨e1,e2⟩|⟨v,d,e1,e2,_⟩;{rw[e1,e2];rfl};rw[e1,e2];rfl
   rw[e];exact aZ.sc q s h.2 (.bl _)
  |_=>exact alt _ rfl h
 |_=>exact dflt h
inductive Cy(x:V) (y:V)(H:Hp)(Q:VK):Prop
 |mk:∀a v,(x=.ref a)->(gr H a y (some v))->(Q v H)->Cy x y H Q
def HU:R2:=λx y H Q=>Cy x y H Q
def Ek(hu:X.A.units+64<cLine):lO X HU:=by intro value slice pins s U H x y v u Q I rx ry h hs;obtain⟨a,w,rfl,g,q⟩:=h;cases rx;exact PyProof.Rows.tail_any (vm I g) PySem.F.slot_dict_getitem.lookup (zV (by lia) I g ry λw' s3 I3 rw'=>⟨w,H,I3,rw',q⟩) hs
def atK(xs:QM) (i:Int):Option PyData:=match i with
 |.ofNat n=>xs[n]?
 |.negSucc n=>c8 xs (.negSucc n)
def qz{xs:QM}{i:Int}:atK xs i=c8 xs i:=by
 cases i with
 |ofNat n=>unfold atK c8 lK;show xs[n]?=_;rw[if_pos (show(0:Int)<=Int.ofNat n from Int.natCast_nonneg n)];by_cases h:n<xs.length;{rw[if_pos (show Int.ofNat n<(xs.length:Int)from Nr.mpr h)];rfl};rw[if_neg (show ¬Int.ofNat n<(xs.length:Int)from λz=>h (Nr.mp z))];exact Mk (Nat.le_of_not_lt h)
 |negSucc n=>rfl
def bf:DR:=λds P=>wJ (λx y=>match x,y with
 |.list xs,.int i=>aq (atK xs i) (P .sh)
 |.tuple xs,.int i=>aq (atK xs i) (P .sh)
 |.dict ((.none,.none)::kvs),.tuple ks=>ks.all lF=true/\∃d,cJ kvs (.tuple ks)=some d/\P .sh d
 |.dict kvs,w=>(lF w=true/\kE kvs=true)/\∃d,cJ kvs w=some d/\P .sh d
 |x,y=>CI [x,y] P) ds
def xj(K:Frag):R2:=λx y H Q=>G4 K x y H Q\/HU x y H Q
def KU(hu:X.A.units+64<cLine):lO X (xj X.K):=zz.or (Ek hu)
def D6:bU K bf (r2 (xj K)):=by
 intro H Hm vs ds P Q s r h q;obtain⟨x,y,d,w,rfl,rfl,h2,h1,h⟩:=l8 r h;have dflt:CI [d,w] P->r2 (xj K) [x,y] H Q:=λh=>.inl (G9 H Hm _ _ P Q s r h q);have alt:∀kvs,d=.dict kvs->((lF w=true/\kE kvs=true)/\∃d,cJ kvs w=some d/\P .sh d)->r2 (xj K) [x,y] H Q:=λkvs e hz=>by subst e;obtain⟨⟨hk,hp⟩,d,hv,hz⟩:=hz;obtain⟨k,rfl⟩:=m6 hk;cases pC h1;obtain⟨a,es,rfl,ha,rt⟩:=oW h2 hp;rcases rt.val (k:=k)with⟨e1,e2⟩|⟨v,d',e1,e2,rv⟩;{rw[e1]at hv;cases hv};rw[e2]at hv;cases hv;exact .inr ⟨a,v,rfl,by rw[<-e1];exact gr.k (s _ _ ha),aZ.sc q s hz rv⟩
 have h2':=h2;cases h2' with
 |lst _ _=>
  cases w with
  |int i=>have h:aq (atK _ i) (P .sh):=h;rw[qz,<-aR]at h;exact dflt h
  |_=>exact dflt h
 |tup _ _=>
  cases w with
  |int i=>have h:aq (atK _ i) (P .sh):=h;rw[qz,<-aR]at h;exact dflt h
  |_=>exact dflt h
 |dk _ rk=>
  cases rk with
  |nil=>exact alt _ rfl h
  |@cons k _ _ _ _ _ _=>cases k<;>exact alt _ rfl h
 |exc _ _=>exact alt _ rfl h
 |dt _ _=>
  cases w with
  |tuple ks=>obtain⟨hk,d,hv,hz⟩:=h;obtain⟨k,rfl⟩:=jz hk;obtain⟨b,rfl,hb⟩:=qI h1;obtain⟨a,es,e,ha,rt⟩:=zJ h2;cases e;rcases rt.val (k:=k)with⟨e1,e2⟩|⟨v,d',e1,e2,rv⟩;{rw[e1]at hv;cases hv};rw[e2]at hv;cases hv;exact .inr ⟨_,v,rfl,by rw[<-e1];exact gr.t (s _ _ ha) (s _ _ hb),aZ.sc q s hz rv⟩
  |_=>exact alt _ rfl h
 |_=>exact dflt h
def gc:DR:=λds P=>match ds with
 |[.dict kvs]=>kE kvs=true/\P .sh (.int kvs.length)
 |ds=>Cf ds P
def Cq:bU K gc λxs H Q=>(∃p ys,xs=[.ref p]/\(bD K H p ys\/bG K H p ys)/\Q (.int ys.length) H)\/∃a kvs,xs=[V.ref a]/\H a=some (.dK kvs)/\Q (.int kvs.length) H:=by intro H Hm vs ds P Q s r h q;unfold gc at h;split at h;{obtain⟨x,rfl,h1⟩:=cI r;obtain⟨a,es,rfl,ha,rt⟩:=oW h1 h.1;exact .inr ⟨a,es,rfl,s _ _ ha,by rw[rt.len];exact aZ.sc q s h.2 (.int _)⟩};exact .inl (El H Hm _ _ P Q s r h q)
def Rl.Bj{F:Nat->QS}(R:Rl K g E U H Hm F){i:Nat}{a:Addr}(e:E[i]?=some (some (k,d)))(hF:F i=[a])(hv:U[i]?=some (some (.ref a)))(new:Own K (upd H a o) Hm k (.ref a) d' [a])(nt:nH o)(hp:k=.ow true->∃ds,d'=.list ds) : Rl K g (E.set i (some (k,d'))) U (upd H a o) Hm F:=by
 have ma:a∈F i:=by rw[hF];exact M7
 have na:=R.off i a ma;have up:∀b,b≠a->upd H a o b=H b:=λb hb=>ai hb;have li:=aF e;exact {
  len:=by rw[MY];exact R.len
  sub:=λb u hb=>by
   have:b≠a:=λz=>by rw[z,na]at hb;cases hb
   rw[up b this];exact R.sub b u hb
  slot:=λj k' d'' e'=>by
   by_cases c:j=i
   .subst c;rw[ao li]at e';cases e';exact⟨_,hv,by rw[hF];exact new⟩
   .rw[ah (Ne.symm c)]at e';obtain⟨u,g1,g2⟩:=R.slot j k' d'' e';refine⟨u,g1,g2.step (af.refl _) λb hb=>up b λz=>c (R.aM j i a (z▸hb) ma)⟩
  off:=R.off
  aX:=λj b hb=>by
   by_cases c:b=a
   .rw[c];exact⟨_,aB,nt⟩
   .rw[up b c];exact R.aX j b hb
  aM:=R.aM
  fr:=λq u hq ho=>by
   have:q≠a:=λz=>by
    rcases R.new i a ma with y|y
    .exact hq (z▸y)
    .rw[z,y]at ho;cases ho
   rw[up q this];exact R.fr q u hq ho
  new:=R.new
  pin:=λq hq=>by
   obtain⟨g1,ds',g2⟩:=R.pin q hq
   by_cases c:i=q.1
   .rw[<-c]at g1 g2⊢;rw[e]at g2;cases g2;obtain⟨ds,rfl⟩:=hp rfl;exact⟨g1,ds,ao li⟩
   .exact⟨g1,ds',by rw[ah c];exact g2⟩
  old:=R.old }
def DH:xu:=λo i v H Q=>DP o i v H Q\/∃a H',o=.ref a/\lX H a i v H'/\Q H'
def Js(hu:X.A.units+64<cLine):BU X DH:=by intro pins s U H o i v ov iv u Q I ro ri rv h;rcases h with h|⟨a,H',rfl,g,q⟩;{exact set_list pins s U H o i v ov iv u Q I ro ri rv h};cases ro;exact An (by lia) I g ri rv λs' I'=>⟨H',I',q⟩
def FN{F:Nat->QS}{i:Nat}(R:Rl K g E U H Hm F)(ho:U[i]?=some (some o))(rw':Rp K Hm wv w)(rv:Rp K Hm vv v)(h:jS.setI E i w v Qe)(q:∀E' H',Qe E'->Rl K g E' U H' Hm F->Q H'):DH o wv vv H Q:=by
 unfold jS.setI at h;split at h
 .rename_i p ds a e;rw[<-aR,u9]at h;obtain⟨n,hn,h⟩:=h;cases rw';obtain⟨v',h1,h2⟩:=R.slot i _ _ e;rw[ho]at h1;cases h1;generalize hfi:F i=fi at h2;cases h2 with
  |@ow _ b xs _ ha hr=>refine .inl ⟨b,xs,a,n,rfl,rfl,ha,by rw[hr.len];exact hn,q _ _ h ?_⟩;exact R.Bj e hfi ho (.ow aB (hr.set rv n)) jE λ_=>⟨_,rfl⟩
 .rename_i p kvs _ e;obtain⟨⟨hk,hl⟩,h⟩:=h;obtain⟨k,rfl⟩:=m6 hk;cases pC rw';obtain⟨v',h1,h2⟩:=R.slot i _ _ e;rw[ho]at h1;cases h1;generalize hfi:F i=fi at h2;cases h2 with
  |@dk _ b es _ ha hr=>refine .inr ⟨b,_,rfl,lX.k ha (by rw[hr.len];exact hl),q _ _ h ?_⟩;exact R.Bj e hfi ho (.dk aB (hr.put k rv)) sd λz=>by cases z
 .rename_i p kv kvs ks e;obtain⟨⟨hk,hl⟩,h⟩:=h;obtain⟨k,rfl⟩:=jz hk;obtain⟨c,rfl,hc⟩:=qI rw';obtain⟨v',h1,h2⟩:=R.slot i _ _ e;rw[ho]at h1;cases h1;generalize hfi:F i=fi at h2;cases h2 with
  |@dt _ b es _ ha hr=>refine .inr ⟨b,_,rfl,lX.t ha (R.sub _ _ hc) (by rw[hr.len];exact hl),q _ _ h ?_⟩;exact R.Bj e hfi ho (.dt aB (hr.put k rv)) sf λz=>by cases z
 exact h.elim
def JB{i jx:Nat}(hu:X.A.units+64<cLine)(hv:PE X (.Name x p) (kW jx))(hj:(aJ X)[jx]?=some i)(hs:swapsWithSole [.Subscript (.Name x p) j pos'] e pos.line X.env=pure false)
  (ha:∀v,assign (.Subscript (.Name x p) j pos') X.env v=(do
   let ov <-holding [v] (eval (.Name x p) X.env)
   let iv <-holding [v,ov] (eval j X.env)
   standAt pos'
   holding [v,ov,iv] (setItem ov iv v)
   release [v,ov,iv] []))(hd:SE X Ex (aJ X) e de)(hd2:SE X Ex (aJ X) j dj):S1 X Ex (.Assign [.Subscript (.Name x p) j pos'] e pos) (jS i dj de):=by
 intro g D' E U H Hm F D hx R pp nx rt;refine WS.of (y9 bz (G3 hv bz (Js hu) ha) hs) (hd g D'.xc E U H Hm F _ _ hx R pp λE1 k v u H1 Hm1 F1 fp p1 R1 s1 T=>?_)
 replace p1:bK k.fz _:=p1
 rw[bY,bY]at p1;obtain⟨hk,hh,p1⟩:=p1;obtain⟨Hm2,s2,R2,r2⟩:=T.d7 R1 hk;obtain⟨o,ho⟩:=jC R2 hh;refine⟨o,b6 hj ho,hd2 g D'.xc E1 U H1 Hm2 F1 _ _ hx R2 p1 λE3 k3 v3 u3 H3 Hm3 F3 fp3 p3 R3 s3 T3=>?_⟩
 replace p3:bK k3.fz _:=p3
 rw[bY]at p3;obtain⟨hk3,p3⟩:=p3;obtain⟨Hm4,s4,R4,r4⟩:=T3.d7 R3 hk3;exact FN R4 ho r4 (r2.mono (s3.trans s4)) p3 λE' H' q R'=>nx _ _ _ _ _ q R' (s1.trans (s2.trans (s3.trans s4)))
end
def ini:QT->QM->En
 |true::ms,d::ds=>some (.ow true,d)::ini ms ds
 |false::ms,d::ds=>some (.sh,d)::ini ms ds
 |_,_=>[]
def dU:QT->En->Option (QM)
 |[],_=>some []
 |true::ms,some (.ow true,.list es)::E=>(dU ms E).map (.list es::·)
 |false::ms,_::E=>dU ms E
 |_,_=>none
def dZ:QT->Nat->QS->List (Nat×Addr)
 |true::ms,n,a::as=>(n,a)::dZ ms (n+1) as
 |false::ms,n,as=>dZ ms (n+1) as
 |_,_,_=>[]
def eZ:QT->QS->List (QS)
 |true::ms,a::as=>[a]::eZ ms as
 |false::ms,as=>[]::eZ ms as
 |_,_=>[]
section
variable{K:Frag}{H Hm:Hp}
def Ag.uy(h:Ag K H Hm ms vs ds as):vs.length=ms.length:=by
 induction h with
 |nil=>rfl
 |sh _ _ ih=>rw[MW,MW,ih]
 |mu _ _ _ _ _ ih=>rw[MW,MW,ih]
def Ag.Lq(h:Ag K H Hm ms vs ds as):(ini ms ds).length=vs.length:=by
 induction h with
 |nil=>rfl
 |sh _ _ ih=>rw[ini,MW,MW,ih]
 |mu _ _ _ _ _ ih=>rw[ini,MW,MW,ih]
def Ag.pins(h:Ag K H Hm ms vs ds as):∀n,(dZ ms n as).map (·.2)=as:=by
 induction h with
 |nil=>exact λ_=>rfl
 |sh _ _ ih=>exact λn=>ih (n+1)
 |@mu _ _ _ _ a _ _ _ _ _ _ _ ih=>exact λn=>congrArg (a::·) (ih (n+1))
def Ag.slot(h:Ag K H Hm ms vs ds as):∀{i:Nat}{k:Kd}{d:PyData},(ini ms ds)[i]?=some (some (k,d))->∃v,vs[i]?=some v/\Own K H Hm k v d ((eZ ms as)[i]?.getD []):=by
 induction h with
 |nil=>intro i k d e;simp[ini]at e
 |@sh ms vs ds as v d r _ ih=>
  intro i k d' e;rw[ini]at e;cases i with
  |zero=>cases e;exact⟨v,rfl,.sh r⟩
  |succ i=>exact ih e
 |@mu ms vs ds as a xs es h1 h2 h3 h4 _ ih=>
  intro i k d' e;rw[ini]at e;cases i with
  |zero=>cases e;exact⟨_,rfl,.ow h1 h2⟩
  |succ i=>exact ih e
def Ag.Dp(h:Ag K H Hm ms vs ds as):(∀(i:Nat) a,a∈(eZ ms as)[i]?.getD []->a∈as/\Hm a=none/\∃xs,H a=some (.lst xs))/\∀(i j:Nat) a,a∈(eZ ms as)[i]?.getD []->a∈(eZ ms as)[j]?.getD []->i=j:=by
 induction h with
 |nil=>exact⟨λi a h=>by simp[eZ]at h,λi j a h=>by simp[eZ]at h⟩
 |@sh ms vs ds as v d r _ ih=>
  refine⟨λi a h=>?_,λi j a h1 h2=>?_⟩
  .rw[eZ]at h;cases i with
   |zero=>simp at h
   |succ i=>exact ih.1 i a h
  rw[eZ]at h1 h2;cases i with
  |zero=>simp at h1
  |succ i=>
   cases j with
   |zero=>simp at h2
   |succ j=>exact congrArg (·+1) (ih.2 i j a h1 h2)
 |@mu ms vs ds as a xs es g1 g2 g3 g4 _ ih=>
  refine⟨λi b h=>?_,λi j b h1 h2=>?_⟩
  .rw[eZ]at h;cases i with
   |zero=>have h:b∈[a]:=h;rw[MR]at h;subst h;exact⟨M7,g3,xs,g1⟩
   |succ i=>obtain⟨y1,y2⟩:=ih.1 i b h;exact⟨MC _ y1,y2⟩
  rw[eZ]at h1 h2;cases i with
  |zero=>
   have h1:b∈[a]:=h1;rw[MR]at h1;subst h1;cases j with
   |zero=>rfl
   |succ j=>exact absurd (ih.1 j b h2).1 g4
  |succ i=>
   cases j with
   |zero=>have h2:b∈[a]:=h2;rw[MR]at h2;subst h2;exact absurd (ih.1 i b h1).1 g4
   |succ j=>exact congrArg (·+1) (ih.2 i j b h1 h2)
def Ag.pin(h:Ag K H Hm ms vs ds as):∀n,∀q∈dZ ms n as,∃i,q.1=n+i/\vs[i]?=some (.ref q.2)/\∃es,(ini ms ds)[i]?=some (some (.ow true,.list es)):=by
 induction h with
 |nil=>exact λn q h=>by cases h
 |@sh ms vs ds as v d r _ ih=>intro n q h;obtain⟨i,e,h1,h2⟩:=ih (n+1) q h;exact⟨i+1,by lia,h1,h2⟩
 |@mu ms vs ds as a xs es g1 g2 g3 g4 _ ih=>intro n q h;have h:q∈(n,a)::dZ ms (n+1) as:=h;rcases MH.mp h with rfl|h;{exact⟨0,rfl,rfl,es,rfl⟩};obtain⟨i,e,h1,h2⟩:=ih (n+1) q h;exact⟨i+1,by lia,h1,h2⟩
def Ag.back{H' Hm':Hp}{E:En}(h:Ag K H Hm ms vs ds as):∀{n:Nat}{us:QM},(∀q∈dZ ms n as,∃es xs,E[q.1]?=some (some (.ow true,.list es))/\H' q.2=some (.lst xs)/\ak K Hm' xs es/\Hm' q.2=none)->dU ms (E.drop n)=some us->Bk K H' Hm' as us:=by
 induction h with
 |nil=>intro n us _ e;cases e;exact .nil
 |@sh ms vs ds as v d r _ ih=>
  intro n us hq e;cases hE:E.drop n with
  |nil=>rw[hE]at e;cases e
  |cons o E'=>rw[hE]at e;refine ih (n:=n+1) hq ?_;rw[show E.drop (n+1)=E' from by rw[<-List.tail_drop,hE];rfl];exact e
 |@mu ms vs ds as a xs es g1 g2 g3 g4 _ ih=>
  intro n us hq e;obtain⟨es',xs',e1,e2,e3,e4⟩:=hq (n,a) M7;cases hE:E.drop n with
  |nil=>rw[hE]at e;cases e
  |cons o E'=>
   have ho:o=some (.ow true,.list es'):=by have:=Px (xs:=E) (i:=n) (j:=0);rw[hE,P1]at this;have e1:E[n]?=_:=e1;rw[e1]at this;exact Option.some.inj this
   subst ho;rw[hE]at e;have e:(dU ms E').map (PyData.list es'::·)=some us:=e;cases hb:dU ms E' with
   |none=>rw[hb]at e;cases e
   |some us'=>rw[hb]at e;cases e;refine .cons e2 e3 e4 (ih (n:=n+1) (λq hq'=>hq q (MC _ hq')) ?_);rw[show E.drop (n+1)=E' from by rw[<-List.tail_drop,hE];rfl];exact hb
def zk{n:Nat}(h:n<=U.length):sel (List.range n) U=U.take n:=by
 refine Nc λi=>?_;unfold sel;rw[MQ,List.getElem?_take];by_cases c:i<n
 .rw[NN c,if_pos c];have l:i<U.length:=by lia
  rw[MP l];show some ((U[i]?).join)=some U[i];rw[MP l];rfl
 rw[if_neg c,Mk (by rw[MT];lia)];rfl
def Ag.rl(h:Ag K H Hm ms vs ds as)(s:af Hm H) (m:Nat):Rl K ⟨H,Hm,dZ ms 0 as⟩ (ini ms ds++List.replicate m none) (vs.map some++List.replicate m none) H Hm (λi=>(eZ ms as)[i]?.getD []):=by
 have hM:Gh.M ⟨H,Hm,dZ ms 0 as⟩=as:=h.pins 0;have inE:∀{i:Nat}{k:Kd}{d:PyData},(ini ms ds++List.replicate m none)[i]?=some (some (k,d))->(ini ms ds)[i]?=some (some (k,d)):=λ{i k d} e=>by rcases Mv i (ini ms ds).length with l|l;{rwa[NW l]at e};rw[NJ l]at e;have:=Ma e;have:=List.eq_of_mem_replicate this;cases this
 have inV:∀{i:Nat}{v:V},vs[i]?=some v->(vs.map some++List.replicate m none)[i]?=some (some v):=λ{i v} e=>by have l:=aF e;rw[NW (by rw[M9];exact l),MQ,e];rfl
 exact {
  len:=by rw[MV,MV,h.Lq,M9,N5,N5]
  sub:=s
  slot:=λi k d e=>by
   obtain⟨v,h1,h2⟩:=h.slot (inE e);exact⟨v,inV h1,h2⟩
  off:=λi a ha=>(h.Dp.1 i a ha).2.1
  aX:=λi a ha=>by
   obtain⟨_,_,xs,e⟩:=h.Dp.1 i a ha;exact⟨_,e,jE⟩
  aM:=λi j a h1 h2=>h.Dp.2 i j a h1 h2
  fr:=λp o _ e=>e
  new:=λi a ha=>.inl (by rw[hM];exact(h.Dp.1 i a ha).1)
  pin:=λq hq=>by
   obtain⟨i,e,h1,es,h2⟩:=h.pin 0 q hq;rw[NU]at e;rw[e];refine⟨inV h1,es,?_⟩;rw[NW (aF h2)];exact h2
  old:=λ_ _=>.inl rfl }
end
section
variable{P:Program}{w:World}{K:Frag}{mg:QE}{base:Heap}
def bT(ms:QT)(Q:QM->Kd->PyData->Prop)(x:XC):eB where
 nx:=λE=>aq (dU ms E) λus=>Q us .sh .none
 rt:=λE k v=>aq (dU ms E) λus=>Q us k v
 xc:=x
def cV{f:Addr}{N ps:QY}{k:Nat}{ms:QT}{sp:cy}{d:DS}{m:Nat}(F:qg K x qual st f fd)(S:bA N ps (aA st))(hl:ms.length=ps.length)(hm:N.length<=ps.length+m)(hb:∀(cdv:Value)(A:Around)(outer:List Env)(s:Shared)(H:Hp)(Ex:XK),b8 k (A.deeper (PyProof.Rows.envOfC qual (aA st) s.heap.objs.size f cdv))->SS (fK (dP P w) P w K mg base N qual (aA st) f cdv A outer s H Ex) Ex (fZ st) d)(hd:∀(ds:QM)(Q:QM->Kd->PyData->Prop)(x:XC),sp ds Q x->d (bT ms Q x) (ini ms ds++List.replicate m none)):eT P w K mg base (dP P w) (k+1) f fd ps (c9 mg K ms sp):=by
 refine F.Lv S (λvs H Q E h=>?_) (λcdv A outer s H vs Q E hr h=>?_);{obtain⟨ds,as,Hm,P',x,_,ag,_⟩:=h;rw[ag.uy,hl]};obtain⟨ds,as,Hm,P',xc,sm,ag,hsp,ret,exn⟩:=h;refine⟨_,fu,?_⟩;have R:=ag.rl sm m;have hpre:N.length >= vs.length:=by rw[ag.uy,hl];have:=congrArg List.length S.pre;rw[Mz]at this;lia
 have hsel:L2.start N vs=sel (List.range N.length) (vs.map some++List.replicate m none):=by
  have hv:vs.length=ps.length:=by rw[ag.uy,hl]
  rw[zk (by rw[MV,M9,N5];lia)];unfold L2.start;rw[List.take_append,M9,O1 (by rw[M9];exact hpre),List.take_replicate];congr 2;lia
 rw[hsel];have hM:Gh.M ⟨H,Hm,dZ ms 0 as⟩=as:=ag.pins 0;have fin:∀{E':En}{k:Kd}{v:PyData}{u:V}{σ':St}{H' Hm':Hp}{F':Nat->QS}{fp:QS},(aq (dU ms E') λus=>P' us k v)->Rl K ⟨H,Hm,dZ ms 0 as⟩ E' σ' H' Hm' F'->Tm K ⟨H,Hm,dZ ms 0 as⟩ F' H' Hm' k u v fp->Q u H':=by
  intro E' k v u σ' H' Hm' F' fp p R' T;rw[<-aR]at p;obtain⟨us,hus,p⟩:=p;refine ret us k v u H' Hm' fp p (λa o e=>?_) R'.sub (λp o hp e=>R'.fr p o (by rw[hM];exact hp) e) (λa _ ha=>R'.old a ha) ?_ T.own λa ha=>⟨T.new a ha,T.off a ha⟩
  .have:H a≠none:=λz=>by rw[sm _ _ e]at z;cases z
   rcases R'.old a this with e'|⟨e',_⟩;{exact e'.trans e};have e':Hm a=none:=e';rw[e]at e';cases e'
  refine ag.back (E:=E') (n:=0) (λq hq=>?_) (by rw[OV];exact hus);obtain⟨h1,es,h2⟩:=R'.pin q hq;obtain⟨v',h3,h4⟩:=R'.slot _ _ _ h2;have hF:=R'.yd hq;rw[h1]at h3;cases h3;rw[hF]at h4;cases h4 with
  |ow e1 e2=>exact⟨es,_,h2,e1,e2,R'.off q.1 q.2 (by rw[hF];exact M7)⟩
 refine hb cdv A outer s H E hr ⟨H,Hm,dZ ms 0 as⟩ (bT ms P' xc) _ _ H Hm _ _ (λc d' C a H' hC hx fr ha hn=>exn c d' C a H' hC hx (λp o hp ho=>fr p o (by rw[hM];exact hp) ho) ha hn) R (hd ds P' xc hsp) (λE' σ' H' Hm' F' p R' _=>?_) (λE' k v u σ' H' Hm' F' fp p R' T=>fin p R' T);exact fin (k:=.sh) (v:=.none) (u:=.aN) p R' (Tm.sh .aN)
end
section
variable{X:Cx}{Ex:XK}{Y:QW}
def xI{i:Int} {j}:SE X Ex Y (.Constant (.int i) j pos) (dC (.int i)):=BJ AG λ_=>.int i
def xB{b:Bool} {j}:SE X Ex Y (.Constant (.bool b) j pos) (dC (.bool b)):=BJ CY λ_=>.bl b
def xN{j}:SE X Ex Y (.Constant .none j pos) (dC .none):=BJ GS λ_=>.aN
def xV(j:Nat){i:Nat}(hN:X.N[j]?=some x:=by rfl)(hv:iA X.env.scope x:=by first|exact Or.inl rfl|exact Or.inr (Or.inl rfl)|exact Or.inr (Or.inr rfl))(hj:Y[j]?=some i:=by rfl)(hd:(x==("__debug__":Str))=false:=by decide)(hcd:(x==("__classdict__":Str))=false:=by decide):SE X Ex Y (.Name x pos) (eg i):=IP (dY hN hv hd hcd) hj
def a0:aH X Ex Y [] []:=.nil
def aP(j:Nat){i:Nat}(S:aH X Ex Y es as)(hN:X.N[j]?=some x:=by rfl)(hv:iA X.env.scope x:=by first|exact Or.inl rfl|exact Or.inr (Or.inl rfl)|exact Or.inr (Or.inr rfl))(hj:Y[j]?=some i:=by rfl)(hd:(x==("__debug__":Str))=false:=by decide)(hcd:(x==("__classdict__":Str))=false:=by decide):aH X Ex Y (.Name x pos::es) (.pk i::as):=.pk (dY hN hv hd hcd) hj S
def aE(h:SE X Ex Y e d)(S:aH X Ex Y es as):aH X Ex Y (e::es) (.ev d::as):=.ev h S
def i8:DR:=k9 λi j=>.int (i-j)
def iH:DR:=sN (λ_ j=>0<j) λi j=>.int (i%j)
def qX:DR:=sN xC λi j=>.int (i/j)
def uB:DR:=sN yD λi j=>.int (i^j.toNat)
def CM:DR:=k9 λi j=>.bool (decide (i<j))
def LC:DR:=k9 λi j=>.bool (decide (i<=j))
def CW:DR:=k9 λi j=>.bool (decide (j<i))
def IL:DR:=k9 λi j=>.bool (decide (j<=i))
def oQ:DR:=λds P=>match ds with
 |[.int a]=>P .sh (.int (-a))
 |_=>False
def ET:bU K oQ (r1 (rU λi=>.int (-i))):=by intro H Hm vs ds P Q s r h q;unfold oQ at h;split at h;{obtain⟨x,rfl,h1⟩:=cI r;cases h1;exact⟨_,rfl,aZ.sc q s h (.int _)⟩};exact h.elim
variable{a b:Expr}{pos:Pos}{as:List Arg}
def je(S:aH X Ex Y [a,b] as):SE X Ex Y (.BinOp a .Add b pos) (aa fE as):=ko Ff Ej S
def oM(S:aH X Ex Y [a,b] as):SE X Ex Y (.BinOp a .Sub b pos) (aa i8 as):=ko Gi (kU λ_ _ _=>.int _) S
def oU(S:aH X Ex Y [a,b] as):SE X Ex Y (.BinOp a .Mult b pos) (aa iJ as):=ko Ef Ep S
def jQ(S:aH X Ex Y [a,b] as):SE X Ex Y (.BinOp a .Mod b pos) (aa iH as):=ko GO (qB λ_ _ _=>.int _) S
def yl(S:aH X Ex Y [a,b] as):SE X Ex Y (.BinOp a .FloorDiv b pos) (aa qX as):=ko B0 (qB λ_ _ _=>.int _) S
def Bw(S:aH X Ex Y [a,b] as):SE X Ex Y (.BinOp a .Pow b pos) (aa uB as):=ko IA (qB λ_ _ _=>.int _) S
def BK(S:aH X Ex Y [a] as):SE X Ex Y (.UnaryOp .USub a pos) (aa oQ as):=JD GD ET S
def KC(hu:X.A.units+64<cLine)(S:aH X Ex Y [a,b] as):SE X Ex Y (.Compare a [.Eq] [b] pos) (aa l7 as):=Ge (Aq hu) (ig _) AH S
def Ko(S:aH X Ex Y [a,b] as):bP X Ex Y (.Compare a [.Lt] [b] pos) (aa CM as):=ff DL (ig _) (kU λ_ _ _=>.bl _) S
def Kr(S:aH X Ex Y [a,b] as):bP X Ex Y (.Compare a [.Gt] [b] pos) (aa CW as):=ff JX (ig _) (kU λ_ _ _=>.bl _) S
def LU(S:aH X Ex Y [a,b] as):bP X Ex Y (.Compare a [.GtE] [b] pos) (aa IL as):=ff Jf (ig _) (kU λ_ _ _=>.bl _) S
def Kw(hu:X.A.units+64<cLine)(S:aH X Ex Y [a,b] as):bP X Ex Y (.Compare a [.Eq] [b] pos) (aa l7 as):=ff (Aq hu) (ig _) AH S
def we(hu:X.A.units+64<cLine)(S:aH X Ex Y [a,b] as):bP X Ex Y (.Compare a [.NotEq] [b] pos) (aa lI as):=ff (HN hu) (ig _) Ia S
def xO(S:aH X Ex Y [a,b] as):bP X Ex Y (.Compare a [.IsNot] [b] pos) (aa (dQ true) as):=ff EZ (ig _) A4 S
def LA(hu:X.A.units+64<cLine)(S:aH X Ex Y [a,b] as)(hm:behindInMarks .In b=false:=by rfl):bP X Ex Y (.Compare a [.In] [b] pos) (aa (jX false) as):=ff (HQ hu) hm (wV false) S
def GZ(hu:X.A.units+64<cLine)(S:aH X Ex Y [a,b] as)(hm:behindInMarks .NotIn b=false:=by rfl):bP X Ex Y (.Compare a [.NotIn] [b] pos) (aa (jX true) as):=ff (zb hu) hm (wV true) S
def Dh(h:SE X Ex Y e d)(he:∀whole,isTrue e X.env whole=(do let v <-whole;standAt e.pos;holding [v] (truthy v)):=by intro _;rfl):bP X Ex Y e d:=h.rS he
def tV(j:Nat){i:Nat}(hN:X.N[j]?=some x:=by rfl)(hv:iA X.env.scope x:=by first|exact Or.inl rfl|exact Or.inr (Or.inl rfl)|exact Or.inr (Or.inr rfl))(hj:Y[j]?=some i:=by rfl)(hd:(x==("__debug__":Str))=false:=by decide)(hcd:(x==("__classdict__":Str))=false:=by decide):ST X Ex Y (.Name x pos) (CQ i):=Ld (dY hN hv hd hcd) hj λ_=>rfl
def bV(hu:X.A.units+64<cLine)(S:aH X Ex Y [a,b] as)(hs:ki b:=by intro _ _;rfl):SE X Ex Y (.Subscript a b pos) (aa bf as):=J8 (KU hu) hs D6 S
variable{p:Pos}
def qN(hm:X.mg "len"=none)(S:aH X Ex Y [a] as)(hg:Gl X "len":=by rfl)(ns:noStar a=true:=by rfl):SE X Ex Y (.Call (.Name "len" p) [a] [] pos) (aa gc as):=eV (ud.or zc) Cq hg hm PySem.boot_len (by decide) (by decide) (by rw[MG,ns];rfl) S
def DN(hm:X.mg "list"=none)(S:aH X Ex Y [a] as)(hg:Gl X "list":=by rfl)(ns:noStar a=true:=by rfl):SE X Ex Y (.Call (.Name "list" p) [a] [] pos) (aa lB as):=mz tF B7 hg hm Py (by decide) (by decide) (by rw[MG,ns];rfl) S
def Ao(hm:X.mg "tuple"=none)(S:aH X Ex Y [a] as)(hg:Gl X "tuple":=by rfl)(ns:noStar a=true:=by rfl):SE X Ex Y (.Call (.Name "tuple" p) [a] [] pos) (aa jt as):=mz sF Ah hg hm PyProof.Rows.boot_tuple (by decide) (by decide) (by rw[MG,ns];rfl) S
def Cb(hm:X.mg "min"=none)(S:aH X Ex Y [a,b] as)(hc:X.calm=true:=by rfl)(hg:Gl X "min":=by rfl)(ns:noStar a=true:=by rfl)(ns2:noStar b=true:=by rfl):SE X Ex Y (.Call (.Name "min" p) [a,b] [] pos) (aa pU as):=eV (z3 hc) Cw hg hm PyProof.Rows.boot_min (by decide) (by decide) (by rw[MG,MG,ns,ns2];rfl) S
def BF(hm:X.mg "max"=none)(S:aH X Ex Y [a,b] as)(hc:X.calm=true:=by rfl)(hg:Gl X "max":=by rfl)(ns:noStar a=true:=by rfl)(ns2:noStar b=true:=by rfl):SE X Ex Y (.Call (.Name "max" p) [a,b] [] pos) (aa pR as):=eV (AN hc) Cw hg hm PyProof.Rows.boot_max (by decide) (by decide) (by rw[MG,MG,ns,ns2];rfl) S
def Lm(hm:X.mg "abs"=none)(S:aH X Ex Y [a] as)(hg:Gl X "abs":=by rfl)(ns:noStar a=true:=by rfl):SE X Ex Y (.Call (.Name "abs" p) [a] [] pos) (aa u5 as):=eV Cd DX hg hm PyProof.Rows.boot_abs (by decide) (by decide) (by rw[MG,ns];rfl) S
def K7(hm:X.mg "int"=none)(S:aH X Ex Y [a] as)(hg:Gl X "int":=by rfl)(ns:noStar a=true:=by rfl):SE X Ex Y (.Call (.Name "int" p) [a] [] pos) (aa kq as):=mz zg zy hg hm PyProof.Rows.boot_int (by decide) (by decide) (by rw[MG,ns];rfl) S
def zB(hm:X.mg "sorted"=none)(S:aH X Ex Y [a] as)(hg:Gl X "sorted":=by rfl)(ns:noStar a=true:=by rfl):SE X Ex Y (.Call (.Name "sorted" p) [a] [] pos) (aa lQ as):=eV sX Ay hg hm Q0 (by decide) (by decide) (by rw[MG,ns];rfl) S
def Gj(hm:X.mg "sorted"=none)(S:aH X Ex Y [a] as)(hg:Gl X "sorted":=by rfl)(ns:noStar a=true:=by rfl):SE X Ex Y (.Call (.Name "sorted" p) [a] [] pos) (aa pY as):=eV tM Ad hg hm Q0 (by decide) (by decide) (by rw[MG,ns];rfl) S
def qu(h1:X.mg "list"=none)(h2:X.mg "range"=none)(S:aH X Ex Y [a] as)(hc:X.calm=true:=by rfl)(g1:Gl X "list":=by rfl)(g2:Gl X "range":=by rfl)(ns:noStar a=true:=by rfl):SE X Ex Y (.Call (.Name "list" p) [.Call (.Name "range" p2) [a] [] pos2] [] pos) (aa gu as):=Bo hc g1 h1 g2 h2 ns S
def fV(S:aH X Ex Y es as)(ns:es.all noStar=true:=by rfl):SE X Ex Y (.List es pos) (aa dR as):=Ig ns S
def jd{k:Nat}(S:aH X Ex Y es as)(ns:es.all noStar=true:=by rfl):SE X Ex Y (.Tuple es k pos) (aa eN as):=Ht ns S
variable{tg:Expr}
def wQ(hm:X.mg "range"=none)(S:aH X Ex Y [a] as)(hg:Gl X "range":=by rfl)(ns:noStar a=true:=by rfl):SI X Ex Y tg (.Call (.Name "range" p) [a] [] pos) (lJ nU as):=Jj hg hm ns S
def LS(hm:X.mg "range"=none)(S:aH X Ex Y [a,b] as)(hg:Gl X "range":=by rfl)(ns:noStar a=true:=by rfl)(ns2:noStar b=true:=by rfl):SI X Ex Y tg (.Call (.Name "range" p) [a,b] [] pos) (lJ yT as):=Jc hg hm ns ns2 S
def Lc{x1:Nat}(hm:X.mg "enumerate"=none)(h:SE X Ex Y a d)(hg:Gl X "enumerate":=by rfl)(ns:noStar a=true:=by rfl):SI X Ex Y (.Tuple elts x1 tp) (.Call (.Name "enumerate" p) [a] [] pos) (w4 d):=J9 hg hm ns h
def gN(j:Nat){i:Nat}(hN:X.N[j]?=some x:=by rfl)(hj:Y[j]?=some i:=by rfl)(hl:Loc X.env.scope x:=by first|exact Or.inl rfl|exact Or.inr rfl)(hf:X.fn x=true\/X.env.scope.names.lookup x=some .local:=by first|exact Or.inl rfl|exact Or.inr rfl):eL X Y (.Name x p) (.nm i):=.nm hN hj hl hf
def g0:jf X Y [] []:=.nil
def gC(j:Nat){i:Nat}(t:jf X Y ts is)(hN:X.N[j]?=some x:=by rfl)(hj:Y[j]?=some i:=by rfl)(hl:Loc X.env.scope x:=by first|exact Or.inl rfl|exact Or.inr rfl)(hf:X.fn x=true\/X.env.scope.names.lookup x=some .local:=by first|exact Or.inl rfl|exact Or.inr rfl):jf X Y (.Name x p::ts) (i::is):=.cons hN hj hl hf t
def gT{k:Nat}(t:jf X Y ts is):eL X Y (.Tuple ts k p) (.tp is):=.tp t
def sI:Passes (dP X.prog X.w) X E0:=by rintro pins U H s e s' I⟨_,_,_,_,_,_,_,_,_,_,_,_,_,_,z⟩;exact z.elim
def bg{k k':Nat}(F:cO X.prog X.w X.K X.mg X.base k x ps (c9 X.mg X.K ms sp))(hp:Passes (dP X.prog X.w) X Ex)(hr:b8 k' X.A)(S:aH X Ex Y (e::es) as)(hk:k<=k':=by decide)(hg:Gl X x:=by rfl)(hd:(x==("__debug__":Str))=false:=by decide)(ns:(e::es).all noStar=true:=by rfl):SE X Ex Y (.Call (.Name x p) (e::es) [] pos) (aU sp ms as):=E7 F hp (hr.mono hk) hg hd ns S
def dF(h:SE X Ex (aJ X) a d):S1 X Ex (.Return (some a) pos) (cH d):=Jz h
def sP(i:Nat)(hN:X.N[i]?=some x:=by rfl)(hv:iA X.env.scope x:=by first|exact Or.inl rfl|exact Or.inr (Or.inl rfl)|exact Or.inr (Or.inr rfl))(hd:(x==("__debug__":Str))=false:=by decide)(hcd:(x==("__classdict__":Str))=false:=by decide):S1 X Ex (.Return (some (.Name x p)) pos) (kR i):=IE (dY hN hv hd hcd) (aF hN)
def m7(h:SE X Ex (aJ X) a d)(hs:swapsWith a none pos.line X.env=pure false:=by rfl):S1 X Ex (.Expr a pos) (iV d):=IF h hs
def bL(i:Nat)(hN:X.N.Nodup)(h:SE X Ex (aJ X) a d)(hi:X.N[i]?=some x:=by rfl)(hl:Loc X.env.scope x:=by first|exact Or.inl rfl|exact Or.inr rfl)(hs:swapsWith a (some (.Name x p)) pos.line X.env=pure false:=by rfl)(hf:X.fn x=true\/X.env.scope.names.lookup x=some .local:=by first|exact Or.inl rfl|exact Or.inr rfl) : S1 X Ex (.Assign [.Name x p] a pos) (bu i d):=JG hN hi hl hs hf h
def Ba{k:Nat}(hN:X.N.Nodup)(ht:jf X (aJ X) ts is)(h:SE X Ex (aJ X) a d)(hc:X.calm=true:=by rfl)(hs:swapsWithSole [.Tuple ts k p] a pos.line X.env=pure false:=by rfl)(hw:swappedStores [.Tuple ts k p] a X.env=pure none:=by rfl):S1 X Ex (.Assign [.Tuple ts k p] a pos) (qS is d):=JT hc hN ht hs hw h
def B8(i:Nat)(hu:X.A.units+64<cLine)(hd:SE X Ex (aJ X) a de)(hd2:SE X Ex (aJ X) b dj)(hN:X.N[i]?=some x:=by rfl)(hv:iA X.env.scope x:=by first|exact Or.inl rfl|exact Or.inr (Or.inl rfl)|exact Or.inr (Or.inr rfl))(hs:swapsWithSole [.Subscript (.Name x p) b pos'] a pos.line X.env=pure false:=by rfl)
  (ha:∀v,assign (.Subscript (.Name x p) b pos') X.env v=(do
   let ov <-holding [v] (eval (.Name x p) X.env)
   let iv <-holding [v,ov] (eval b X.env)
   standAt pos'
   holding [v,ov,iv] (setItem ov iv v)
   release [v,ov,iv] []):=by intro _;rfl)(hb:(x==("__debug__":Str))=false:=by decide)(hcd:(x==("__classdict__":Str))=false:=by decide):S1 X Ex (.Assign [.Subscript (.Name x p) b pos'] a pos) (jS i dj de):=JB hu (dY hN hv hb hcd) (cR (aF hN)) hs ha hd hd2
def iT(hc:ST X Ex (aJ X) a t)(ha:SS X Ex u d)(hb:SS X Ex v e):S1 X Ex (.If a u v pos) (c7 t d e):=KP hc ha hb
def Gz(hp:PassesOwn (model X.prog X.w) X.A X.env X.xe)(hc:ST X Ex (aJ X) a t)(hb:SS X Ex u d):S1 X Ex (.While a u [] pos) (tw t d):=Eu hp hc hb
def lD(hp:PassesOwn (model X.prog X.w) X.A X.env X.xe)(hN:X.N.Nodup)(hi:SI X Ex (aJ X) tg a di)(ht:eL X (aJ X) tg t)(hb:SS X Ex u d)(hc:X.calm=true:=by rfl)(hs:∀x,foldedSetIterable a X.env x=pure x:=by intro _;rfl):S1 X Ex (.For tg a u [] pos) (gW di t d):=JH hp hc hN hi ht hb hs
end
section
variable{X:Cx}{Ex:XK}{Y:QW}
def e0:nG X Ex Y [] []:=.nil
def eC(h:SE X Ex Y e d)(t:nG X Ex Y es ds):nG X Ex Y (e::es) (d::ds):=.cons h t
def xM(j:Nat){i:Nat}{x name:Str}{id:String}{p apos cpos:Pos}{es:QU}{ds:List DE}{f:DM}{r:V->List V->Hp->VK->Prop}(hm:qc X id r)(D:wY X.K f r)(slot:Slot "list" name id)(hty:typeOf (.builtin id)=pure (.type "method_descriptor"))(S:nG X Ex Y es ds)(hN:X.N[j]?=some x:=by rfl)(hv:iA X.env.scope x:=by first|exact Or.inl rfl|exact Or.inr (Or.inl rfl)|exact Or.inr (Or.inr rfl))(hj:Y[j]?=some i:=by rfl)(ns:es.all noStar=true:=by rfl)(l30:decide (es.length<30)=true:=by rfl)(hline:(apos.endLine==cpos.line)=true:=by rfl)(hd:(x==("__debug__":Str))=false:=by decide)(hcd:(x==("__classdict__":Str))=false:=by decide):SE X Ex Y (.Call (.Attribute (.Name x p) name apos) es [] cpos) (uo f i ds):=JZ hm D slot hty (dY hN hv hd hcd) hj ns (MU l30) hline S
def jg:QW->Bool
 |[]=>true
 |a::r=>!r.contains a&&jg r
theorem f9:∀{l:QW},jg l=true->l.Nodup
 |[],_=>List.nodup_nil
 |a::r,h=>by rw[jg,MA,Ob,OJ,PD]at h;exact N4.mpr ⟨h.1,f9 h.2⟩
def qZ(Y cs ix:QW)(vs:QY)(sl:QW):Bool:=(cs.length==vs.length)&&ix.all (λi=>Nat.blt i Y.length)&&cs.all (λc=>!Y.contains c)&&jg (bx Y cs ix)&&sl.all (λi=>cs.contains i)
def qk(h:qZ Y cs ix vs sl=true):cs.length=vs.length/\(∀i∈ix,i<Y.length)/\(∀c∈cs,c∉Y)/\(bx Y cs ix).Nodup/\∀i∈sl,i∈cs:=by unfold qZ at h;rw[MA,MA,MA,MA,MI,MI,MI,beq_iff_eq]at h;obtain⟨⟨⟨⟨h1,h2⟩,h3⟩,h4⟩,h5⟩:=h;refine⟨h1,λi hi=>by simpa using h2 i hi,λc hc z=>?_,f9 h4,λi hi=>?_⟩;{have:=h3 c hc;rw[Ob,OJ,PD]at this;exact this z};have:=h5 i hi;rw[OJ,ND]at this;exact this
def HF(r:QD):Bool:=r.all λg=>g.is_async==0
def z6(h:HF r=true):∀g∈r,g.is_async=0:=λg hg=>by have:=MI.mp h g hg;simpa using this
variable{cs:QW}{elt tg iter:Expr}{ifs:QU}{scope:Scope}{pos:Pos}
def mC{rest:QD}{vs NB:QY}{ix:QW}{di:DI}{t:Tg}{c:DT}{r:DC}(B:kC X.N X.env.scope scope vs NB ix=true)(hi:SI X Ex Y tg iter di)(ht:∀(C:Addr)(s:Shared)(H:Hp)(fp:QS),eL (X.block scope C NB s H fp) (bx Y cs ix) tg t)(hif:∀(C:Addr)(s:Shared)(H:Hp)(fp:QS),gM (X.block scope C NB s H fp) E0 (bx Y cs ix) ifs c)(hr:∀(C:Addr)(s:Shared)(H:Hp)(fp:QS)(D:Addr),SL (X.block scope C NB s H fp) (bx Y cs ix) cs D elt (⟨tg,iter,ifs,0⟩::rest) scope pos 1 r)(hc:X.calm=true:=by rfl)(ck:qZ Y cs ix vs t.slots=true:=by rfl)(ha:HF rest=true:=by rfl)(hs:∀v,foldedSetIterable iter X.env v=pure v:=by intro _;rfl):SE X Ex Y (.ListComp elt (⟨tg,iter,ifs,0⟩::rest) scope pos) (cW cs di t c r):=
 let⟨h1,h2,h3,h4,h5⟩:=qk ck
 GY (bQ.of B) hc h1 h2 h3 h4 hi ht h5 hif hr (z6 ha) hs
def rj(N:QY)(fs scope:Scope) (x:Str)(vs NB:QY)(ix:QW):Bool:=
 decide (scope.kind=.function)&&scope.names.all (λy=>decide (y.2≠.cell)||decide (y.1=x))&&scope.names.all (λy=>decide (y.2≠.local)||decide (scope.names.lookup y.1=some .local)) &&
 scope.names.all (λy=>decide (y.2≠.free)||(decide (y.1≠x)&&(decide (fs.names.lookup y.1=some .cell)||decide (fs.names.lookup y.1=some .free))))&&decide (scope.names.lookup x=some .cell) &&
 decide (NB=vs++ix.map λi=>N.getD i "")&&decide NB.Nodup&&ix.all λi=>match N[i]? with|some y=>decide (scope.names.lookup y=some .free)|none=>false
def cB.of(h:rj X.N X.env.scope scope x vs NB ix=true)(cf:∀(n:Nat)(acc:List (Str×Addr)),cellsFrom n scope.names acc=(x,n)::acc)(pc:∀h:Heap,pushCells h scope.names=h.push nk):cB X scope x vs NB ix:=by unfold rj at h;simp only[MA]at h;obtain⟨⟨⟨⟨⟨⟨⟨h1,h2⟩,h3⟩,h4⟩,h5⟩,h6⟩,h7⟩,h8⟩:=h;refine⟨MU h1,λy hy e=>?_,λy hy e=>?_,λy hy=>?_,λhy=>?_,MU h5,MU h6,MU h7,λi hi=>?_,cf,pc⟩;{have z:=MI.mp h2 y hy;rw[Nb]at z;exact z.elim (λz=>absurd e (MU z)) λz=>MU z};{have z:=MI.mp h3 y hy;rw[Nb]at z;exact z.elim (λz=>absurd e (MU z)) λz=>MU z};{have z:=MI.mp h4 _ hy;rw[Nb,MA,Nb]at z;exact z.elim (λz=>absurd rfl (MU z)) λz=>z.2.imp MU MU};{have z:=MI.mp h4 _ hy;rw[Nb,MA]at z;exact z.elim (λz=>absurd rfl (MU z)) λz=>absurd rfl (MU z.1)};have z:=MI.mp h8 i hi;split at z;{rename_i y e;exact⟨y,e,MU z⟩};cases z
def Lb{cx:Str}{rest:QD}{vs NB:QY}{ix:QW}{di:DI}{t:Tg}{c:DT}{r:DC}(B:rj X.N X.env.scope scope cx vs NB ix=true)(hi:SI X Ex Y tg iter di)(ht:∀(C c':Addr)(s:Shared)(H:Hp)(fp:QS),eL (X.aL scope cx C c' NB s H fp) (bx Y cs ix) tg t)(hif:∀(C c':Addr)(s:Shared)(H:Hp)(fp:QS),gM (X.aL scope cx C c' NB s H fp) E0 (bx Y cs ix) ifs c)(hr:∀(C c':Addr)(s:Shared)(H:Hp)(fp:QS)(D:Addr),SL (X.aL scope cx C c' NB s H fp) (bx Y cs ix) cs D elt (⟨tg,iter,ifs,0⟩::rest) scope pos 1 r)(cf:∀(n:Nat)(acc:List (Str×Addr)),cellsFrom n scope.names acc=(cx,n)::acc:=by intro _ _;rfl)(pc:∀h:Heap,pushCells h scope.names=h.push nk:=by intro _;rfl)(hc:X.calm=true:=by rfl)(ck:qZ Y cs ix vs t.slots=true:=by rfl)(ha:HF rest=true:=by rfl)(hs:∀v,foldedSetIterable iter X.env v=pure v:=by intro _;rfl):SE X Ex Y (.ListComp elt (⟨tg,iter,ifs,0⟩::rest) scope pos) (cW cs di t c r):=
 let⟨h1,h2,h3,h4,h5⟩:=qk ck
 Gf (cB.of B cf pc) hc h1 h2 h3 h4 hi ht h5 hif hr (z6 ha) hs
def iW{D:Addr}{k:Nat}(h:SE X E0 Y elt d)(hk:gens[k]?=none:=by rfl):SL X Y cs D elt gens scope pos k (dg sizeLine d):=Fy h hk
def se:PyData->Option String
 |.none=>some "NoneType"
 |.bool _=>some "bool"
 |.int _=>some "int"
 |.str _=>some "str"
 |.list _=>some "list"
 |.tuple _=>some "tuple"
 |.dict _=>none
def gH(c t:String):Bool:=t==c||(c == "int" && t == "bool")
def Ae(c:String):DR:=λds P=>match ds with
 |[d]=>aq (se d) λt=>P .sh (.bool (gH c t))
 |_=>False
def tys:List String:=["NoneType","bool","int","str","list","tuple"]
def tE(K:Frag)(cs:List String):Bool:=cs.all λc=>tys.all λt=>kitOne K (.type t) (.type c)==some (gH c t)
def HH{K:Frag}{cs:List String}(h:tE K cs=true){c t:String}(hc:c∈cs)(ht:t∈tys):kitOne K (.type t) (.type c)=some (gH c t):=by have:=MI.mp (MI.mp h c hc) t ht;simpa using this
def Jo(s:af Hm H)(r:Rp K Hm v d)(h:se d=some t):fM K H v (.type t)/\t∈tys:=by
 cases r with
 |aN=>cases h;exact⟨.aN,by decide⟩
 |bl b=>cases h;exact⟨.bl b,by decide⟩
 |int i=>cases h;exact⟨.int i,by decide⟩
 |str x=>cases h;exact⟨.str x,by decide⟩
 |lst a _=>cases h;refine⟨?_,by decide⟩;rcases a with (a|⟨o,a⟩)|⟨its,n,a,_⟩;{exact .lst (s _ _ a)};{exact .d7 (s _ _ a)};exact .kl a
 |tup a _=>cases h;exact⟨.tup (s _ _ a),by decide⟩
 |dk _ _=>cases h
 |dt _ _=>cases h
 |exc _ _=>cases h
def Im{css:List String}(kf:tE X.K css=true)(hc:css.contains c=true)(hm:X.mg "isinstance"=none)(hm2:X.mg x=none)(hv:bootBuiltins x=some (.type c))(hg:Gl X "isinstance")(hg2:Gl X x)(hn:x≠"__name__")(hd:(x==("__debug__":Str))=false)(ns:noStar a=true)(S:aH X Ex Y [a] as) : SE X Ex Y (.Call (.Name "isinstance" p) [a,.Name x p2] [] pos) (aa (Ae c) as):=by refine eu (r:=λvs H Q=>∃v t,vs=[v]/\fM X.K H v (.type t)/\t∈tys/\Q (.bl (gH c t)) H) S (λU H Q h=>WE.of (kT Br hg hm Q2 (cP bz (cP (wU (v:=.ty c) hg2 hm2 hv rfl hn hd) gx) (aS ns)) (by decide) (by decide) (aS ns) (by rfl)) ?_) ?_;{refine λpins s I=>aG (h pins s I) λv s1 ⟨y,H1,I1,r1,w,t,e,ty,ht,q⟩=>⟨y,H1,I1,r1,?_⟩;cases e;refine⟨_,_,_,_,rfl,ty,λu hu=>?_,q⟩;cases hu;exact HH kf (by simpa using hc) ht};intro H Hm vs ds P Q s r h q;unfold Ae at h;split at h;{obtain⟨v,rfl,h1⟩:=cI r;rw[<-aR]at h;obtain⟨t,e,h⟩:=h;obtain⟨ty,ht⟩:=Jo s h1 e;exact⟨v,t,rfl,ty,ht,aZ.sc q s h (.bl _)⟩};exact h.elim
def KR(kf:tE X.K css=true)(hm:X.mg "isinstance"=none)(hm2:X.mg x=none)(hv:bootBuiltins x=some (.type c))(S:aH X Ex Y [a] as)(hc:css.contains c=true:=by decide)(hg:Gl X "isinstance":=by rfl)(hg2:Gl X x:=by rfl)(hn:x≠"__name__":=by decide)(hd:(x==("__debug__":Str))=false:=by decide)(ns:noStar a=true:=by rfl) : SE X Ex Y (.Call (.Name "isinstance" p) [a,.Name x p2] [] pos) (aa (Ae c) as):=Im kf hc hm hm2 hv hg hg2 hn hd ns S
end
end Dv
namespace Dv
open PySem L2 PySem.W
open Classical in
def Gh.fW(g:Gh)(H:Hp)(fp:QS):Gh:=⟨λa=>if a∈fp then H a else g.H0 a,λa=>if a∈fp then none else g.gF a,g.pins⟩
section
variable{K:Frag}{g:Gh}{E:En}{U:St}{H H' Hm Hm':Hp}{F:Nat->QS}{fp:QS}
def kg{a:Addr}(h:a∈fp):(g.fW H fp).H0 a=H a:=by unfold Gh.fW;exact if_pos h
def fT{a:Addr}(h:a∉fp):(g.fW H fp).H0 a=g.H0 a:=by unfold Gh.fW;exact if_neg h
def zX{a:Addr}(h:a∈fp):(g.fW H fp).gF a=none:=by unfold Gh.fW;exact if_pos h
def vK{a:Addr}(h:a∉fp):(g.fW H fp).gF a=g.gF a:=by unfold Gh.fW;exact if_neg h
structure nK(g:Gh)(F:Nat->QS)(H Hm:Hp)(fp:QS):Prop where
 wX:∀a∈fp,∃u,H a=some u/\nH u
 off:∀a∈fp,Hm a=none
 aM:∀a∈fp,∀i,a∉F i
 new:∀a∈fp,g.H0 a=none
def nK.aX(A:nK g F H Hm fp):∀a∈fp,H a≠none:=λa ha z=>by obtain⟨u,hu,_⟩:=A.wX a ha;rw[z]at hu;cases hu
def nK.notM(A:nK g F H Hm fp)(R:Rl K g E U H Hm F):∀a∈fp,a∉g.M:=λa ha m=>by obtain⟨q,hq,rfl⟩:=MS.mp m;exact A.aM _ ha q.1 (by rw[R.yd hq];exact M7)
theorem Rl.fW(R:Rl K g E U H Hm F)(A:nK g F H Hm fp):Rl K (g.fW H fp) E U H Hm F where
 len:=R.len
 sub:=R.sub
 slot:=R.slot
 off:=R.off
 aX:=R.aX
 aM:=R.aM
 fr:=λp o hp ho=>by
  by_cases c:p∈fp
  .rw[kg c]at ho;exact ho
  .rw[fT c]at ho;exact R.fr p o hp ho
 new:=λi a ha=>by
  have c:a∉fp:=λz=>A.aM a z i ha
  rw[fT c];exact R.new i a ha
 pin:=R.pin
 old:=λa ha=>by
  by_cases c:a∈fp
  .rw[zX c];exact .inl (A.off a c)
  .rw[fT c]at ha;rw[vK c];exact R.old a ha
def Rl.tW{F':Nat->QS}(A:nK g F H Hm fp)(nM:∀a∈fp,a∉g.M)(R:Rl K (g.fW H fp) E' σ' H' Hm' F'):Rl K g E' σ' H' Hm' F'/\nK g F' H' Hm' fp/\∀a∈fp,H' a=H a:=by
 have keep:∀a∈fp,H' a=H a:=λa ha=>by
  cases e:H a with
  |none=>exact absurd e (A.aX a ha)
  |some o=>exact R.fr a o (nM a ha) (by rw[kg ha];exact e)
 refine⟨?_,⟨λa ha=>by rw[keep a ha];exact A.wX a ha,λa ha=>?_,λa ha i z=>?_,A.new⟩,keep⟩
 .exact {
   len:=R.len
   sub:=R.sub
   slot:=R.slot
   off:=R.off
   aX:=R.aX
   aM:=R.aM
   fr:=λp o hp ho=>by
    have c:p∉fp:=λz=>by rw[A.new p z]at ho;cases ho
    exact R.fr p o hp (by rw[fT c];exact ho)
   new:=λi a ha=>by
    rcases R.new i a ha with m|m
    .exact .inl m
    .by_cases c:a∈fp
     .exact .inr (A.new a c)
     .rw[fT c]at m;exact .inr m
   pin:=R.pin
   old:=λa ha=>by
    have c:a∉fp:=λz=>ha (A.new a z)
    have h':=R.old a (by rw[fT c];exact ha)
    rw[vK c]at h';exact h' }
 .have h':=R.old a (by rw[kg ha];exact A.aX a ha);obtain⟨u,hu,nt⟩:=A.wX a ha;exact h'.off (zX ha) R.sub (by rw[keep a ha];exact hu) nt
 rcases R.new i a z with m|m;{exact nM a ha m};rw[kg ha]at m;exact A.aX a ha m
theorem cN.snoc{xs:List V}{ds:QM}{b:Addr}{ys:List V}{es:QM}(e:H b=some (.lst ys))(r:ak K Hm ys es):∀{xs:List V}{ds:QM}{fp:QS},cN K H Hm xs ds fp->b∉fp->cN K H Hm (xs++[.ref b]) (ds++[.list es]) (fp++[b])
 |_,_,_,.nil,n=>.own e r n .nil
 |_,_,_,.iO h1 h2 t,n=>.iO h1 h2 (t.snoc (xs:=xs) (ds:=ds) e r n)
 |_,_,_,.own h1 h2 h3 t,n=>.own h1 h2 (λz=>by
   rcases MF.mp z with z|z
   .exact h3 z
   .exact n (MR.mp z▸M7)) (t.snoc (xs:=xs) (ds:=ds) e r λz=>n (MC _ z))
theorem cN.get:∀{xs:List V}{ds:QM}{fp:QS}{m:Nat},cN K H Hm xs ds fp->ds[m]?=some (.list es)->∃b ys,xs[m]?=some (.ref b)/\H b=some (.lst ys)/\ak K Hm ys es/\b∈fp
 |_,_,_,_,.nil,h=>by simp at h
 |_,_,_,0,.iO e _ _,h=>by simp at h;rw[h]at e;cases e
 |_,_,_,m+1,.iO _ _ t,h=>t.get (m:=m) (by simpa using h)
 |_,_,_,0,.own e r _ _,h=>by simp at h;subst h;exact⟨_,_,rfl,e,r,M7⟩
 |_,_,_,m+1,.own _ _ _ t,h=>by obtain⟨b,ys,h1,h2,h3,h4⟩:=t.get (m:=m) (by simpa using h);exact⟨b,ys,h1,h2,h3,MC _ h4⟩
theorem cN.put{b:Addr}(r:ak K Hm ys new):∀{xs:List V}{ds:QM}{fp:QS}{m:Nat},cN K H Hm xs ds fp->xs[m]?=some (.ref b)->(∃es,ds[m]?=some (.list es))->cN K (upd H b (.lst ys)) Hm xs (ds.set m (.list new)) fp
 |_,_,_,_,.nil,h,_=>by simp at h
 |_,_,_,0,.iO e _ _,_,⟨es,h⟩=>by simp at h;rw[h]at e;cases e
 |_,_,_,m+1,.iO e h2 t,h,⟨es,h'⟩=>.iO e h2 (t.put (m:=m) r (by simpa using h) ⟨es,by simpa using h'⟩)
 |_,_,_,0,.own (b:=b') e r' n t,h,_=>by simp at h;subst h;exact .own aB r n (t.step (af.refl _) λa ha=>ai λz=>n (z▸ha))
 |_,_,_,m+1,.own (b:=b') (fp:=fp) e r' n t,h,⟨es,h'⟩=>by have h:_:=h;obtain⟨b2,ys2,g1,g2,g3,g4⟩:=t.get (m:=m) (es:=es) (by simpa using h');simp at h;rw[h]at g1;cases g1;refine .own (by rw[ai (show b'≠b from λz=>n (by rw[z];exact g4))];exact e) r' n (t.put (m:=m) r h ⟨es,by simpa using h'⟩)
def Rl.Hu(R:Rl K g E U H Hm F){i:Nat}{b:Addr}(e:E[i]?=some (some (k,d)))(hv:U[i]?=some (some v))(hb:b∈F i)(new:Own K (upd H b o) Hm k v d' (F i))(nt:nH o)(hp:k=.ow true->∃ds,d'=.list ds) : Rl K g (E.set i (some (k,d'))) U (upd H b o) Hm F:=by
 have na:=R.off i b hb;have up:∀c,c≠b->upd H b o c=H c:=λc hc=>ai hc;have li:=aF e;exact {
  len:=by rw[MY];exact R.len
  sub:=λc u hc=>by
   have:c≠b:=λz=>by rw[z,na]at hc;cases hc
   rw[up c this];exact R.sub c u hc
  slot:=λj k' d'' e'=>by
   by_cases c:j=i
   .subst c;rw[ao li]at e';cases e';exact⟨_,hv,new⟩
   .rw[ah (Ne.symm c)]at e';obtain⟨u,g1,g2⟩:=R.slot j k' d'' e';refine⟨u,g1,g2.step (af.refl _) λa ha=>up a λz=>c (R.aM j i b (z▸ha) hb)⟩
  off:=R.off
  aX:=λj a ha=>by
   by_cases c:a=b
   .rw[c];exact⟨_,aB,nt⟩
   .rw[up a c];exact R.aX j a ha
  aM:=R.aM
  fr:=λq u hq ho=>by
   have:q≠b:=λz=>by
    rcases R.new i b hb with y|y
    .exact hq (z▸y)
    .rw[z,y]at ho;cases ho
   rw[up q this];exact R.fr q u hq ho
  new:=R.new
  pin:=λq hq=>by
   obtain⟨g1,ds',g2⟩:=R.pin q hq
   by_cases c:i=q.1
   .rw[<-c]at g1 g2⊢;rw[e]at g2;cases g2;obtain⟨ds,rfl⟩:=hp rfl;exact⟨g1,ds,ao li⟩
   .exact⟨g1,ds',by rw[ah c];exact g2⟩
  old:=R.old }
def Eh(h:bW t d E=some E'):E'.length=E.length:=by
 have go:∀{is:QW}{ds:QM}{E E':En},bC is ds E=some E'->E'.length=E.length:=by
  intro is;induction is with
  |nil=>intro ds E E' h;cases ds with|nil=>cases h;rfl|cons _ _=>cases h
  |cons j is ih=>
   intro ds E E' h;cases ds with
   |nil=>cases h
   |cons d ds=>rw[bC]at h;by_cases o:aW E j=true;{rw[if_pos o]at h;rw[ih h,MY]};rw[if_neg o]at h;cases h
 cases t with
 |nm j=>exact go (is:=[j]) h
 |tp js=>
  cases d with
  |tuple ds=>exact go (is:=js) h
  |_=>cases h
end
section
variable{X:Cx}{Ex:XK}{Y cs:QW}{elt tg iter:Expr}{ifs:QU}{scope:Scope}{pos:Pos}
def uU{vs:QY}{t:Tg}(B:bQ X scope vs NB ix)(hc:X.calm=true)(hcs:cs.length=vs.length)(hix:∀i∈ix,i<Y.length)(aM:∀c∈cs,c∉Y)(nd:(bx Y cs ix).Nodup)(hi:SI X Ex Y tg iter di)(ht:∀(C:Addr)(s:Shared)(H:Hp)(fp:QS),eL (X.block scope C NB s H fp) (bx Y cs ix) tg t)(hts:∀i∈t.slots,i∈cs)(hif:∀(C:Addr)(s:Shared)(H:Hp)(fp:QS),gM (X.block scope C NB s H fp) E0 (bx Y cs ix) ifs c)(hr:∀(C:Addr)(s:Shared)(H:Hp)(fp:QS),SE (X.block scope C NB s H fp) E0 (bx Y cs ix) elt e)(hs:∀v,foldedSetIterable iter X.env v=pure v){w:(V->Hp->Prop)->St->Hp->Prop}(hw:∀{wi:TI}{G:TG}{tt:TT}{tr:TL}{U:St}{H:Hp}{Q:VK},PI X tg iter wi->(∀(C:Addr)(s:Shared)(H:Hp)(fp:QS),PG (X.block scope C NB s H fp) tg G)->(∀(C:Addr)(s:Shared)(H:Hp)(fp:QS),l5 (X.block scope C NB s H fp) ifs tt)-> (∀(C:Addr)(s:Shared)(H:Hp)(fp:QS)(D:Addr),PL (X.block scope C NB s H fp) D elt (⟨tg,iter,ifs,0⟩::[]) scope pos 1 tr)->j5 wi vs.length ix G tt tr U H Q->w Q U H)(g:Gh)(x:XC)(E:En)(U:St)(H Hm:Hp)(F:Nat->QS)(P:QZ)(Q:VK)(hx:XL X Ex x g)(R:Rl X.K g E U H Hm F)(p:jq sizeLine cs di t c e x E P)(q:∀E' k v u H' Hm' F' fp,P E' k v->Rl X.K g E' U H' Hm' F'->af Hm Hm'->Tm X.K g F' H' Hm' k u v fp->Q u H'):w Q (sel Y U) H:=by
 obtain⟨wi,hpi,hwi⟩:=hi;refine hw (wi:=wi) (G:=λv U H Q=>∀(C:Addr)(s:Shared)(H2:Hp)(fp:QS),WG (X.block scope C NB s H2 fp) tg v U H Q) (tt:=λU H Q=>∀(C:Addr)(s:Shared)(H2:Hp)(fp:QS),rG (X.block scope C NB s H2 fp) ifs U H Q)
  (tr:=Dr λU H Q=>∀(C:Addr)(s:Shared)(H2:Hp)(fp:QS),WE (X.block scope C NB s H2 fp) elt U H Q) hpi (λC s H2 fp pins s' U H v u Q I r h=>h C s H2 fp pins s' u I r) (λC s H2 fp pins s' U H Q I h=>h C s H2 fp pins s' I)
  (λC s H2 fp D=>vV (λpins s' U H Q I h=>h C s H2 fp pins s' I)) ?_
 refine hwi g x E U H Hm F _ _ hx R p λE1 xs J H1 Hm1 F1 p1 R1 s1 it1=>?_;obtain⟨E0',I,hcl,i0,step,fin⟩:=p1;obtain⟨σ0,F0,R0,a0,n0⟩:=R1.aV hcl;rw[<-hcs,rq hix aM a0 λc hc=>(n0 c hc).1];refine⟨λi m ys τ H'=>m=xs.length-i/\i<=xs.length/\∃E' dys' σ' Hm' F' fp,I i dys' E'/\Rl X.K g E' σ' H' Hm' F'/\af Hm1 Hm'/\cN X.K H' Hm' ys dys' fp/\nK g F' H' Hm' fp/\Agree cs σ0 σ'/\τ=sel (bx Y cs ix) σ',
  ⟨xs.length,by simp,Mq _,E0',[],σ0,Hm1,F0,[],i0,R0,af.refl _,.nil,⟨(λ_ z=>by cases z),(λ_ z=>by cases z),(λ_ z=>by cases z),λ_ z=>by cases z⟩,Agree.refl _ _,rfl⟩,?_⟩
 rintro i m ys τ H2⟨rfl,hi,E2,dys2,σ2,Hm2,F2,fp,i2,R2,s2,r2,A2,a2,rfl⟩;obtain⟨go,stop⟩:=it1 i H2 Hm2 s2 R2.sub;by_cases c':i<xs.length
 .obtain⟨go,nQ⟩:=go xs[i] (MP c');refine .inr ⟨go,λys τ H'=>i+1<=xs.length/\∃E' dys' σ' Hm' F' fp,I (i+1) dys' E'/\Rl X.K g E' σ' H' Hm' F'/\af Hm1 Hm'/\cN X.K H' Hm' ys dys' fp/\nK g F' H' Hm' fp/\Agree cs σ0 σ'/\τ=sel (bx Y cs ix) σ',λys τ H' z=>⟨xs.length-(i+1),by lia,rfl,z⟩,λx H3 y C s H9 fp9=>?_⟩;obtain⟨Hm3,t1,t2,t3,old,rx⟩:=nQ x H3 y;have R3:=R2.turn t1 t2 t3 old;have k3:∀a∈fp,H3 a=H2 a:=λa ha=>by
   cases e:H2 a with
   |none=>exact absurd e (A2.aX a ha)
   |some o=>exact t3 _ _ e
  have A3:nK g F2 H3 Hm3 fp:=⟨λa ha=>by rw[k3 a ha];exact A2.wX a ha,λa ha=>by
   obtain⟨u,hu,nt⟩:=A2.wX a ha;exact(old a (A2.aX a ha)).off (A2.off a ha) t2 (t3 _ _ hu) nt,A2.aM,A2.new⟩
  have r3:=r2.step (H':=H3) t1 k3;have nM:=A3.notM R3;obtain⟨E4,e4,p4⟩:=step i xs[i] dys2 E2 (MP c') i2;obtain⟨G,g1,g2⟩:=pT (X:=X.block scope C NB s H9 fp9) hc B.nd nd (ht C s H9 fp9);refine WG.of g1 (g2 (g:=g.fW H3 fp) e4 rx (R3.fW A3) λσ4 F4 R4 ag=>?_);have a4:Agree cs σ0 σ4:=a2.trans ⟨by rw[<-R3.len,<-R4.len,Eh e4],λj hj=>ag j λz=>hj (hts j z)⟩;intro C2 s2' H92 fp92;refine(hif C2 s2' H92 fp92).ok XL.no R4 p4 λE5 b H5 Hm5 F5 p5 R5 s5=>?_;cases b with
  |true=>
   refine oq λC3 s3' H93 fp93=>?_;refine hr C3 s3' H93 fp93 (g.fW H3 fp) xF E5 σ4 H5 Hm5 F5 _ _ XL.no R5 (by rw[if_pos rfl]at p5;exact p5) λE6 k6 v6 u6 H6 Hm6 F6 fp6 p6 R6 s6 T6=>?_;obtain⟨⟨pb,rfl⟩,hl,p6⟩:=p6;obtain⟨R6',A6,k6⟩:=Rl.tW A3 nM R6;have T1:=T6.own;have hlen:ys.length=dys2.length:=by
    have:∀{xs:List V}{ds:QM}{fp:QS}{H Hm:Hp},cN X.K H Hm xs ds fp->xs.length=ds.length:=by
     intro xs ds fp H Hm h;induction h with
     |nil=>rfl
     |iO _ _ _ ih=>rw[MW,MW,ih]
     |own _ _ _ _ ih=>rw[MW,MW,ih]
    exact this r2
   cases T1 with
   |@ow _ b zs es hb rz=>
    have nb:b∉fp:=λz=>by have:=T6.new b M7;rw[kg z]at this;exact A3.aX b z this
    have r6:=(r3.step (H':=H6) (s5.trans s6) k6).snoc (xs:=[]) (ds:=[]) hb rz nb;refine⟨by rw[hlen];exact hl,c',E6,_,σ4,Hm6,F6,fp++[b],p6,R6',s2.trans (t1.trans (s5.trans s6)),r6,⟨λa ha=>?_,λa ha=>?_,λa ha=>?_,λa ha=>?_⟩,a4,rfl⟩;{rcases MF.mp ha with ha|ha;{exact A6.wX a ha};rw[MR.mp ha];exact⟨_,hb,jE⟩};{rcases MF.mp ha with ha|ha;{exact A6.off a ha};rw[MR.mp ha];exact T6.off b M7};{rcases MF.mp ha with ha|ha;{exact A6.aM a ha};rw[MR.mp ha];exact T6.aM b M7};rcases MF.mp ha with ha|ha;{exact A6.new a ha};rw[MR.mp ha];have:=T6.new b M7;rw[fT nb]at this;exact this
  |false=>obtain⟨R5',A5,k5⟩:=Rl.tW A3 nM R5;exact oV ⟨c',E5,dys2,σ4,Hm5,F5,fp,by simpa using p5,R5',s2.trans (t1.trans s5),r3.step (H':=H5) s5 k5,A5,a4,rfl⟩
 have e:i=xs.length:=by lia
 subst e;refine .inl ⟨stop (M5 _),λp hp=>?_⟩;obtain⟨E3,hcl2,p2⟩:=fin _ _ i2;obtain⟨σ3,F3,R3p,a3,n3⟩:=(R2.fW A2).aV hcl2;obtain⟨R3,A3,_⟩:=Rl.tW A2 (A2.notM R2) R3p;have R3':=R3.agree (cs:=cs) ((a0.trans a2).trans a3).symm λc hc=>(n3 c hc).2;have s3:=bI (o:=.lst ys) hp;have R4:=R3'.grow (H':=upd H2 p (.lst ys)) s3 (af.refl _) (R3'.sub.trans s3) (λi a ha=>R3'.off i a ha) λ_ _=>.inl rfl;have np:p∉fp:=λz=>A2.aX p z hp;refine q _ _ _ _ _ Hm2 F3 (p::fp) p2 R4 (s1.trans s2) ⟨.dp aB np (r2.step (H':=upd H2 p (.lst ys)) (af.refl _) λa ha=>ai λz=>np (z▸ha)),λa ha=>?_,λa ha i=>?_,λa ha=>?_⟩;{rcases MH.mp ha with rfl|ha;{exact R3'.pL hp};exact A2.off a ha};{rcases MH.mp ha with rfl|ha;{exact R3'.fresh hp};exact A3.aM a ha i};rcases MH.mp ha with rfl|ha;{exact R3'.eK hp};exact A2.new a ha
end
section
variable{X:Cx}{Ex:XK}{Y cs:QW}{elt tg iter:Expr}{ifs:QU}{scope:Scope}{pos:Pos}
def K9(B:kC X.N X.env.scope scope vs NB ix=true)(hi:SI X Ex Y tg iter di)(ht:∀(C:Addr)(s:Shared)(H:Hp)(fp:QS),eL (X.block scope C NB s H fp) (bx Y cs ix) tg t)(hif:∀(C:Addr)(s:Shared)(H:Hp)(fp:QS),gM (X.block scope C NB s H fp) E0 (bx Y cs ix) ifs c)(hr:∀(C:Addr)(s:Shared)(H:Hp)(fp:QS),SE (X.block scope C NB s H fp) E0 (bx Y cs ix) elt e)(hc:X.calm=true:=by rfl)(ck:qZ Y cs ix vs t.slots=true:=by rfl)(hs:∀v,foldedSetIterable iter X.env v=pure v:=by intro _;rfl):SE X Ex Y (.ListComp elt [⟨tg,iter,ifs,0⟩] scope pos) (jq sizeLine cs di t c e):=by
 obtain⟨h1,h2,h3,h4,h5⟩:=qk ck;have B':bQ X scope vs NB ix:=bQ.of B;have ha:∀g∈([]:QD),g.is_async=0:=λ_ z=>by cases z
 intro g x E U H Hm F P Q hx R p q;exact uU B' hc h1 h2 h3 h4 hi ht h5 hif hr hs (w:=λQ U H=>WE X (.ListComp elt [⟨tg,iter,ifs,0⟩] scope pos) U H Q) (λg1 g2 g3 g4 g5=>WE.of (tK B' hc g1 g2 g3 g4 ha hs) g5) g x E U H Hm F P Q hx R p q
def K8{j:Nat}(hN:X.N.Nodup)(B:kC X.N X.env.scope scope vs NB ix=true)(hi:SI X Ex (aJ X) tg iter di)(ht:∀(C:Addr)(s:Shared)(H:Hp)(fp:QS),eL (X.block scope C NB s H fp) (bx (aJ X) cs ix) tg t)(hif:∀(C:Addr)(s:Shared)(H:Hp)(fp:QS),gM (X.block scope C NB s H fp) E0 (bx (aJ X) cs ix) ifs c)(hr:∀(C:Addr)(s:Shared)(H:Hp)(fp:QS),SE (X.block scope C NB s H fp) E0 (bx (aJ X) cs ix) elt e)(hj:X.N[j]?=some y:=by rfl)(hy:X.env.scope.names.lookup y=some .local:=by rfl)(hsw:swapsWith (.ListComp elt [⟨tg,iter,ifs,0⟩] scope pos) (some (.Name y py)) spos.line X.env=pure true:=by rfl)(hc:X.calm=true:=by rfl)(ck:qZ (aJ X) cs ix vs t.slots=true:=by rfl)(hs:∀v,foldedSetIterable iter X.env v=pure v:=by intro _;rfl):S1 X Ex (.Assign [.Name y py] (.ListComp elt [⟨tg,iter,ifs,0⟩] scope pos) spos) (bu j (jq sizeLine cs di t c e)):=by
 obtain⟨h1,h2,h3,h4,h5⟩:=qk ck;have B':bQ X scope vs NB ix:=bQ.of B;have ha:∀g∈([]:QD),g.is_async=0:=λ_ z=>by cases z
 rw[wo];intro g D' E U H Hm F D hx R p nx rt;refine uU B' hc h1 h2 h3 h4 hi ht h5 hif hr hs (w:=λQ τ H=>(Q=λu H1=>D.nx (τ.set j (some u)) H1)->WS X (.Assign [.Name y py] (.ListComp elt [⟨tg,iter,ifs,0⟩] scope pos) spos) D τ H)
  (λg1 g2 g3 g4 g5 e=>by
   subst e;exact WS.of (Bf hN hj hy B' hc g1 g2 g3 g4 hsw ha hs) g5) g D'.xc E U H Hm F _ _ hx R p (λE' k v u H' Hm' F' fp p' R' s' T=>?_) rfl
 rw[gO NF (cR (aF hj)) (R'.len▸dG p'.1)];exact nx _ _ _ _ _ p'.2 (R'.put T p'.1) s'
def BP{i n:Nat}(h:cG E n=some E')(ne:i≠n):E'[i]?=E[i]?:=by unfold cG at h;split at h;{split at h;{cases h;exact ah (Ne.symm ne)};cases h};cases h
def IQ{x y name:Str}{id:String}{p yp sp apos cpos:Pos}{jx:Expr}{f:DM}{r:V->List V->Hp->VK->Prop}{dj:DE}{i j n jn:Nat}(hm:qc X id r)(D:wY X.K f r)(slot:Slot "list" name id)(hty:typeOf (.builtin id)=pure (.type "method_descriptor"))(hv:PE X (.Name x p) (kW j))(hj:Y[j]?=some i)(hy:PE X (.Name y yp) (kW jn))(hjn:Y[jn]?=some n)(hs:ki jx)(hd:SE X Ex Y jx dj)(hline:(apos.endLine==cpos.line)=true) : SE X Ex Y (.Call (.Attribute (.Subscript (.Name x p) jx sp) name apos) [.Name y yp] [] cpos) (uE f i dj n):=by
 intro g xc E U H Hm F P Q hx R h q;obtain⟨hh,h⟩:=h;obtain⟨o,ho⟩:=jC R hh;refine WE.of (pN OD slot hty hm (bz (e:=.Subscript (.Name x p) jx sp)) (cX (es:=[.Name y yp]) rfl) rfl (qq rfl (show 1<30 by decide)) hline rfl rfl) ?_;refine WE.of (C6 zz hv bz hs) ⟨o,b6 hj ho,?_⟩;refine hd g xc E U H Hm F _ _ hx R h λE1 k1 w u1 H1 Hm1 F1 fp1 p1 R1 s1 T1=>?_;obtain⟨a,pp,ds,m,es,k,d,E2,rfl,e1,hix,hes,en,ne,hf,p1⟩:=p1;cases T1.own.int;obtain⟨v',h1,h2⟩:=R1.slot i _ _ e1;rw[ho]at h1;cases h1;obtain⟨vn,Hm2,F2,hvn,s2,R2,rn⟩:=R1.cG en hf;have e2:E2[i]?=some (some (.dp pp,.list ds)):=(BP hf ne).trans e1;obtain⟨v2,h3,h4⟩:=R2.slot i _ _ e2;rw[ho]at h3;cases h3;generalize hfi:F2 i=fi at h4;cases h4 with
 |@dp _ a0 xs _ fq ha0 n0 it0=>
  obtain⟨b,ys,hxm,hb,ry,mb⟩:=it0.get hes;have hlen:xs.length=ds.length:=by
   have:∀{xs:List V}{ds:QM}{fp:QS}{H Hm:Hp},cN X.K H Hm xs ds fp->xs.length=ds.length:=by
    intro xs ds fp H Hm h;induction h with
    |nil=>rfl
    |iO _ _ _ ih=>rw[MW,MW,ih]
    |own _ _ _ _ ih=>rw[MW,MW,ih]
   exact this it0
  refine .inl ⟨_,xs,a,.ref b,rfl,rfl,bD.of ha0,?_,.inl ⟨rfl,_,bD.of hb⟩,?_⟩;{show(lK xs.length a).bind (λj=>xs[j]?)=some (.ref b);rw[hlen,show lK ds.length a=some m from hix];exact hxm};refine WE.of hy ⟨vn,b6 hjn hvn,?_⟩;show r (.ref b) [vn] H1 Q;have mbF:b∈F2 i:=by rw[hfi];exact MC _ mb
  refine D H1 Hm2 b ys es [vn] [d] _ Q hb (R2.off i b mbF) R2.sub ry (.cons rn .nil) p1 λys' new u v p2 ry' ru=>?_;have nab:a0≠b:=λz=>n0 (z▸mb);have R3:=R2.Hu (o:=.lst ys') (d':=.list (ds.set m (.list new))) e2 ho mbF (by
   rw[hfi];exact .dp (by rw[ai nab];exact ha0) n0 (it0.put ry' hxm ⟨es,hes⟩)) jE λz=>by cases z
  exact q _ _ _ _ _ _ _ [] p2 R3 (s1.trans s2) (Tm.sh ru)
def Kh(j jn:Nat){i n:Nat}{x y name:Str}{id:String}{p yp sp apos cpos:Pos}{jx:Expr}{f:DM}{r:V->List V->Hp->VK->Prop}{dj:DE}(hm:qc X id r)(D:wY X.K f r)(slot:Slot "list" name id)(hty:typeOf (.builtin id)=pure (.type "method_descriptor"))(hd:SE X Ex Y jx dj)(hN:X.N[j]?=some x:=by rfl)(hv:iA X.env.scope x:=by first|exact Or.inl rfl|exact Or.inr (Or.inl rfl)|exact Or.inr (Or.inr rfl))(hj:Y[j]?=some i:=by rfl)(hNn:X.N[jn]?=some y:=by rfl)(hvn:iA X.env.scope y:=by first|exact Or.inl rfl|exact Or.inr (Or.inl rfl)|exact Or.inr (Or.inr rfl))(hjn:Y[jn]?=some n:=by rfl)(hs:ki jx:=by intro _ _;rfl)(hline:(apos.endLine==cpos.line)=true:=by rfl)(hb:(x==("__debug__":Str))=false:=by decide)(hcd:(x==("__classdict__":Str))=false:=by decide)(hbn:(y==("__debug__":Str))=false:=by decide)(hcn:(y==("__classdict__":Str))=false:=by decide) : SE X Ex Y (.Call (.Attribute (.Subscript (.Name x p) jx sp) name apos) [.Name y yp] [] cpos) (uE f i dj n):=IQ hm D slot hty (dY hN hv hb hcd) hj (dY hNn hvn hbn hcn) hjn hs hd hline
end
section
variable{P:Program}{w:World}{K:Frag}{mg:QE}{base:Heap}{N:QY}{qual:Str}{scope:Scope}{f:Addr}{cd:Value}{A:Around}{outer:List Env}{s0:Shared}{H0:Hp}{Ex:XK}
def vH{j}(h:∃C,mg x=some (.ref C)/\iw K C lY "ValueError.__new__" none=true)(hg:Gl (fK (dP P w) P w K mg base N qual scope f cd A outer s0 H0 Ex) x:=by rfl)(hdb:(x==("__debug__":Str))=false:=by decide) : S1 (fK (dP P w) P w K mg base N qual scope f cd A outer s0 H0 Ex) Ex (.Raise (some (.Call (.Name x np) [.Constant (.str y) j p] [] cpos)) none pos) (qx x):=by obtain⟨C,h⟩:=h;intro g D' E U H Hm F D hx R hp nx rt;refine WS.of (Ci h.2 hg h.1 (cP GF gx) hdb) ⟨by show 1<=sizeLine;decide,λa ha=>?_⟩;exact hx x .none C a _ h.1 hp (λp o hp ho=>bI ha _ _ (R.fr p o hp ho)) aB (R.eK ha)
end
end Dv
namespace Dv
open PySem L2
def CC(most:Nat)(E:En) (i:Nat)(v:PyData)(Q:Qh):Prop:=match E[i]?,v with
 |some (some (.ow p,.list ds)),.list es=>ds.length+es.length<=most/\Q (E.set i (some (.ow p,.list (ds++es))))
 |_,_=>False
universe u
def aI{a b:Prop}(x:a)(y:b):a/\b:=⟨x,y⟩
theorem rr0:dC v x E Q=Q E .sh v:=rfl
theorem rr1:eg i x (o::E) Q=zG (o::E) i Q:=rfl
theorem rr2:aa r as x (o::E) Q=gE as x (o::E) λE1 os=>ve r as E1 os Q:=rfl
theorem rr3:aU sp ms as x (o::E) Q=gE as x (o::E) λE1 os=>z8 sp ms as x E1 os Q:=rfl
theorem rr4:cF d x (o::E) Q=d x (o::E) λE' _ v=>qd v (Q E'):=rfl
theorem rr5:CQ i x (o::E) Q=zW (o::E) i Q:=rfl
theorem rr6:Dg t x (o::E) Q=t x (o::E) λE' b=>Q E' (!b):=rfl
theorem rr7:nY a b x (o::E) Q=a x (o::E) λE1 _ v=>wM v λc=>cC c (b x E1 Q) (Q E1 .sh (.bool false)):=rfl
theorem rr8:rT a b x (o::E) Q=a x (o::E) λE1 _ v=>wM v λc=>cC c (Q E1 .sh (.bool true)) (b x E1 Q):=rfl
theorem rr9:qL a x (o::E) Q=a x (o::E) λE1 _ v=>qd v λc=>Q E1 .sh (.bool !c):=rfl
theorem rr10:lW f f' a b c x (o::E) Q=a x (o::E) λE1 _ u=>nJ u λi=>b x E1 λE2 _ v=>nJ v λj=>cC (f i j) (c x E2 λE3 _ w=>nJ w λk=>Q E3 .sh (.bool (f' j k))) (Q E2 .sh (.bool false)):=rfl
theorem rr11:Ab c a b x (o::E) Q=c x (o::E) λE1 t=>cC t (a x E1 Q) (b x E1 Q):=rfl
theorem rr12:er D E=D.nx E:=rfl
theorem rr13:aC a b D (o::E)=a { D with nx:=b D } (o::E):=rfl
theorem rr14:c7 c a b D (o::E)=c D.xc (o::E) λE1 t=>cC t (a D E1) (b D E1):=rfl
theorem rr15:bu i e D (o::E)=e D.xc (o::E) λE' k v=>bK (gA E' i) (D.nx (E'.set i (some (k,v)))):=rfl
theorem rr16:qS is e D (o::E)=e D.xc (o::E) λE' k v=>bK k.fz (Dw is v E' D.nx):=rfl
theorem rr17:cH e D (o::E)=e D.xc (o::E) D.rt:=rfl
theorem rr18:kR i D (o::E)=AV (o::E) i D.rt:=rfl
theorem rr19:uo f i es x (o::E) Q=bK (gI (o::E) i) (gE (es.map .ev) x (o::E) λE1 os=>yO f i (es.map .ev) E1 os Q):=rfl
theorem rr20:jS i j e D (o::E)=e D.xc (o::E) λE1 k v=>bK k.fz (bK (here E1 i) (j D.xc E1 λE2 k2 w=>bK k2.fz (jS.setI E2 i w v D.nx))):=rfl
theorem rr21:Lu f i e D (o::E)=bK (here (o::E) i) (e D.xc (o::E) λE1 _ v=>GV f E1 i v D.nx):=rfl
theorem rr22:qx c D E=D.xc c .none:=rfl
theorem rr23:iV e D (o::E)=e D.xc (o::E) λE' _ _=>D.nx E':=rfl
theorem rr24:gR x E Q=Q E true:=rfl
theorem rr25:iE e x (o::E) Q=e x (o::E) λE' k v=>bK k.fz (Di v λxs=>Q E' xs):=rfl
theorem rr26:lJ g as x (o::E) Q=gE as x (o::E) λE1 os=>aq (bS as E1 os) λds=>aq (g ds) λxs=>Q E1 xs:=rfl
theorem rr27:w4 e x (o::E) Q=e x (o::E) λE' k v=>bK k.fz (rK v λds=>Q E' (g9 ds)):=rfl
theorem rr28:LV a b x (o::E) Q=a x (o::E) λE1 k v=>bK k.fz (b x E1 λE2 k2 v2=>bK k2.fz (rK v λds=>rK v2 λes=>Q E2 ((ds.zip es).map λp=>.tuple [p.1,p.2]))):=rfl
theorem rr29:dg most e x ys (o::E) Q=e x (o::E) λE1 k v=>k.fz=true/\ys.length<most/\Q (ys++[v]) E1:=rfl
theorem rr30:gE [] x E Q=Q E []:=rfl
theorem rr31:gE (.pk i::r) x (o::E) Q=bK (here (o::E) i) (gE r x (o::E) λE' os=>Q E' (none::os)):=rfl
theorem rr32:gE (.ev d::r) x (o::E) Q=d x (o::E) λE1 k v=>bK k.fz (gE r x E1 λE' os=>Q E' (some v::os)):=rfl
theorem rr33:bS [] E []=some []:=rfl
theorem rr34:∀{i:Nat}{r:List Arg}{o:Qc}{E:En}{os:Qa},bS (.pk i::r) (o::E) (none::os)=match(o::E)[i]? with
  |some (some (k,d))=>cC k.rd ((bS r (o::E) os).map (d::·)) none
  |_=>none:=rfl
theorem rr35:∀{d:DE}{v:PyData}{r:List Arg}{E:En}{os:Qa},bS (.ev d::r) E (some v::os)=(bS r E os).map (v::·):=rfl
theorem rr36:aq (some a) Q=Q a:=rfl
theorem rr37:aq none Q=False:=rfl
theorem rr38:here (o::E) i=match(o::E)[i]? with
  |some (some _)=>true
  |_=>false:=rfl
theorem rr39:bR (some (k,d))=!k.pin:=rfl
theorem rr40:bR none=true:=rfl
theorem rr41:gI (o::E) i=match(o::E)[i]? with
  |some (some (.ow _,.list _))=>true
  |_=>false:=rfl
theorem rr42:fS (o::E) i=match(o::E)[i]? with
  |some (some (.sh,_))=>true
  |_=>false:=rfl
theorem rr43:oK (o::E) i=match(o::E)[i]? with
  |some (some (k,d))=>cC k.fz (some ((o::E).set i (some (.sh,d)))) none
  |_=>none:=rfl
theorem rr44:ic [] E=some E:=rfl
theorem rr45:ic (i::r) E=(oK E i).bind (ic r):=rfl
theorem rr46:zG (o::E) i Q=match(o::E)[i]? with
  |some (some (_,d))=>aq (oK (o::E) i) λE'=>Q E' .sh d
  |_=>False:=rfl
theorem rr47:AV (o::E) i Q=match(o::E)[i]? with
  |some (some (k,d))=>bK (!k.pin) (Q ((o::E).set i none) k d)
  |_=>False:=rfl
theorem rr48:zW (o::E) i Q=match(o::E)[i]? with
  |some (some (k,d))=>bK k.rd (qd d (Q (o::E)))
  |_=>False:=rfl
theorem rr49:∀{r:DR}{as:List Arg}{o:Qc}{E:En}{os:Qa}{Q:QZ},ve r as (o::E) os Q=aq (bS as (o::E) os) λds=>r ds λk v=>aq (oR as (o::E) k v) λE2=>Q E2 k v:=rfl
theorem rr50:∀{sp:cy}{ms:QT}{as:List Arg}{x:XC}{o:Qc}{E:En}{os:Qa}{Q:QZ},z8 sp ms as x (o::E) os Q=aq (bS as (o::E) os) λds=>bK (qi ms as (o::E)) (sp ds (λus k v=>yP ms as (o::E) us k v Q) x):=rfl
theorem rr51:∀{f:DM}{i:Nat}{as:List Arg}{o:Qc}{E:En}{os:Qa}{Q:QZ},yO f i as (o::E) os Q=aq (bS as (o::E) os) λargs=>match(o::E)[i]? with
  |some (some (.ow p,.list ds))=>f ds args λnew v=>Q ((o::E).set i (some (.ow p,.list new))) .sh v
  |_=>False:=rfl
theorem rr52:GV f (o::E) i v Q=match(o::E)[i]? with
  |some (some (_,.int a))=>nJ v λb=>Q ((o::E).set i (some (.sh,.int (f a b))))
  |_=>False:=rfl
theorem rr53:qd (.bool b) Q=Q b:=rfl
theorem rr54:wM (.bool b) Q=Q b:=rfl
theorem rr55:nJ (.int i) Q=Q i:=rfl
theorem rr56:qd (.list ds) Q=Q (!ds.isEmpty):=rfl
theorem rr57:Di (.list ds) Q=Q ds:=rfl
theorem rr58:Di (.tuple ds) Q=Q ds:=rfl
theorem rr59:rK (.list ds) Q=Q ds:=rfl
theorem rr60:oR as (o::E) k v=cC ((eX as).all (fS (o::E))||flat k v) (some (o::E)) (ic (eX as) (o::E)):=rfl
theorem rr61:eX []=[]:=rfl
theorem rr62:eX (.pk i::r)=i::eX r:=rfl
theorem rr63:eX (.ev d::r)=eX r:=rfl
theorem rr64:Kd.fz .sh=true:=rfl
theorem rr65:Kd.fz (.ow false)=true:=rfl
theorem rr66:Kd.fz (.dp false)=true:=rfl
theorem rr67:Kd.fz (.dk false)=true:=rfl
theorem rr68:Kd.fz (.dt false)=true:=rfl
theorem rr69:Kd.rd .sh=true:=rfl
theorem rr70:Kd.rd (.ow p)=true:=rfl
theorem rr71:Kd.rd (.dp p)=true:=rfl
theorem rr72:Kd.rd (.dk p)=true:=rfl
theorem rr73:Kd.rd (.dt p)=true:=rfl
theorem rr74:Kd.pin .sh=false:=rfl
theorem rr75:Kd.pin (.ow p)=p:=rfl
theorem rr76:Kd.pin (.dp p)=p:=rfl
theorem rr77:Kd.pin (.dk p)=p:=rfl
theorem rr78:Kd.pin (.dt p)=p:=rfl
theorem rr79:flat .sh v=lf v:=rfl
theorem rr80:lf (.int i)=true:=rfl
theorem rr81:lf (.bool b)=true:=rfl
theorem rr82:lf (.str s)=true:=rfl
theorem rr83:lf .none=true:=rfl
theorem rr84:(bT ms Q x).xc=x:=rfl
theorem rr85:(bT ms Q x).nx (o::E)=aq (dU ms (o::E)) λus=>Q us .sh .none:=rfl
theorem rr86:(bT ms Q x).rt (o::E) k v=aq (dU ms (o::E)) λus=>Q us k v:=rfl
theorem rr87:dU [] E=some []:=rfl
theorem rr88:dU (true::ms) (some (.ow true,.list es)::E)=(dU ms E).map (.list es::·):=rfl
theorem rr89:dU (false::ms) (o::E)=dU ms E:=rfl
theorem rr90:ini (true::ms) (d::ds)=some (.ow true,d)::ini ms ds:=rfl
theorem rr91:ini (false::ms) (d::ds)=some (.sh,d)::ini ms ds:=rfl
theorem rr92:ini [] []=[]:=rfl
theorem rr93:List.replicate (n+1) (none:Qc)=none::List.replicate n none:=rfl
theorem rr94:List.replicate 0 (none:Qc)=[]:=rfl
theorem rr95:∀{α β:Type}{f:α->β}{a:α},(some a).map f=some (f a):=rfl
theorem rr96:∀{α β:Type}{f:α->Option β}{a:α},(some a).bind f=f a:=rfl
theorem rr97:∀{α:Type}{p:α->Bool},[].all p=true:=rfl
theorem rr98:∀{α:Type}{p:α->Bool}{a:α}{l:List α},(a::l).all p=(p a&&l.all p):=rfl
theorem rr99:(true&&b)=b:=rfl
theorem rr100:(false&&b)=false:=rfl
theorem rr101:(true||b)=true:=rfl
theorem rr102:(false||b)=b:=rfl
theorem rr103:((!true)=false):=rfl
theorem rr104:((!false)=true):=rfl
theorem rr105:∀{α:Type}{l:List α},([]:List α)++l=l:=rfl
theorem rr106:∀{α:Type}{a:α}{l m:List α},(a::l)++m=a::(l++m):=rfl
theorem rr107:gA (o::E) i=match(o::E)[i]? with
  |some o=>bR o
  |none=>false:=rfl
theorem rr108:bK true P=P:=rfl
theorem rr109:bK false P=False:=rfl
theorem rr110:∀{α:Sort u}{a b:α},cC true a b=a:=rfl
theorem rr111:∀{α:Sort u}{a b:α},cC false a b=b:=rfl
theorem rr112:Dw is (.tuple ds) E Q=aq (stK is ds E) Q:=rfl
theorem rr113:stK [] [] E=some E:=rfl
theorem rr114:stK (i::is) (d::ds) (o::E)=cC (gA (o::E) i) (stK is ds ((o::E).set i (some (.sh,d)))) none:=rfl
theorem rr115:jT i []=false:=rfl
theorem rr116:jT i (j::l)=(i==j||jT i l):=rfl
theorem rr117:mF [] ks E=true:=rfl
theorem rr118:mF (i::r) ks E=((!jT i ks&&!jT i r&&gI E i)&&mF r ks E):=rfl
theorem rr119:∀{α:Type}{o:α}{E:List α},(o::E)[0]?=some o:=rfl
theorem rr120:∀{α:Type}{o:α}{E:List α}{n:Nat},(o::E)[n+1]?=E[n]?:=rfl
theorem rr121:∀{α:Type}{o a:α}{E:List α},(o::E).set 0 a=a::E:=rfl
theorem rr122:∀{α:Type}{o a:α}{E:List α}{n:Nat},(o::E).set (n+1) a=o::E.set n a:=rfl
def dv:=aI @rr0<|aI @rr1<|aI @rr2<|aI @rr3<|aI @rr4<|aI @rr5<|aI @rr6<|aI @rr7<|aI @rr8<|aI @rr9<|aI @rr10<|aI @rr11<|aI @rr12<|aI @rr13<|aI @rr14<|aI @rr15<|aI @rr16<|aI @rr17<|aI @rr18<|aI @rr19<|aI @rr20<|aI @rr21<|aI @rr22<|aI @rr23<|aI @rr24<|aI @rr25<|aI @rr26<|aI @rr27<|aI @rr28<|aI @rr29<|aI @rr30<|aI @rr31<|aI @rr32<|aI @rr33<|aI @rr34<|aI @rr35<|aI @rr36<|aI @rr37<|aI @rr38<|aI @rr39<|aI @rr40<|aI @rr41<|aI @rr42<|aI @rr43<|aI @rr44<|aI @rr45<|aI @rr46<|aI @rr47<|aI @rr48<|aI @rr49<|aI @rr50<|aI @rr51<|aI @rr52<|aI @rr53<|aI @rr54<|aI @rr55<|aI @rr56<|aI @rr57<|aI @rr58<|aI @rr59<|aI @rr60<|aI @rr61<|aI @rr62<|aI @rr63<|aI @rr64<|aI @rr65<|aI @rr66<|aI @rr67<|aI @rr68<|aI @rr69<|aI @rr70<|aI @rr71<|aI @rr72<|aI @rr73<|aI @rr74<|aI @rr75<|aI @rr76<|aI @rr77<|aI @rr78<|aI @rr79<|aI @rr80<|aI @rr81<|aI @rr82<|aI @rr83<|aI @rr84<|aI @rr85<|aI @rr86<|aI @rr87<|aI @rr88<|aI @rr89<|aI @rr90<|aI @rr91<|aI @rr92<|aI @rr93<|aI @rr94<|aI @rr95<|aI @rr96<|aI @rr97<|aI @rr98<|aI @rr99<|aI @rr100<|aI @rr101<|aI @rr102<|aI @rr103<|aI @rr104<|aI @rr105<|aI @rr106<|aI @rr107<|aI @rr108<|aI @rr109<|aI @rr112<|aI @rr113<|aI @rr114<|aI @rr115<|aI @rr116<|aI @rr117<|aI @rr118<|aI @rr119<|aI @rr120<|aI @rr121<|@rr122
def dw:
 (∀{o:Qc}{E:En}{i:Nat},aW (o::E) i=match(o::E)[i]? with
  |some o=>bR o
  |none=>false) /\
 (∀{P:Prop},(True/\P)=P) /\
 (∀{P:Prop},(P/\True)=P) /\
 (∀{α:Type}{a:α},(a=a)=True) /\
 (∀{b:Bool},(b||true)=true) /\
 (∀{α:Type}{a b:α},(if True then a else b)=a) /\
 (∀{α:Type}{a b:α},(if False then a else b)=b) /\
 (∀{p:Prop} [Decidable p],(decide p=true)=p) /\
 ((true=false)=False) /\
 ((false=true)=False) /\
 (∀{b:Bool},((!b)=true)=(b=false)) /\
 (∀{p:Prop} [Decidable p],(decide p=false)=¬p) /\
 (type_of%@bY) /\
 (∀{α:Type}{p:Prop} [Decidable p]{a b:α},cC (decide p) a b=if p then a else b) /\
 (∀{p:Prop} [Decidable p]{a b:Prop},cC (decide p) a b=if p then a else b) /\
 (∀{b:Bool}{p q:Prop},cC b p q=if b=true then p else q) /\
 (∀{α:Type}{b:Bool}{p q:α},cC b p q=if b=true then p else q):=
 ⟨(by intro o E i;unfold aW bR;generalize (o::E)[i]?=z;rcases z with _|_|⟨k,d⟩<;>rfl),(by intros;simp),(by intros;simp),(by intros;simp),(by intros;simp),(by intros;simp),(by intros;simp),(by intros;simp),(by intros;simp),(by intros;simp),(by intros;simp),(by intros;simp),@bY,(by intros;rw[bJ];simp only[ND]),(by intros;rw[bJ];simp only[ND]),(by intros;exact bJ),(by intros;exact bJ)⟩
def LB{x:PyData}{l:QM}:c8 (x::l) 0=some x:=by unfold c8 lK;simp
def LR{x y:PyData}{l:QM}:c8 (x::y::l) 1=some y:=by unfold c8 lK;simp;rw[if_pos (by lia)];rfl
def LP{n:Nat}:jm (n+1) 0=some 0:=by unfold jm;simp
def KI{n:Nat}:jm (n+2) 1=some 1:=by unfold jm;simp;lia
theorem rr123:fE [.int a,.int b] P=P .sh (.int (a+b)):=rfl
theorem rr124:fE [.list a,.list b] P=(a.length+b.length<=sizeLine/\P (.ow false) (.list (a++b))):=rfl
theorem rr125:fE [.tuple a,.tuple b] P=((a≠[]/\a.length+b.length<=sizeLine)/\P .sh (.tuple (a++b))):=rfl
theorem rr126:i8 [.int a,.int b] P=P .sh (.int (a-b)):=rfl
theorem rr127:iJ [.int a,.int b] P=(iC a b/\P .sh (.int (a*b))):=rfl
theorem rr128:iJ [.list a,.int k] P=((-(2^63)<=k/\k<2^63/\a.length*k.toNat<=sizeLine)/\P (.ow false) (.list (List.replicate k.toNat a).flatten)):=rfl
theorem rr129:iH [.int a,.int b] P=(0<b/\P .sh (.int (a%b))):=rfl
theorem rr130:qX [.int a,.int b] P=(xC a b/\P .sh (.int (a/b))):=rfl
theorem rr131:uB [.int a,.int b] P=(yD a b/\P .sh (.int (a^b.toNat))):=rfl
theorem rr132:CM [.int a,.int b] P=P .sh (.bool (decide (a<b))):=rfl
theorem rr133:LC [.int a,.int b] P=P .sh (.bool (decide (a<=b))):=rfl
theorem rr134:CW [.int a,.int b] P=P .sh (.bool (decide (b<a))):=rfl
theorem rr135:IL [.int a,.int b] P=P .sh (.bool (decide (b<=a))):=rfl
theorem rr136:oQ [.int a] P=P .sh (.int (-a)):=rfl
theorem rr137:l7 [.int a,.int b] P=P .sh (.bool (decide (a=b))):=rfl
theorem rr138:l7 [.str a,.str b] P=P .sh (.bool (decide (a=b))):=rfl
theorem rr139:lI [.int a,.int b] P=P .sh (.bool !(decide (a=b))):=rfl
theorem rr140:lI [.str a,.str b] P=P .sh (.bool !(decide (a=b))):=rfl
theorem rr141:l7 [.list a,.list b] P=((dl 8 (.list a)=true/\dl 8 (.list b)=true)/\P .sh (.bool (decide (PyData.list a=.list b)))):=rfl
theorem rr142:lI [.list a,.list b] P=((dl 8 (.list a)=true/\dl 8 (.list b)=true)/\P .sh (.bool !(decide (PyData.list a=.list b)))):=rfl
theorem rr143:bf [.list xs,.int i] P=aq (atK xs i) (P .sh):=rfl
theorem rr144:bf [.tuple xs,.int i] P=aq (atK xs i) (P .sh):=rfl
theorem rr145:gc [.list xs] P=P .sh (.int xs.length):=rfl
theorem rr146:gc [.tuple xs] P=P .sh (.int xs.length):=rfl
theorem rr147:lB [.list xs] P=P (.ow false) (.list xs):=rfl
theorem rr148:lB [.tuple xs] P=P (.ow false) (.list xs):=rfl
theorem rr149:jt [.list xs] P=P .sh (.tuple xs):=rfl
theorem rr150:jt [.tuple xs] P=P .sh (.tuple xs):=rfl
theorem rr151:pU [.int a,.int b] P=P .sh (.int (if b<a then b else a)):=rfl
theorem rr152:pR [.int a,.int b] P=P .sh (.int (if b>a then b else a)):=rfl
theorem rr153:u5 [.int a] P=P .sh (.int (if a<0 then-a else a)):=rfl
theorem rr154:kq [.int a] P=P .sh (.int a):=rfl
theorem rr155:kq [.bool b] P=P .sh (.int (if b=true then 1 else 0)):=rfl
theorem rr156:gu [.int j] P=((0<=j/\j<=1000)/\P (.ow false) (.list (iS 0 j.toNat))):=rfl
theorem rr157:dR ds P=(ds.length<=sizeLine/\P (.ow false) (.list ds)):=rfl
theorem rr158:eN ds P=(ds.length<=sizeLine/\P .sh (.tuple ds)):=rfl
theorem rr159:nS false false [.list xs] P=P (.ow false) (.list (cutD xs none none)):=rfl
theorem rr160:nS true false [.list xs,.int a] P=P (.ow false) (.list (cutD xs (some a) none)):=rfl
theorem rr161:nS false true [.list xs,.int b] P=P (.ow false) (.list (cutD xs none (some b))):=rfl
theorem rr162:nS true true [.list xs,.int a,.int b] P=P (.ow false) (.list (cutD xs (some a) (some b))):=rfl
theorem rr163:nS false true [.tuple xs,.int b] P=P .sh (.tuple (cutD xs none (some b))):=rfl
theorem rr164:nU [.int j]=@ite _ (-(2^62)<=j/\j<2^62) (Classical.propDecidable _) (some (iS 0 j.toNat)) none:=rfl
theorem rr165:yT [.int i,.int j]=@ite _ (-(2^62)<=i/\i<2^62/\-(2^62)<=j/\j<2^62) (Classical.propDecidable _) (some (iS i (j-i).toNat)) none:=rfl
theorem rr166:Ae c [d] P=aq (se d) λt=>P .sh (.bool (gH c t)):=rfl
theorem rr167:se (.int i)=some "int":=rfl
theorem rr168:se (.tuple i)=some "tuple":=rfl
theorem rr169:se (.list i)=some "list":=rfl
theorem rr170:se (.bool b)=some "bool":=rfl
theorem rr171:se .none=some "NoneType":=rfl
theorem rr172:gH "int" "int"=true:=rfl
theorem rr173:gH "int" "tuple"=false:=rfl
theorem rr174:gH "tuple" "int"=false:=rfl
theorem rr175:gH "tuple" "tuple"=true:=rfl
theorem rr176:gH "bool" "int"=false:=rfl
theorem rr177:gH "list" "list"=true:=rfl
theorem rr178:gH "int" "NoneType"=false:=rfl
theorem rr179:gH "tuple" "NoneType"=false:=rfl
theorem rr180:fX ds [d] P=(ds.length<sizeLine/\P (ds++[d]) .none):=rfl
theorem rr181:Fg ds [.list es] P=(ds.length+es.length<=sizeLine/\P (ds++es) .none):=rfl
theorem rr182:qE ds [] P=∃d,ds[ds.length-1]?=some d/\P ds.dropLast d:=rfl
theorem rr183:qE ds [.int i] P=((-(2^63)<=i/\i<2^63)/\∃n d,seqIndex? i ds.length=some n/\ds[n]?=some d/\P (ds.eraseIdx n) d):=rfl
theorem rr184:bW (.nm i) d E=bC [i] [d] E:=rfl
theorem rr185:bW (.tp is) (.tuple ds) E=bC is ds E:=rfl
theorem rr186:bC [] [] E=some E:=rfl
theorem rr187:aV [] E=some E:=rfl
theorem rr188:jS.setI (o::E) i w v Q=match(o::E)[i]?,w with
  |some (some (.ow p,.list ds)),.int a=>aq (tY ds.length a) λn=>Q ((o::E).set i (some (.ow p,.list (ds.set n v))))
  |some (some (.dk p,.dict kvs)),w=>(lF w=true/\kvs.length<16777216)/\Q ((o::E).set i (some (.dk p,.dict (putD kvs w v))))
  |some (some (.dt p,.dict (_::kvs))),.tuple ks=>(ks.all lF=true/\kvs.length<16777216)/\Q ((o::E).set i (some (.dt p,.dict ((.none,.none)::putD kvs (.tuple ks) v))))
  |_,_=>False:=rfl
theorem rr189:yP ms as (o::E) us k v Q=aq (iF ms as us (o::E)) λE2=>aq (pK ms as us E2 k v) λE3=>Q E3 k v:=rfl
theorem rr190:iF [] [] [] E=some E:=rfl
theorem rr191:iF (false::ms) (a::r) us E=iF ms r us E:=rfl
theorem rr192:iF (true::ms) (.pk i::r) (u::us) (o::E)=match(o::E)[i]? with
  |some (some (.ow p,.list _))=>cC (vM u) (iF ms r us ((o::E).set i (some (.ow p,u)))) none
  |_=>none:=rfl
theorem rr193:vM (.list l)=true:=rfl
theorem rr194:pK ms as us (o::E) k v=cC ((kept ms as).all (fS (o::E))||(flat k v&&us.all (flat (.ow false)))) (some (o::E)) (ic (kept ms as) (o::E)):=rfl
theorem rr195:kept [] []=[]:=rfl
theorem rr196:kept (false::ms) (.pk i::r)=i::kept ms r:=rfl
theorem rr197:kept (false::ms) (.ev d::r)=kept ms r:=rfl
theorem rr198:kept (true::ms) (a::r)=kept ms r:=rfl
theorem rr199:qi ms as (o::E)=(shape ms as&&mF (lent ms as) (kept ms as) (o::E)):=rfl
theorem rr200:lent [] []=[]:=rfl
theorem rr201:lent (true::ms) (.pk i::r)=i::lent ms r:=rfl
theorem rr202:lent (false::ms) (a::r)=lent ms r:=rfl
theorem rr203:shape [] []=true:=rfl
theorem rr204:shape (true::ms) (.pk i::r)=shape ms r:=rfl
theorem rr205:shape (false::ms) (a::r)=shape ms r:=rfl
theorem rr206:∀{α:Type},([]:List α).length=0:=rfl
theorem rr207:∀{α:Type}{a:α}{l:List α},(a::l).length=l.length+1:=rfl
theorem rr208:sizeLine=16777216:=rfl
theorem rr209:∀{f:DE->Arg},List.map f []=[]:=rfl
theorem rr210:∀{f:DE->Arg}{a:DE}{l:List DE},List.map f (a::l)=f a::List.map f l:=rfl
theorem rr211:atK (x::l) 0=some x:=rfl
theorem rr212:atK (x::y::l) 1=some y:=rfl
theorem rr213:tY (n+1) 0=some 0:=rfl
theorem rr214:tY (n+2) 1=some 1:=rfl
theorem rr215:tY (n+1+1) 1=some 1:=rfl
def LQ:(∀{x:PyData}{l:QM},c8 (x::l) 0=some x)/\(∀{x y:PyData}{l:QM},c8 (x::y::l) 1=some y)/\(∀{n:Nat},jm (n+1) 0=some 0)/\(∀{n:Nat},jm (n+2) 1=some 1)/\(∀{n:Nat},jm (n+1+1) 1=some 1)/\(∀{P:Qd},dQ false [.none,.none] P=P .sh (.bool true))/\(∀{P:Qd},dQ true [.none,.none] P=P .sh (.bool false))/\(∀{i:Int}{P:Qd},dQ false [.int i,.none] P=P .sh (.bool false))/\(∀{i:Int}{P:Qd},dQ true [.int i,.none] P=P .sh (.bool true))/\(∀{i:QM}{P:Qd},dQ false [.tuple i,.none] P=P .sh (.bool false))/\(∀{i:QM}{P:Qd},dQ true [.tuple i,.none] P=P .sh (.bool true))/\(∀{d:PyData}{xs:QM}{P:Qd},jX false [d,.list xs] P=((xs.all (dl 8)=true/\dl 8 d=true)/\P .sh (.bool (decide (d∈xs)))))/\(∀{d:PyData}{xs:QM}{P:Qd},jX true [d,.list xs] P=((xs.all (dl 8)=true/\dl 8 d=true)/\P .sh (.bool !(decide (d∈xs)))))/\(∀{d:PyData}{xs:QM}{P:Qd},jX false [d,.tuple xs] P=((xs.all (dl 8)=true/\dl 8 d=true)/\P .sh (.bool (decide (d∈xs)))))/\(∀{d:PyData}{xs:QM}{P:Qd},jX true [d,.tuple xs] P=((xs.all (dl 8)=true/\dl 8 d=true)/\P .sh (.bool !(decide (d∈xs)))))/\(∀{i:Nat}{is:QW}{d:PyData}{ds:QM}{o:Qc}{E:En},bC (i::is) (d::ds) (o::E)=if aW (o::E) i then bC is ds ((o::E).set i (some (.sh,d)))else none)/\(∀{i:Nat}{r:QW}{o:Qc}{E:En},aV (i::r) (o::E)=if aW (o::E) i then aV r ((o::E).set i none)else none)/\(∀{i:Nat},List.contains [] i=false)/\(∀{i j:Nat}{l:QW},List.contains (j::l) i=(i==j||List.contains l i))/\(∀{α:Type},(([]:List α).Nodup)=True)/\(∀{i:Nat},([i]:QW).Nodup=True)/\type_of%@qz/\type_of%@u9:=
 ⟨LB,LR,LP,KI,KI,(by simp[dQ]),(by simp[dQ]),(by simp[dQ]),(by simp[dQ]),(by simp[dQ]),(by simp[dQ]),(by intro d xs P;cases d<;>rfl),(by intro d xs P;cases d<;>rfl),(by intro d xs P;cases d<;>rfl),(by intro d xs P;cases d<;>rfl),rfl,rfl,(by intros;simp),(by intros;rw[PV]),(by intros;simp),(by intros;simp),@qz,@u9⟩
def dx:=aI @rr123<|aI @rr124<|aI @rr125<|aI @rr126<|aI @rr127<|aI @rr128<|aI @rr129<|aI @rr130<|aI @rr131<|aI @rr132<|aI @rr133<|aI @rr134<|aI @rr135<|aI @rr136<|aI @rr137<|aI @rr138<|aI @rr139<|aI @rr140<|aI @rr141<|aI @rr142<|aI @rr143<|aI @rr144<|aI @rr145<|aI @rr146<|aI @rr147<|aI @rr148<|aI @rr149<|aI @rr150<|aI @rr151<|aI @rr152<|aI @rr153<|aI @rr154<|aI @rr155<|aI @rr156<|aI @rr157<|aI @rr158<|aI @rr159<|aI @rr160<|aI @rr161<|aI @rr162<|aI @rr163<|aI @rr164<|aI @rr165<|aI @rr166<|aI @rr167<|aI @rr168<|aI @rr169<|aI @rr170<|aI @rr171<|aI @rr172<|aI @rr173<|aI @rr174<|aI @rr175<|aI @rr176<|aI @rr177<|aI @rr178<|aI @rr179<|aI @rr180<|aI @rr181<|aI @rr182<|aI @rr183<|aI @rr184<|aI @rr185<|aI @rr186<|aI @rr187<|aI @rr188<|aI @rr189<|aI @rr190<|aI @rr191<|aI @rr192<|aI @rr193<|aI @rr194<|aI @rr195<|aI @rr196<|aI @rr197<|aI @rr198<|aI @rr199<|aI @rr200<|aI @rr201<|aI @rr202<|aI @rr203<|aI @rr204<|aI @rr205<|aI @rr206<|aI @rr207<|aI @rr208<|aI @rr209<|aI @rr210<|aI @rr211<|aI @rr212<|aI @rr213<|aI @rr214<|aI @rr215<|@LQ
end Dv
namespace L2
open PySem PySem.Spec PyProof.Rows
def zf{K:QJ}{mb:QE}{CX:jM}{k:Nat}{fa a:Addr}{sp:Sp}{s₁:Shared}{vs:QO}{ns:QX}(KX:K.In s₁.heap)(hns:s₁.heap.Ns mainGlobals mg)(hb:s₁.heap.Ns builtinsNs mb)(hbb:∀x:Str,x≠"__name__"->mb x=bootBuiltins x)(hlim:s₁.heap.NoLimit)(hg:s₁.gens=#[])(ha:s₁.heap.get? a=some { cls:=.type "list",data:=.seq vs.toArray })(hi:IntsAre vs ns)(hl:ns.length<=sizeLine)(hr:b8 k callerA)(F:∀base:Heap,K.In base->base.Ns mainGlobals mg->eT P w K mg base CX k fa fd [x] sp)(hbind:∀(s:Shared)(u:Value),BindsTo s fd ⟨[u],[]⟩ [(x,u)])(hsp:∀H:Hp,BQ H->Dv.bX K H a (ns.map V.int)->sp [.ref a] H (λv _=>v=.bl true) λ_ _ _=>False)(hCX:∀H e s',CX [] H s₁ (λ_ _ _=>False) e s'->False) : codeAny (model P w) callerA (.call (.ref fa) ⟨[.ref a],[]⟩) (λr s'=>r=.ok (.ret (.bool true))/\OldK s₁.heap s'.heap/\s'.os=s₁.os/\AllBare s'.gens) s₁:=by
 have rv:=rZ hi;have uy:=hi.length
 -- from an abstract heap in which nothing but the script may be tracked
 have core:∀H:Hp,BQ H->Dv.bX K H a (ns.map V.int)->cA P w H s₁.heap->(∀b,H b≠none->b=a)->(H a≠none->K.lookup a=none)->
   codeAny (model P w) callerA (.call (.ref fa) ⟨[.ref a],[]⟩) (λr s'=>r=.ok (.ret (.bool true))/\OldK s₁.heap s'.heap/\s'.os=s₁.os/\AllBare s'.gens) s₁:=by
  intro H hO hS hok hA hK;have base_of:∀{b:Addr}{o:Obj},s₁.heap.get? b=some o->H b=none->(kJ s₁.heap H).get? b=some o:=λe n=>BR e n
  have noA:∀{b:Addr}{o:Obj}{es:Array DictEntry}{ep:Nat},s₁.heap.get? b=some o->o.data=.dict es ep->H b=none:=λ{b o es ep} e d=>by
   cases q:H b with
   |none=>rfl
   |some u=>
    have e':b=a:=hA b (by rw[q];simp)
    subst e';rw[ha]at e;cases e;have d':Data.seq vs.toArray _=Data.dict es ep:=d;cases d'
  have nsK:∀{b:Addr}{m:QE},s₁.heap.Ns b m->(kJ s₁.heap H).Ns b m:=λ{b m} ⟨o,es,ep,e,d,r⟩=>⟨o,es,ep,base_of e (noA e d),d,r⟩
  have hKb:K.In (kJ s₁.heap H):=λb o e=>base_of (KX b o e) (by
   cases q:H b with
   |none=>rfl
   |some u=>
    have e':b=a:=hA b (by rw[q];simp)
    subst e';rw[hK (by rw[q];simp)]at e;cases e)
  have hM:Mod K mg (kJ s₁.heap H):=⟨hKb,nsK hns,⟨mb,nsK hb,hbb⟩,let⟨mc,h1,h2⟩:=hlim;⟨mc,nsK h1,h2⟩⟩
  have e0:yy P w K mg (kJ s₁.heap H) callerA [] s₁ H:=⟨rfl,hM,λb o e=>EB e,N8 (Au _ _),trivial,λb hb=>absurd (show b∈([]:QS)from hb) (by simp),hok,.of_eq hg⟩
  refine OO ((F _ hKb (nsK hns)).run callerA [] s₁ H ⟨[.ref a],[]⟩ [.ref a] [.ref a] _ _ hr e0 (hbind s₁ (.ref a)) (.cons rfl .nil) (hsp H hO hS)) λr s' h=>?_
  cases r with
  |error e=>exact(hCX H e s' h).elim
  |ok fl=>
   cases fl with
   |next=>exact False.elim h
   |brk=>exact False.elim h
   |cont=>exact False.elim h
   |ret u=>
    obtain⟨v,H',os,bare,un,hok',r',q⟩:=h;have q':v=.bl true:=q;subst q';obtain rfl:u=Value.bool true:=r';refine⟨rfl,OldK.of_keep λb o e=>?_,os,bare⟩
    cases q:H b with
    |none=>exact un.keep b o e q (by intro z;exact absurd (show b∈([]:QS)from z) (by simp)) (by simp)
    |some u=>
     rcases hO b with z|⟨ob,xs,z⟩
     .rw[q]at z;cases z
     .have z2:=un.gq b ob _ z;obtain⟨e1,_⟩:=hok b _ z;obtain⟨e2,_⟩:=hok' b _ z2;rw[e]at e1;cases e1;exact e2
 cases hk:K.lookup a with
 |some o=>
  -- the script is one of the module's own objects
  have e:=KX a o hk;rw[ha]at e;cases e;refine core (λ_=>none) (λ_=>.inl rfl) (.inr ⟨vs,_,hk,by rw[uy];exact hl,rv⟩) (λb u z=>by have z':(none:Option HO)=some u:=z;cases z') (λb z=>absurd rfl z) λz=>absurd rfl z
 |none=>
  refine core (λb=>if b=a then some (.d7 { cls:=.type "list",data:=.seq vs.toArray } (.lst (ns.map V.int)))else none) (λb=>?_) (.inl (.inr ⟨{ cls:=.type "list",data:=.seq vs.toArray },if_pos rfl⟩)) (λb u z=>?_) (λb z=>?_) λ_=>hk
  .by_cases hb:b=a
   .exact .inr ⟨_,_,if_pos hb⟩
   .exact .inl (if_neg hb)
  .by_cases hb:b=a
   .have z':=(if_pos hb).symm.trans z;cases z';subst hb;exact⟨ha,by rw[M9];exact hl,vs,_,rv,ha⟩
   .have z':=(if_neg hb).symm.trans z;cases z'
  .by_cases hb:b=a
   .exact hb
   .exact absurd (if_neg hb) z
def Ij{l:PySem.W.OpenLaw}{n k:Nat}{YP:World->Heap->Prop}{d:DefRec}{K:Params->QJ}{CX:World->jM}{sp:World->Sp}(hn:l.most=some n)(hn2:n<=sizeLine)(hdf:d.params.defaults=[])(hr:b8 k callerA)(hY:∀(w:World)(h:Heap),YP w h->(K w.params).In h)(F:∀(w:World)(mg:QE)(fa:Addr)(h:Heap),(K w.params).In h->h.Ns mainGlobals mg->mg d.name=some (.ref fa)-> ∃fd:FuncData,(∀(s:Shared)(u:Value),BindsTo s fd ⟨[u],[]⟩ [(x,u)]) /\ ∀base:Heap,(K w.params).In base->base.Ns mainGlobals mg->eT l.prog w (K w.params) mg base (CX w) k fa fd [x] (sp w))(hsp:∀(w:World)(H:Hp)(a:Addr)(ns:QX),ns.length<=n->BQ H->Dv.bX (K w.params) H a (ns.map V.int)->sp w [.ref a] H (λv _=>v=.bl true) λ_ _ _=>False)(hCX:∀(w:World)(H:Hp)(s:Shared)(e:Value)(s':Shared),CX w [] H s (λ_ _ _=>False) e s'->False) : PySem.W.WalkO q loose XP YP l.row.toRowW d [] (λf vs=>PySem.call f vs):=by refine Km.vo hn hdf λw s₀ s₁ mg mb fa o pm cd doc a vs ns G Qi ho hd hcd hmg hobj hints hlen hg=>?_;have KX:=hY w _ Qi;obtain⟨fd,hb,hF⟩:=F w mg fa _ KX G.T.g hmg;exact zf KX G.T.g G.T.b G.T.builtins G.T.nolimit hg hobj hints (MZ hlen hn2) hr hF hb (λH hO hS=>hsp w H a ns hlen hO hS) λH e s'=>hCX w H s₁ e s'
end L2
namespace Dv
open PySem L2 PySem.W
inductive wH(K:Frag)(vs:List V)(H:Hp)(Q:VK):Prop
 |mk:∀(a:Addr)(ns:QX),(vs=[.ref a])->(bX K H a (ns.map V.int))->(ns.length<=63)->(∀H',Q (.bl true) H')->wH K vs H Q
def zm(K:Frag):Sp:=λvs H Q _E3=>wH K vs H Q
def q8:cy:=λds Q x=>∃ns:QX,ds=[.list (ns.map .int)]/\ns.length<=63/\Q [] .sh (.bool true)
def DU(h:zm K vs H Q E):c9 mg K [false] q8 vs H Q E:=by
 obtain⟨a,ns,rfl,r,hl,q⟩:=h;refine⟨[.list (ns.map .int)],[],H,λ_ _ r=>r=.bool true,xF,af.refl _,.sh (.lst r (kQ ns)) .nil,⟨ns,rfl,hl,rfl⟩,λus k r u H' Hm' fp e _ _ _ _ _ o _=>?_,λ_ _ _ _ _ _ z=>z.elim⟩;cases e;cases o with
 |sh h=>cases h;exact q H'
def yG{l:OpenLaw}{YP:World->Heap->Prop}{d:DefRec}{K:Params->Frag}{k:Nat}(hn:l.most=some 63)(hdf:d.params.defaults=[])(hr:b8 k callerA)(hY:∀(w:World)(h:Heap),YP w h->(K w.params).In h)(F:∀(w:World)(mg:QE)(fa:Addr)(h:Heap),(K w.params).In h->h.Ns mainGlobals mg->mg d.name=some (.ref fa)-> ∃fd:FuncData,(∀(s:Shared)(u:Value),BindsTo s fd ⟨[u],[]⟩ [("script",u)])/\∀base:Heap,(K w.params).In base->base.Ns mainGlobals mg->eT l.prog w (K w.params) mg base (dP l.prog w) k fa fd ["script"] (c9 mg (K w.params) [false] q8)) : WalkO q loose XP YP l.row.toRowW d [] (λf vs=>PySem.call f vs):=
 L2.Ij (n:=63) (k:=k) (x:="script") (CX:=λw=>dP l.prog w) (sp:=λw=>zm (K w.params)) hn (by decide) hdf hr hY (λw mg fa h h1 h2 h3=>by
  obtain⟨fd,hb,hF⟩:=F w mg fa h h1 h2 h3;exact⟨fd,hb,λbase g1 g2=>(hF base g1 g2).imp λvs H Q E z=>DU z⟩) (λ_ _ a ns hl _ hS=>⟨a,ns,rfl,hS,hl,λ_=>rfl⟩) λw H s e s' z=>by
  obtain⟨_,_,_,_,_,_,_,_,_,_,_,_,_,_,z⟩:=z;exact z.elim
def Ca:∀{zs ys:List V},zs.Perm ys->∀{ps:QI},ak K H ys (ps.map pD)->∃qs:QI,qs.Perm ps/\ak K H zs (qs.map pD):=by
 intro zs ys h;induction h with
 |nil=>intro ps r;exact⟨ps,.refl _,r⟩
 |cons x _ ih=>
  intro ps r;cases ps with
  |nil=>cases r
  |cons p ps=>
   cases r with
   |cons h t=>obtain⟨qs,pq,r'⟩:=ih t;exact⟨p::qs,pq.cons _,.cons h r'⟩
 |swap x y l=>
  intro ps r
  match ps,r with
  |p::p2::ps,.cons h (.cons h2 t)=>exact⟨p2::p::ps,OX _ _ _,.cons h2 (.cons h t)⟩
 |trans _ _ ih1 ih2=>intro ps r;obtain⟨q1,p1,r1⟩:=ih2 r;obtain⟨q2,p2,r2⟩:=ih1 r1;exact⟨q2,p2.trans p1,r2⟩
end Dv
namespace Dv
open PySem L2 PySem.W PyProof.Rows
def sr{M:Model}{A:Around}{E:QC}{s:Shared}{a b:Value}{T id:String}{Q:QC}(ha:s.TypeIs a T)(hb:s.TypeIs b T)(hl:typeLookup (.type T) (dunderI "add")=pure (some (.builtin id)))(hi:isSeqSlotId id=true)(hfill:fillsNumberSlot (.type T) "add"=pure false)(hc:wpAny M A (call (.builtin id) [a,b]) Q E s):wpAny M A (inplaceOp .Add a b) Q E s:=by
 unfold inplaceOp;refine Mx ?_;have hfi:fillsInplaceSlot (.type T) "add" (Operator.Add == .Add)=pure false:=by unfold fillsInplaceSlot;show(typeLookup (.type T) (dunderI "add")>>=λfi=>pure (fi.isSome&&!isSeqSlot fi))=pure false;rw[hl];show(pure ((some (Value.builtin id)).isSome&&!isSeqSlotId id):Sem Bool)=pure false;rw[hi];rfl
 have hsi:seqSlot? (.type T) (dunderI "add")=pure (some (.builtin id)):=PySem.seqSlot_of hl hi;refine M1 (OR ha (M1 (wpAny_of_eq hfi ?_)));show wpAny M A (if false=true then _ else _) Q E s;rw[if_neg MJ];refine M1 (binaryOp1_none (nm:="add") ha hb hfill ?_);refine M1 (wpAny_of_eq hsi ?_);exact M1 (Ml hc)
def Lx(K:Frag):DK:=λx y H Q=>∃l b xs zs,x=.ref l/\y=.ref b/\H l=some (.lst xs)/\bX K H b zs/\xs.length+zs.length<=sizeLine/\Q (.ref l) (upd H l (.lst (xs++zs)))
section
variable{X:Cx}{Ex:XK}
def FJ:Kg X .Add (Lx X.K):=by
 intro pins s U H x y v u Q I rx ry h;obtain⟨l,b,xs,zs,rfl,rfl,hH,hB,hz,q⟩:=h;cases rx;cases ry;obtain⟨z,its,n,r,hl,e⟩:=I.tP hH;obtain⟨z2,its2,n2,r2,e2⟩:=hB.get I;have hl2:=r2.length;have hsz:its.toArray.size+its2.toArray.size<=sizeLine:=by rw[MK,MK];lia
 have hlong:¬(!its.toArray.isEmpty&&Builtin.List.listTooLong (its.toArray.size+its2.toArray.size))=true:=by rw[tX hsz,Bool.and_false];exact MJ
 refine sr (T:="list") ⟨_,e,rfl⟩ ⟨_,e2,rfl⟩ F.slot_list_iadd.lookup (by decide+kernel) noFill_list_add ?_;refine Nm F.slot_list_iadd ⟨_,e,rfl⟩ F.entry_list_iadd (F.args_list_iadd_2 _ _)
  (AutoSeq1.list___iadd___list_list_0 l its.toArray n b its2.toArray n2 hlong (by rw[MK];lia) (by lia)) ⟨e,e2,?_⟩
 refine⟨.ref l,_,I.xQ (its':=its++its2) hH e (by simp) (r.append r2) ?_,rfl,q⟩;rw[MV];lia
def Ka{i:Nat}(hN:X.N.Nodup)(hi:X.N[i]?=some x)(hl:Loc X.env.scope x)(hf:X.fn x=true\/X.env.scope.names.lookup x=some .local)(h:SE X Ex (aJ X) e d):S1 X Ex (.AugAssign (.Name x pos') .Add e pos) (tS sizeLine i d):=by
 intro g D' E U H Hm F D hx R p nx rt;obtain⟨hh,p⟩:=p;have hh':here E i=true:=by unfold gI at hh;unfold here;split at hh;{rename_i q;rw[q]};cases hh
 obtain⟨v0,hv0⟩:=jC R hh';refine WS.of (HE hN hi hl bz FJ hf) ⟨v0,b6 (cR (aF hi)) hv0,h g D'.xc E U H Hm F _ _ hx R p λE' k v u H' Hm' F' fp p' R' s' T=>?_⟩;obtain⟨fz,pp,ds,es,e1,rfl,hlen,p'⟩:=p';obtain⟨Hm2,up,R2,rp⟩:=T.d7 R' fz;obtain⟨b,zs,rfl,hb,rz⟩:=kF rp;obtain⟨v1,h1,h2⟩:=R2.slot i _ _ e1;rw[hv0]at h1;cases h1;generalize hfi:F' i=fi at h2;cases h2 with
 |@ow _ a xs _ ha rx=>
  obtain⟨a',xs',g1,g2,g3,g4,R3⟩:=R2.chg (es:=ds++es) e1 (rx.app rz);rw[hv0]at g1;cases g1;rw[ha]at g2;cases g2;refine⟨a,b,xs,zs,rfl,rfl,ha,bX.mono R2.sub hb,by rw[rx.len,rz.len];exact hlen,?_⟩;show D.nx ((sel (aJ X) U).set i (some (.ref a))) _;have hsel:(sel (aJ X) U).set i (some (.ref a))=sel (aJ X) U:=by refine Nc λj=>?_;rw[Nd];by_cases c:i=j;{subst c;have:=b6 (cR (aF hi)) hv0;rw[if_pos rfl,this,if_pos];rcases Mv i (sel (aJ X) U).length with z|z;{exact z};rw[Mk z]at this;cases this};rw[if_neg c]
  rw[hsel];exact nx _ _ _ _ _ p' R3 (s'.trans up)
def K3(i:Nat)(hN:X.N.Nodup)(h:SE X Ex (aJ X) e d)(hi:X.N[i]?=some x:=by rfl)(hl:Loc X.env.scope x:=by first|exact Or.inl rfl|exact Or.inr rfl)(hf:X.fn x=true\/X.env.scope.names.lookup x=some .local:=by first|exact Or.inl rfl|exact Or.inr rfl):S1 X Ex (.AugAssign (.Name x pos') .Add e pos) (tS sizeLine i d):=Ka hN hi hl hf h
end
end Dv
namespace Dv
open PySem L2 PySem.W
def L6:DE:=λ_ E Q=>Q E (.st false) (.dict [(.none,.none)])
def Rec(K:Frag) (x:Str)(st:Stmt):Prop:=∃(f:Addr)(fd:FuncData),nsIn K mainGlobals x=some (some (.ref f))/\qg K x x st f fd
def IC{K:Frag}{x:Str}{st:Stmt}{f:Addr}{oc:Value}{od an:QN}{osl:QB}{kV doc pm cdv ct:Value}(n:nsIn K mainGlobals x=some (some (.ref f)))(l:K.lookup f=some ⟨oc,od,.func (fnOf x x (iX st) (fZ st) (aA st) .none kV doc pm an cdv ct),osl⟩)(c:codeIn K cdv x=true)(k:keepIn K (.ref f)=true):Rec K x st:=⟨f,_,n,Gb l c k⟩
def BB(K:Frag) (x:Str):Prop:=∃C,nsIn K mainGlobals x=some (some (.ref C))/\iw K C lY "ValueError.__new__" none=true
def EN{K:Frag}{x:Str}{C:Addr}(h1:nsIn K mainGlobals x=some (some (.ref C)))(h2:iw K C lY "ValueError.__new__" none=true):BB K x:=⟨C,h1,h2⟩
def cz{P:Program}{w:World}{K:Frag}{base:Heap}{mg:QE}{k:Nat}{x:Str}{ps:QY}{sp:Sp}{st:Stmt}(N:∃h:Heap,K.In h/\h.Ns mainGlobals mg)(r:Rec K x st)(b:∀(kV doc pm:Value)(an:QN)(cdv ct:Value)(us:QO),us.length=ps.length->bindArgs (fnOf x x (iX st) (fZ st) (aA st) .none kV doc pm an cdv ct) ⟨us,[]⟩=pure (ps.zip us))(ok:∀{f:Addr}{fd:FuncData},qg K x x st f fd->eT P w K mg base (dP P w) k f fd ps sp):cO P w K mg base k x ps sp:=by obtain⟨f,fd,n,F⟩:=r;obtain⟨h,X,G⟩:=N;exact⟨f,fd,mg_of X G n,F.kp,F.binds b,ok F⟩
def wK(s:af H H2){a:Addr}(h:H2 a=none):H a=none:=by
 cases e:H a with
 |none=>rfl
 |some o=>rw[s _ _ e]at h;cases h
def aZ.up(q:aZ K H Hm P Q)(s:af H H2):aZ K H2 Hm P Q:=λk v u H' Hm' fp pp s1 s2 s3 od o fr=>
 q k v u H' Hm' fp pp (s.trans s1) s2 s3 (λa ha=>od a λz=>ha (wK s z)) o λa ha=>⟨wK s (fr a ha).1,(fr a ha).2⟩
def GP(c:Str):PyData:=.dict [(.none,.str c)]
def iR(c b:Str):Bool:=decide (b=c)||(decide (b="HailError")||decide (b="ValueError"))
abbrev XH:=En->Str->Prop
abbrev DB:=XH->eB->En->Prop
def AM(o:Option Nat)(E:En)(k:Kd)(v:PyData)(Q:Qh):Prop:=match o with
 |none=>Q E
 |some i=>bK (gA E i) (Q (E.set i (some (k,v))))
def C7(sp:cy)(as:List Arg)(o:Option Nat):DB:=λh D E=>gE as xF E λE1 os=>aq (bS as E1 os) λds=>bK ((eX as).all (fS E1)) (sp ds (λ_ k v=>AM o E1 k v D.nx) (λc _=>h E1 c))
def LG(t:DT)(a b:DB):DB:=λh D E=>t xF E λE1 c=>cC c (a h D E1) (b h D E1)
def BS(cs:QY) (B:Str)(b:DB) (i:Nat)(t:DS):DS:=λD E=>b (λE1 c=>bK (cs.contains c&&iR c B) (bK (gA E1 i) (t { nx:=λE2=>bK (gA E2 i) (D.nx (E2.set i none)),rt:=D.rt,xc:=xF } (E1.set i (some (.sh,GP c)))))) D E
def JA(cs:QY) (B:Str)(b:DB)(t:DS):DS:=λD E=>b (λE1 c=>bK (cs.contains c&&iR c B) (t { D with xc:=xF } E1)) D E
def SB(X:Cx)(st:QV)(d:DB):Prop:=∀(pins:QF)(Hd:HD)(g:Gh)(h:XH)(D':eB)(E:En)(U:St)(H Hm:Hp)(F:Nat->QS)(D:Ends),Rl X.K g E U H Hm F->d h D' E->
  (∀E' σ' H' Hm' F',D'.nx E'->Rl X.K g E' σ' H' Hm' F'->af Hm Hm'->D.nx (sel (aJ X) σ') H')->
  (∀E' c C a H' Hm' F',h E' c->X.mg c=some (.ref C)->Rl X.K g E' U H' Hm' F'->af Hm Hm'->Hm' a=some (.ext (dI a C none))->Hd (sel (aJ X) U) C a H')->lH (fH X pins Hd) st D (sel (aJ X) U) H
section
variable{X:Cx}{Ex:XK}
def Jy:∀{ms:QT}{vs:List V}{ds:QM},ak K Hm vs ds->ms.length=ds.length->ms.all (!·)=true->Ag K H Hm ms vs ds []:=by
 intro ms;induction ms with
 |nil=>intro vs ds h e _;cases h with|nil=>exact .nil|cons _ _=>cases e
 |cons b ms ih=>
  intro vs ds h e n;rw[MG,MA]at n;cases h with
  |nil=>cases e
  |cons r t=>
   cases b with
   |true=>cases n.1
   |false=>exact .sh r (ih t (Nat.succ.inj e) n.2)
theorem oF:∀{as:List Arg}{E:En}{os:Qa}{ds:QM},fill as E os=some ds->ds.length=as.length
 |[],_,[],_,h=>by cases h;rfl
 |[],_,_::_,_,h=>by cases h
 |.pk i::r,E,none::os,ds,h=>by
  rw[fill]at h;split at h
  .split at h
   .cases e:fill r E os with
    |none=>rw[e]at h;cases h
    |some es=>rw[e]at h;cases h;exact congrArg (·+1) (oF e)
   cases h
  cases h
 |.ev _::r,E,some v::os,ds,h=>by
  rw[fill]at h;cases e:fill r E os with
  |none=>rw[e]at h;cases h
  |some es=>rw[e]at h;cases h;exact congrArg (·+1) (oF e)
 |.pk _::_,_,[],_,h=>by cases h
 |.pk _::_,_,some _::_,_,h=>by cases h
 |.ev _::_,_,[],_,h=>by cases h
 |.ev _::_,_,none::_,_,h=>by cases h
def Fi{k:Nat}(hex:X.ex=[])(Fn:cO X.prog X.w X.K X.mg X.base k x ps (c9 X.mg X.K ms sp))(hr:b8 k X.A)(hg:Gl X x)(hd:(x==("__debug__":Str))=false)(ns:(e::es).all noStar=true)(hms:ms.all (!·)=true)(hl:ms.length=as.length)(S:aH (fH X pins Hd) E0 (aJ X) (e::es) as){F:Nat->QS}(R:Rl X.K g E U H Hm F)(q:C7 sp as o h D' E)(nx:∀E1 F1 k v u H' Hm' fp,AM o E1 k v D'.nx->Rl X.K g E1 U H' Hm' F1->af Hm Hm'->Tm X.K g F1 H' Hm' k u v fp->Q u H')(xh:∀E' c C a H' Hm' F',h E' c->X.mg c=some (.ref C)->Rl X.K g E' U H' Hm' F'->af Hm Hm'->Hm' a=some (.ext (dI a C none))->Hd (sel (aJ X) U) C a H') : WE (fH X pins Hd) (.Call (.Name x p) (e::es) [] pos) (sel (aJ X) U) H Q:=by
 refine WE.of (Ea hex Fn hr hg (cX ns) hd (aS (by rw[MG,MA]at ns;exact ns.1)) (eU (by rw[MG,MA]at ns;exact ns.2))) ?_;refine jh (X:=fH X pins Hd) (Ex:=E0) XL.no S R q λE1 os vs H1 Hm1 F1 p R1 s1 G=>?_;rw[<-aR,dS]at p;obtain⟨ds,hf,p⟩:=p;rw[bY]at p;obtain⟨hsh,p⟩:=p;have hF:∀i∈eX as,∀a∈F1 i,Hm1 a=H1 a:=λi hi a ha=>by have:=MI.mp hsh i hi;unfold fS at this;split at this;{rename_i d e;obtain⟨v,_,o⟩:=R1.slot i _ _ e;generalize F1 i=fi at o ha;cases o;cases ha};cases this
 have rs:=mR R1 (af.refl Hm1) G hf hF;show c9 X.mg X.K ms sp (vs++[]) H1 Q _;rw[NI];refine⟨ds,[],Hm1,_,_,R1.sub,Jy rs (by rw[hl,oF hf]) hms,p,λus k r u H' Hm' fp p sM sS fr old bk o new=>?_,λc d C a H' hC hxc fr ha hn=>?_⟩
 .have sH:af H1 H':=λb u e=>fr b u NK e;have off:∀i a,a∈F1 i->Hm' a=none:=λi a ha=>by obtain⟨u,hu,nt⟩:=R1.aX i a ha;rcases old a NK (by rw[hu];simp)with z|⟨_,xs,z⟩;{rw[z];exact R1.off i a ha};have:=sS _ _ z;rw[sH _ _ hu]at this;cases this;exact absurd rfl (nt xs)
  refine nx E1 F1 k r u H' Hm' fp p (R1.grow sH sM sS off λa ha=>?_) (s1.trans sM) ⟨o,λa ha=>(new a ha).2,λa ha i z=>R1.fresh (new a ha).1 z,λa ha=>R1.eK (new a ha).1⟩;exact old a NK (R1.mY ha)
 have sH:af H1 H':=λb u e=>fr b u NK e;have hm1:=R1.pL hn;refine⟨C,a,rfl,rfl,xh E1 c C a H' (upd Hm1 a (.ext (dI a C none))) F1 hxc hC (R1.grow sH (bI hm1) (λb u e=>?_) (λi b hb=>?_) λb hb=>.inl ?_) (s1.trans (bI hm1)) aB⟩;{by_cases z:b=a;{subst z;rw[aB]at e;cases e;exact ha};rw[ai z]at e;exact sH _ _ (R1.sub _ _ e)};{rw[ai (show b≠a from λz=>R1.fresh hn (z▸hb))];exact R1.off i b hb};rw[ai (show b≠a from λz=>hb (by rw[z];exact R1.eK hn))]
def ES{k k':Nat}(Fn:cO X.prog X.w X.K X.mg X.base k x ps (c9 X.mg X.K ms sp))(hr:b8 k' X.A)(S:∀pins Hd,aH (fH X pins Hd) E0 (aJ X) (e::es) as)(hk:k<=k':=by decide)(hex:X.ex=[]:=by rfl)(hg:Gl X x:=by rfl)(hd:(x==("__debug__":Str))=false:=by decide)(ns:(e::es).all noStar=true:=by rfl)(hms:ms.all (!·)=true:=by rfl)(hl:ms.length=as.length:=by rfl)(hs:swapsWith (.Call (.Name x p) (e::es) [] pos) none pos2.line X.env=pure false:=by rfl):SB X [.Expr (.Call (.Name x p) (e::es) [] pos) pos2] (C7 sp as none):=by intro pins Hd g h D' E U H Hm F D R q nx xh;refine lH.of (qP (m9 (X:=fH X pins Hd) bz hs)) ?_;exact Fi hex Fn (hr.mono hk) hg hd ns hms hl (S pins Hd) R q (λE1 F1 k v u H' Hm' fp p R' s' T=>nx E1 U H' Hm' F1 p R' s') xh
def Rl.unset{F:Nat->QS}(R:Rl K g E U H Hm F){i:Nat}(o:aW E i=true):Rl K g (E.set i none) (U.set i none) H Hm (λj=>if j=i then []else F j):=by
 have nin:∀{j:Nat}{a:Addr},a∈(if j=i then []else F j)->j≠i/\a∈F j:=λ{j a} h=>by by_cases c:j=i;{rw[if_pos c]at h;cases h};rw[if_neg c]at h;exact⟨c,h⟩
 exact {
  len:=by rw[MY,MY];exact R.len
  sub:=R.sub
  slot:=λj k d e=>by
   by_cases c:i=j
   .subst c;rw[Nd,if_pos rfl]at e;split at e<;>cases e
   .rw[ah c]at e;obtain⟨v,h1,h2⟩:=R.slot j k d e;refine⟨v,by rw[ah c];exact h1,?_⟩
    rw[if_neg (Ne.symm c)];exact h2
  off:=λj a h=>R.off j a (nin h).2
  aX:=λj a h=>R.aX j a (nin h).2
  aM:=λj k a h1 h2=>R.aM j k a (nin h1).2 (nin h2).2
  fr:=R.fr
  new:=λj a h=>R.new j a (nin h).2
  pin:=λq hq=>by
   obtain⟨h1,ds,h2⟩:=R.pin q hq;have c:i≠q.1:=λz=>by
    subst z;unfold aW at o;rw[h2]at o;cases o
   exact⟨by rw[ah c];exact h1,ds,by rw[ah c];exact h2⟩
  old:=R.old }
def zT(K:Frag)(cs:QY) (B:Str):Bool:=match nsIn K mainGlobals B with
 |some (some (.ref B'))=>cs.all λc=>match nsIn K mainGlobals c with
  |some (some (.ref C))=>exmOne K (.ref C) (.ref B')==some (iR c B)
  |_=>false
 |_=>false
def JS(h:zT K cs B=true):∃B',nsIn K mainGlobals B=some (some (.ref B'))/\∀c∈cs,∃C,nsIn K mainGlobals c=some (some (.ref C))/\exmOne K (.ref C) (.ref B')=some (iR c B):=by unfold zT at h;split at h;{rename_i B' e;refine⟨B',e,λc hc=>?_⟩;have z:=MI.mp h c hc;split at z;{rename_i C e2;exact⟨C,e2,by simpa using z⟩};cases z};cases h
def IW{i:Nat}(N:∃h:Heap,X.K.In h/\h.Ns mainGlobals X.mg)(kx:zT X.K cs x=true)(hN:X.N.Nodup)(hb:SB X body b)(hh:∀a,SS (wZ X a) E0 (b₀::suite) t)(hex:X.ex=[]:=by rfl)(hst:X.stack=X.env::X.outer:=by rfl)(hfr:X.env.frame=some X.env.locals:=by rfl)(hg:Gl X x:=by rfl)(hi:X.N[i]?=some n:=by rfl)(hk:X.env.scope.names.lookup n=some .local:=by rfl)(hdb:(x==("__debug__":Str))=false:=by decide) : S1 X Ex (.Try body [.ExceptHandler (some (.Name x np)) (some n) (b₀::suite) hpos] [] [] pos) (BS cs x b i t):=by obtain⟨B',nB,hc⟩:=JS kx;obtain⟨h0,KX,G⟩:=N;intro g D' E U H Hm F D hx R p nx rt;refine WS.of (HY hex hst hfr hg (mg_of KX G nB) hN hi hk (λpins Hd=>fu) (λa=>fu) hdb) λpins=>?_;refine hb pins _ g _ D' E U H Hm F D R p nx λE1 c C a H1 Hm1 F1 q hC R1 s1 ha=>?_;rw[bY,MA,Oc]at q;obtain⟨⟨q1,q2⟩,q⟩:=q;rw[bY,mU]at q;obtain⟨op,q⟩:=q;obtain⟨C',e1,e2⟩:=hc c q1;have e3:=(mg_of KX G e1).symm.trans hC;cases e3;refine⟨by rw[e2,q2],?_⟩;rw[gO NF (cR (aF hi)) (R1.len▸dG op)];refine hh a g _ _ (U.set i (some (.ref a))) H1 Hm1 _ (gone i D) XL.no (R1.put (Tm.sh (.exc ha e1)) op) q (λE2 σ2 H2 Hm2 F2 p2 R2 s2=>?_) rt;replace p2:bK (gA E2 i) _:=p2;rw[bY,mU]at p2;show D.nx ((sel (aJ X) σ2).set i none) H2;rw[gO NF (cR (aF hi)) (R2.len▸dG p2.1)];exact nx _ _ _ _ _ p2.2 (R2.unset p2.1) (s1.trans s2)
end
def jc(cs Bs:QY):DR:=λds P=>match ds with
 |[.dict [(.none,.str c)]]=>bK (cs.contains c) (P .sh (.bool (Bs.any (iR c))))
 |_=>False
def Bm(K:Frag)(C:Addr):Bool:=(HJ K C&&findIn K (.ref C) "__setattr__" == some (some (.builtin "object.__setattr__")))&&(findIn K (.ref C) "__getattribute__" == some (some (.builtin "BaseException.__getattribute__"))&&findIn K (.ref C) "__getattr__" == some none) &&
 (findIn K (.ref C) "__class__" == some (some (.builtin "object.__class__"))&&(specialIn K (.builtin "object.__class__") "__get__" == some (some (.builtin "getset_descriptor.__get__"))&&takesIn K (.builtin "object.__class__")==some true))
def GL{C:Addr}(h:Bm K C=true):w9 K C:=by unfold Bm at h;simp only[MA,beq_iff_eq]at h;obtain⟨⟨⟨a,b⟩,c,d⟩,e,f,g⟩:=h;exact⟨⟨a,b,c,d⟩,e,f,g⟩
def Aa(K:Frag) (B:Str):QK:=match nsIn K mainGlobals B with
 |some (some v)=>some v
 |some none=>bootBuiltins B
 |none=>none
def wc(K:Frag)(cs Bs:QY):Bool:=cs.all λc=>match nsIn K mainGlobals c with
 |some (some (.ref C))=>Bm K C&&Bs.all λB=>match Aa K B with
  |some v=>kitOne K (.ref C) v==some (iR c B)
  |none=>false
 |_=>false
def CF(h:wc K cs Bs=true)(hc:c∈cs):∃C,nsIn K mainGlobals c=some (some (.ref C))/\w9 K C/\∀B∈Bs,∃v,Aa K B=some v/\kitOne K (.ref C) v=some (iR c B):=by have z:=MI.mp h c hc;split at z;{rename_i C e;rw[MA]at z;refine⟨C,e,GL z.1,λB hB=>?_⟩;have y:=MI.mp z.2 B hB;split at y;{rename_i v e2;exact⟨v,e2,by simpa using y⟩};cases y};cases z
def gV:Value->Option V
 |.ref a=>some (.ref a)
 |.type t=>some (.ty t)
 |_=>none
def yL(h:gV u=some v):RelV v u:=by unfold gV at h;split at h;{cases h;rfl};{cases h;rfl};cases h
def wz(h:gV u=some v)(r:RelV v u2):u2=u:=by unfold gV at h;split at h;{cases h;exact r};{cases h;exact r};cases h
def vd(K:Frag)(Bs:QY):Bool:=Bs.all λB=>(!(B==("__debug__":Str)) && !(B==("__name__":Str)))&&match nsIn K mainGlobals B with
 |some (some u)=>(gV u).isSome
 |some none=>match bootBuiltins B with
  |some u=>(gV u).isSome
  |none=>false
 |none=>false
section
variable{X:Cx}{Ex:XK}{Y:QW}
def Dl(N:∃h:Heap,X.K.In h/\h.Ns mainGlobals X.mg)(h:vd X.K Bs=true)(hB:B∈Bs)(hg:Gl X B):∃u v,Aa X.K B=some u/\gV u=some v/\∀p,PE X (.Name B p) (tC v):=by obtain⟨h0,KX,G⟩:=N;have z:=MI.mp h B hB;rw[MA,MA,Ob,Ob]at z;obtain⟨⟨z1,z2⟩,z⟩:=z;unfold Aa;split at z;{rename_i u e;obtain⟨v,hv⟩:=Pc.mp z;exact⟨u,v,rfl,hv,λp=>D3 hg (mg_of KX G e) (yL hv) z1⟩};{rename_i e;split at z;{rename_i u e2;obtain⟨v,hv⟩:=Pc.mp z;exact⟨u,v,e2,hv,λp=>wU hg (N1 KX G e) e2 (yL hv) (λq=>by rw[q]at z2;exact absurd z2 (by decide)) z1⟩};cases z};cases z
def F7(N:∃h:Heap,X.K.In h/\h.Ns mainGlobals X.mg)(kx:wc X.K cs Bs=true)(kc:vd X.K Bs=true)(hm:X.mg "isinstance"=none)(S:aH X Ex Y [a] as)(hB:Bs.contains B=true)(hg:Gl X "isinstance")(hg2:Gl X B)(ns:noStar a=true) : SE X Ex Y (.Call (.Name "isinstance" p) [a,.Name B p2] [] pos) (aa (jc cs [B]) as):=by
 have hB:=Oc.mp hB;obtain⟨u,w,e1,ru,pe⟩:=Dl N kc hB hg2;refine eu (r:=λvs H Q=>∃a C c,vs=[.ref a]/\H a=some (.ext (dI a C none))/\c∈cs/\nsIn X.K mainGlobals c=some (some (.ref C))/\Q (.bl (iR c B)) H) S (λU H Q h=>WE.of (kT A0 hg hm Q2 (cP bz (cP (pe p2) gx) (aS ns)) (by decide) (by decide) (aS ns) (by rfl)) ?_) ?_;{refine λpins s I=>aG (h pins s I) λv s1 ⟨y,H1,I1,r1,b,C,c,e,hb,hc,n,q⟩=>⟨y,H1,I1,r1,?_⟩;cases e;obtain⟨C',n',xi,k⟩:=CF kx hc;rw[n]at n';cases n';obtain⟨u',e2,k⟩:=k B hB;rw[e1]at e2;cases e2;exact⟨_,C,w,_,rfl,.inl hb,xi,λu2 hu=>by rw[wz ru hu];exact k,q⟩};intro H Hm vs ds P Q s r h q;unfold jc at h;split at h
 .rename_i c;obtain⟨v,rfl,h1⟩:=cI r;rw[bY,Oc]at h;generalize e:PyData.dict [(.none,.str c)]=d at h1;cases h1 with
  |exc ha n=>cases e;refine⟨_,_,c,rfl,s _ _ ha,h.1,n,aZ.sc q s ?_ (.bl _)⟩;have:=h.2;rw[NQ,List.any_nil,Bool.or_false]at this;exact this
  |dk _ k=>
   cases e;generalize e:[(PyData.none,PyData.str c)]=l at k;cases k with
   |nil=>cases e
   |@cons k _ _ _ _ _ _=>cases k<;>cases e
  |_=>cases e
 exact h.elim
def Bp(N:∃h:Heap,X.K.In h/\h.Ns mainGlobals X.mg)(kx:wc X.K cs Bs=true)(kc:vd X.K Bs=true)(hm:X.mg "isinstance"=none)(S:aH X Ex Y [a] as)(hB:Bs.contains B=true:=by decide)(hg:Gl X "isinstance":=by rfl)(hg2:Gl X B:=by rfl)(ns:noStar a=true:=by rfl) : SE X Ex Y (.Call (.Name "isinstance" p) [a,.Name B p2] [] pos) (aa (jc cs [B]) as):=F7 N kx kc hm S hB hg hg2 ns
inductive zh(X:Cx)(Bs:QY):QU->QY->Prop
 |nil:zh X Bs [] []
 |cons {B:Str}{p:Pos}{es:QU}{bs:QY}:Bs.contains B=true->Gl X B->zh X Bs es bs->zh X Bs (.Name B p::es) (B::bs)
def LH(N:∃h:Heap,X.K.In h/\h.Ns mainGlobals X.mg)(kc:vd X.K Bs=true)(h:zh X Bs es bs):∃(us:QO)(ws:List V)(t:TA),PA X es t/\(∀U H Q,Q ws H->t U H Q)/\ws.length=bs.length/\(∀sY,Vals ws sY->sY=us) /\ ∀C c,(∀B∈Bs,∃v,Aa X.K B=some v/\kitOne X.K (.ref C) v=some (iR c B))->kitAny X.K (.ref C) us=some (bs.any (iR c)):=by
 induction h with
 |nil=>exact⟨[],[],_,gx,λ_ _ _ q=>q,rfl,λsY h=>by cases h;rfl,λ_ _ _=>rfl⟩
 |@cons B p es bs hB hg h ih=>
  obtain⟨us,ws,t,h1,h2,h3,h4,h5⟩:=ih;have hB:=Oc.mp hB;obtain⟨u,w,e1,ru,pe⟩:=Dl N kc hB hg;refine⟨u::us,w::ws,_,cP (pe p) h1,λU H Q q=>h2 _ _ _ q,congrArg (·+1) h3,λsY h=>?_,λC c k=>?_⟩
  .cases h with
   |cons r t=>rw[wz ru r,h4 _ t]
  obtain⟨v,e2,k2⟩:=k B hB;rw[e1]at e2;cases e2;rw[kitAny,k2,NQ];cases iR c B with
  |true=>rfl
  |false=>exact h5 C c k
def Ju{k:Nat}(N:∃h:Heap,X.K.In h/\h.Ns mainGlobals X.mg)(kx:wc X.K cs Bs=true)(kc:vd X.K Bs=true)(hm:X.mg "isinstance"=none)(S:aH X Ex Y [a] as)(hb:zh X Bs es bs)(hl:bs.length<=sizeLine:=by decide)(hg:Gl X "isinstance":=by rfl)(ns:noStar a=true:=by rfl) : SE X Ex Y (.Call (.Name "isinstance" p) [a,.Tuple es k tp] [] pos) (aa (jc cs bs) as):=by
 obtain⟨us,ws,t,h1,h2,h3,h4,h5⟩:=LH N kc hb;refine eu (r:=λvs H Q=>∃a C c,vs=[.ref a]/\H a=some (.ext (dI a C none))/\c∈cs/\nsIn X.K mainGlobals c=some (some (.ref C))/\∀t,H t=none->Q (.bl (bs.any (iR c))) (upd H t (.tup ws))) S (λU H Q h=>WE.of (kT zQ hg hm Q2 (cP bz (cP (yS h1) gx) (aS ns)) (by decide) (by decide) (aS ns) (by rfl)) ?_) ?_;{refine λpins s I=>aG (h pins s I) λv s1 ⟨y,H1,I1,r1,b,C,c,e,hb,hc,n,q⟩=>⟨y,H1,I1,r1,?_⟩;cases e;obtain⟨C',n',xi,k⟩:=CF kx hc;rw[n]at n';cases n';refine h2 _ _ _ ⟨by rw[h3];exact hl,λt ht=>?_⟩;exact⟨_,C,t,ws,_,rfl,.inl (bI ht _ _ hb),xi,aB,λsY hu=>by rw[h4 _ hu];exact h5 C c k,q t ht⟩};intro H Hm vs ds P Q s r h q;unfold jc at h;split at h
 .rename_i c;obtain⟨v,rfl,h1⟩:=cI r;rw[bY,Oc]at h;generalize e:PyData.dict [(.none,.str c)]=d at h1;cases h1 with
  |exc ha n=>cases e;refine⟨_,_,c,rfl,s _ _ ha,h.1,n,λt ht=>?_⟩;have st:=bI (o:=.tup ws) ht;exact aZ.sc (aZ.up q st) (s.trans st) h.2 (.bl _)
  |dk _ k=>
   cases e;generalize e:[(PyData.none,PyData.str c)]=l at k;cases k with
   |nil=>cases e
   |@cons k _ _ _ _ _ _=>cases k<;>cases e
  |_=>cases e
 exact h.elim
def qM:QT->Nat
 |[]=>0
 |b::r=>(if b=true then 1 else 0)+qM r
def nF:QM->Option (QT)
 |[]=>some []
 |.bool b::r=>(nF r).map (b::·)
 |_=>none
def pI:DR:=λds P=>match ds with
 |[.list xs]=>aq (nF xs) λbs=>P .sh (.int (qM bs))
 |_=>False
theorem uh:∀{ds:QM}{xs:List V}{bs:QT},ak K H xs ds->nF ds=some bs->xs=bs.map V.bl
 |[],_,_,r,e=>by cases r;cases e;rfl
 |d::ds,xs,bs,r,e=>by
  cases r with
  |cons r t=>
   cases d with
   |bool b=>
    rw[nF]at e;cases h:nF ds with
    |none=>rw[h]at e;cases e
    |some bs'=>rw[h]at e;cases e;cases r;rw[uh t h];rfl
   |_=>cases e
def sW(b:Bool):QT->Option Nat
 |[]=>none
 |c::r=>if c=b then some 0 else(sW b r).map (·+1)
def xE(i:Nat)(b:Bool):DE:=λ_ E Q=>match E[i]? with
 |some (some (.ow _,.list ds))=>aq (nF ds) λbs=>aq (sW b bs) λj=>Q E .sh (.int j)
 |_=>False
theorem wA{b:Bool}:∀{bs:QT}{j:Nat},sW b bs=some j->bs[j]?=some b/\∀m,m<j->∀c,bs[m]?=some c->c≠b
 |[],_,h=>by cases h
 |c::r,j,h=>by
  rw[sW]at h;by_cases e:c=b;{rw[if_pos e]at h;cases h;exact⟨by rw[e];rfl,λm hm=>absurd hm (OB m)⟩};rw[if_neg e]at h;cases h2:sW b r with
  |none=>rw[h2]at h;cases h
  |some k=>
   rw[h2]at h;cases h;obtain⟨h3,h4⟩:=wA h2;refine⟨h3,λm hm c' hc=>?_⟩;cases m with
   |zero=>cases hc;exact e
   |succ m=>exact h4 m (Nat.lt_of_succ_lt_succ hm) c' hc
def Je(j:Nat){i:Nat}{b:Bool} {jj}(hN:X.N[j]?=some x:=by rfl)(hv:iA X.env.scope x:=by first|exact Or.inl rfl|exact Or.inr (Or.inl rfl)|exact Or.inr (Or.inr rfl))(hj:Y[j]?=some i:=by rfl)(hline:(apos.endLine==cpos.line)=true:=by rfl)(b1:(x==("__debug__":Str))=false:=by decide)(b2:(x==("__classdict__":Str))=false:=by decide) : SE X Ex Y (.Call (.Attribute (.Name x p) "index" apos) [.Constant (.bool b) jj yp] [] cpos) (xE i b):=by
 intro g xc E U H Hm F P Q hx R h q;unfold xE at h;split at h
 .rename_i p ds e1;rw[<-aR]at h;obtain⟨bs,eb,h⟩:=h;rw[<-aR]at h;obtain⟨m,em,h⟩:=h;obtain⟨v,h1,o1⟩:=R.slot i _ _ e1;obtain⟨f1,f2⟩:=wA em;generalize F i=fi at o1;cases o1 with
  |@ow _ a xs _ ha rx=>
   have ex:=uh rx eb;subst ex;refine WE.of (pN OD PySem.F.slot_list_index PySem.F.type_list_index BD (dY hN hv b1 b2) (cP CY gx) rfl rfl hline rfl rfl) ?_;refine⟨_,b6 hj h1,.inl ⟨rfl,_,bD.of ha⟩,a,_,.bl b,m,.bl b,rfl,rfl,ha,rfl,?_,by rw[MQ,f1];rfl,by cases b<;>rfl,λm' z hm' hz=>?_,q _ _ _ _ _ _ _ [] h R (af.refl _) (Tm.sh (.int _))⟩;{rw[List.all_map];exact MI.mpr λ_ _=>rfl};rw[MQ]at hz;cases e:bs[m']? with
   |none=>rw[e]at hz;cases hz
   |some c=>rw[e]at hz;cases hz;have:=f2 m' hm' c e;cases b<;>cases c<;>first|rfl|exact absurd rfl this
 exact h.elim
theorem rW(f:Nat->Int):∀n,PySem.preSum f (n+1)=f 0+PySem.preSum (λi=>f (i+1)) n
 |0=>by show(0:Int)+f 0=f 0+0;lia
 |n+1=>by show PySem.preSum f (n+1)+f (n+1)=f 0+(PySem.preSum (λi=>f (i+1)) n+f (n+1));rw[rW f n];lia
theorem wL:∀bs:QT,PySem.preSum (λi=>if bs.getD i false=true then 1 else 0) bs.length=(qM bs:Int)
 |[]=>rfl
 |b::bs=>by rw[MW,rW];show(if b=true then(1:Int)else 0)+PySem.preSum (λi=>if bs.getD i false=true then 1 else 0) bs.length=((qM (b::bs):Nat):Int);rw[wL bs,qM];cases b<;>simp
def Bt:bU K pI λxs H Q=>∃(a:Addr)(bs:QT),xs=[.ref a]/\bD K H a (bs.map V.bl)/\Q (.int (PySem.preSum (λi=>if bs.getD i false=true then 1 else 0) bs.length)) H:=by intro H Hm vs ds P Q s r h q;unfold pI at h;split at h;{obtain⟨x,rfl,h1⟩:=cI r;rw[<-aR]at h;obtain⟨bs,e,h⟩:=h;obtain⟨a,xs,rfl,ha,r1⟩:=kF h1;cases uh r1 e;refine⟨a,bs,rfl,(bX.mono s ha).sq,?_⟩;rw[wL];exact aZ.sc q s h (.int _)};exact h.elim
def Ji(hm:X.mg "sum"=none)(S:aH X Ex Y [a] as)(hc:X.calm=true:=by rfl)(hg:Gl X "sum":=by rfl)(ns:noStar a=true:=by rfl):SE X Ex Y (.Call (.Name "sum" p) [a] [] pos) (aa pI as):=eV (AF hc) Bt hg hm PyProof.Rows.boot_sum (by decide) (by decide) (by rw[MG,ns];rfl) S
end
end Dv
namespace Dv
open PySem L2
theorem rr216:BS cs B b i t D (o::E)=b (λE1 c=>bK (cs.contains c&&iR c B) (bK (gA E1 i) (t { nx:=λE2=>bK (gA E2 i) (D.nx (E2.set i none)),rt:=D.rt,xc:=xF } (E1.set i (some (.sh,GP c)))))) D (o::E):=rfl
theorem rr217:JA cs B b t D (o::E)=b (λE1 c=>bK (cs.contains c&&iR c B) (t { D with xc:=xF } E1)) D (o::E):=rfl
theorem rr218:C7 sp as w h D (o::E)=gE as xF (o::E) λE1 os=>aq (bS as E1 os) λds=>bK ((eX as).all (fS E1)) (sp ds (λ_ k v=>AM w E1 k v D.nx) λc _=>h E1 c):=rfl
theorem rr219:LG t a b h D (o::E)=t xF (o::E) λE1 c=>cC c (a h D E1) (b h D E1):=rfl
theorem rr220:AM none (o::E) k v Q=Q (o::E):=rfl
theorem rr221:AM (some i) (o::E) k v Q=bK (gA (o::E) i) (Q ((o::E).set i (some (k,v)))):=rfl
theorem rr222:jc cs Bs [.dict [(.none,.str c)]] P=bK (cs.contains c) (P .sh (.bool (Bs.any (iR c)))):=rfl
theorem rr223:jc cs Bs [GP c] P=bK (cs.contains c) (P .sh (.bool (Bs.any (iR c)))):=rfl
theorem rr224:pI [.list xs] P=aq (nF xs) λbs=>P .sh (.int (qM bs)):=rfl
theorem rr225:nF []=some []:=rfl
theorem rr226:nF (.bool b::r)=(nF r).map (b::·):=rfl
end Dv
namespace Dv
open PySem L2 PySem.W
def KQ:DR:=λds P=>match ds with
 |[.list ds]=>ds.length<61/\P (.ow false) (.list ds.reverse)
 |_=>False
theorem rr227:KQ [.list l] P=(l.length<61/\P (.ow false) (.list l.reverse)):=rfl
def rM(c:Int):PyData->PyData
 |.list es=>.list (es++[.int c])
 |d=>d
def CK(i j:Nat) (c:Int):DS:=λD E=>∃p ds,E[i]?=some (some (.dp p,.list ds))/\aW E j=true/\i≠j/\(∀d∈ds,∃es,d=.list es/\es.length<sizeLine)/\D.nx ((E.set j none).set i (some (.dp p,.list (ds.map (rM c)))))
def G0(E:En) (i:Nat):Bool:=match E[i]? with
 |some (some (.dp _,.list _))=>true
 |_=>false
def Dm(i:Nat)(d:DE):DS:=λD E=>G0 E i=true/\d D.xc E λE1 _ _=>∃ds,E1[i]?=some (some (.dp false,.list ds))/\ds.length<sizeLine/\D.nx (E1.set i none)
def yQ{α:Type}{l:List α}{i:Nat}{a:α}(h:l[i]?=some a):l.set i a=l:=by refine Nc λk=>?_;rw[Nd];split;{rename_i e;subst e;rw[if_pos (aF h),h]};rfl
def take_set{α:Type}{l:List α}{f:α->α}{k:Nat}{a:α}(h:l[k]?=some a):((l.take k).map f++l.drop k).set k (f a)=(l.take (k+1)).map f++l.drop (k+1):=by
 have lk:=aF h;have e:l.drop k=a::l.drop (k+1):=by rw[List.drop_eq_getElem_cons lk];rw[MP lk]at h;rw[Option.some.inj h]
 have hl:((l.take k).map f).length=k:=by rw[M9,Mz];lia
 rw[e,List.set_append_right _ _ (by lia),hl,Nat.sub_self,List.set_cons_zero,List.take_succ,h];show _=(l.take k++[a]).map f++_;rw[Mr,Mc];rfl
section
variable{K:Frag}{g:Gh}{E:En}{U:St}{H Hm:Hp}{F:Nat->QS}{o:HO}
def cN.len(h:cN K H Hm xs ds fp):xs.length=ds.length:=by
 induction h with
 |nil=>rfl
 |iO _ _ _ ih=>rw[MW,MW,ih]
 |own _ _ _ _ ih=>rw[MW,MW,ih]
def Rl.KN(R:Rl K g E U H Hm F){b:Addr}(hb:∀j,b∉F j)(hm:Hm b=none)(nw:b∈g.M\/g.H0 b=none):Rl K g E U (upd H b o) Hm F where
 len:=R.len
 sub:=λa u h=>by
  have c:a≠b:=λz=>by rw[z,hm]at h;cases h
  rw[ai c];exact R.sub a u h
 slot:=λj k d e=>by
  obtain⟨u,g1,g2⟩:=R.slot j k d e;exact⟨u,g1,g2.step (af.refl _) λa ha=>ai λz=>hb j (z▸ha)⟩
 off:=R.off
 aX:=λj a ha=>by
  have c:a≠b:=λz=>hb j (z▸ha)
  rw[ai c];exact R.aX j a ha
 aM:=R.aM
 fr:=λq u hq ho=>by
  have c:q≠b:=λz=>by
   rcases nw with y|y
   .exact hq (z▸y)
   .rw[z,y]at ho;cases ho
  rw[ai c];exact R.fr q u hq ho
 new:=R.new
 pin:=R.pin
 old:=R.old
def Rl.hide(R:Rl K g E U H Hm F){i:Nat}(o:aW E i=true):Rl K g (E.set i none) U H Hm (λj=>if j=i then []else F j):=by have l:i<U.length:=R.len▸dG o;have:=R.CV o U[i];rw[yQ (MP l)]at this;exact this
end
section
variable{X:Cx}{Ex:XK}
def IX(i j:Nat){y t:Str}{k:Nat}{yp tp t2 apos cpos epos pos cp:Pos}{c:Int}(hp:PassesOwn (model X.prog X.w) X.A X.env X.xe)(hN:X.N.Nodup)(hi:X.N[i]?=some y:=by rfl)(hvy:iA X.env.scope y:=by first|exact Or.inl rfl|exact Or.inr (Or.inl rfl)|exact Or.inr (Or.inr rfl))(hj:X.N[j]?=some t:=by rfl)(hvt:iA X.env.scope t:=by first|exact Or.inl rfl|exact Or.inr (Or.inl rfl)|exact Or.inr (Or.inr rfl))(hlt:Loc X.env.scope t:=by first|exact Or.inl rfl|exact Or.inr rfl)(hf:X.fn t=true\/X.env.scope.names.lookup t=some .local:=by first|exact Or.inl rfl|exact Or.inr rfl)(hc:X.calm=true:=by rfl)(hs:∀x,foldedSetIterable (.Name y yp) X.env x=pure x:=by intro _;rfl)(hsw:swapsWith (.Call (.Attribute (.Name t t2) "append" apos) [.Constant (.int c) k cp] [] cpos) none epos.line X.env=pure false:=by rfl)(hline:(apos.endLine==cpos.line)=true:=by rfl)(hb:(y==("__debug__":Str))=false:=by decide)(hcd:(y==("__classdict__":Str))=false:=by decide)(hbn:(t==("__debug__":Str))=false:=by decide)(hcn:(t==("__classdict__":Str))=false:=by decide) : S1 X Ex (.For (.Name t tp) (.Name y yp) [.Expr (.Call (.Attribute (.Name t t2) "append" apos) [.Constant (.int c) k cp] [] cpos) epos] [] pos) (CK i j c):=by
 intro g D' E U H Hm F D hx R h nx rt;obtain⟨p,ds,e0,oj,ne,hl,fin⟩:=h;obtain⟨v,hv,ow⟩:=R.slot i _ _ e0;have li:=aF hi;have lj:=aF hj;have e1:(E.set j none)[i]?=some (some (.dp p,.list ds)):=by rw[ah (Ne.symm ne)];exact e0
 obtain⟨a0,rfl,hx0⟩:∃a0,v=.ref a0/\∃xs,bD X.K H a0 xs:=by
  generalize F i=fi at ow;cases ow with
  |@dp _ a0 xs _ fq ha0 n0 it0=>exact⟨a0,rfl,xs,bD.of ha0⟩
 refine WS.of (zP hp hc (ER (dY hi hvy hb hcd)) (qF hN hj hlt hf) (qP (m9 (pN OD OF OG f7 (dY hj hvt hbn hcn) (cP AG gx) rfl (qq rfl (show 1<30 by decide)) hline rfl rfl) hsw)) hs) ⟨.ref a0,b6 (cR li) hv,a0,rfl,hx0,?_⟩;have R0:=R.hide oj;generalize (λk=>if k=j then []else F k)=F0 at R0;refine⟨λn m τ H'=>m=ds.length-n/\n<=ds.length/\∃σ',Rl X.K g ((E.set j none).set i (some (.dp p,.list ((ds.take n).map (rM c)++ds.drop n)))) σ' H' Hm F0/\σ'[i]?=some (some (.ref a0))/\τ=sel (aJ X) σ',⟨ds.length,by simp,Mq _,U,by
  rw[List.take_zero,Ot,List.nil_append,OV,yQ e1];exact R0,hv,rfl⟩,?_⟩
 rintro n m τ H2⟨rfl,hn,σ2,R2,hσ,rfl⟩;have en:((E.set j none).set i (some (.dp p,.list ((ds.take n).map (rM c)++ds.drop n))))[i]?=some (some (.dp p,.list ((ds.take n).map (rM c)++ds.drop n))):=ao (aF e1);obtain⟨v2,h3,h4⟩:=R2.slot i _ _ en;rw[hσ]at h3;cases h3;generalize hfi:F0 i=fi at h4;cases h4 with
 |@dp _ _ xs _ fq ha0 n0 it0=>
  by_cases cn:n<ds.length
  .obtain⟨es,hd,hes⟩:=hl _ (Na cn);have hd:ds[n]?=some (.list es):=by rw[MP cn,hd]
   have hk:((ds.take n).map (rM c)++ds.drop n)[n]?=some (.list es):=by rw[NJ (by rw[M9,Mz];lia),M9,Mz,Px,show n+(n-min n ds.length)=n by lia];exact hd
   obtain⟨b,ys,hxm,hb,ry,mb⟩:=it0.get hk;refine .inr ⟨⟨xs,_,bD.of ha0,hxm⟩,λτ H'=>n+1<=ds.length/\∃σ',Rl X.K g ((E.set j none).set i (some (.dp p,.list ((ds.take (n+1)).map (rM c)++ds.drop (n+1))))) σ' H' Hm F0/\σ'[i]?=some (some (.ref a0))/\τ=sel (aJ X) σ',λτ H' z=>⟨ds.length-(n+1),by lia,rfl,z⟩,?_⟩;rintro x _⟨rfl,hy⟩;have hy:=hy xs (bD.of ha0);rw[hxm]at hy;cases hy;have lj2:j<σ2.length:=by rw[<-R2.len,MY,MY];exact dG oj
   show CU _ _ ((sel (aJ X) σ2).set j (some (.ref b))) _;rw[gO NF (cR lj) lj2];refine⟨.ref b,b6 (cR lj) (ao lj2),.inl ⟨rfl,_,bD.of hb⟩,?_⟩;refine⟨b,ys,.int c,rfl,rfl,hb,by rw[ry.len];exact hes,cn,σ2.set j (some (.ref b)),?_,by rw[ah (Ne.symm ne)];exact hσ,rfl⟩;have mbF:b∈F0 i:=by rw[hfi];exact MC _ mb
   have nab:a0≠b:=λz=>n0 (z▸mb);have R3:=R2.agree (cs:=[j]) (σ':=σ2.set j (some (.ref b))) ⟨(MY ..).symm,λl hl=>ah λz=>hl (by rw[z];exact MR.mpr rfl)⟩ λl hl=>by rw[MR.mp hl,ah ne,ao (dG oj)]
   have R4:=R3.Hu (o:=.lst (ys++[.int c])) (d':=.list (((ds.take n).map (rM c)++ds.drop n).set n (.list (es++[.int c])))) en (by rw[ah (Ne.symm ne)];exact hσ) mbF (by
    rw[hfi];exact .dp (by rw[ai nab];exact ha0) n0 (it0.put (ry.snoc (.int c)) hxm ⟨es,hk⟩)) jE λz=>by cases z
   rw[List.set_set,show PyData.list (es++[.int c])=rM c (.list es)from rfl,take_set hd]at R4;exact R4
  have e:n=ds.length:=by lia
  subst e;refine .inl ⟨⟨xs,bD.of ha0,?_⟩,?_⟩;{rw[it0.len,NT,PK,NI,M9];exact M5 _};rw[NT,PK,NI]at R2;exact nx _ _ _ _ _ fin R2 (af.refl _)
def Jt(i:Nat)(hd:SE X Ex (aJ X) a d)(hi:X.N[i]?=some y:=by rfl)(hvy:iA X.env.scope y:=by first|exact Or.inl rfl|exact Or.inr (Or.inl rfl)|exact Or.inr (Or.inr rfl))(hsw:swapsWith (.Call (.Attribute (.Name y yp) "append" apos) [a] [] cpos) none pos.line X.env=pure false:=by rfl)(ns:noStar a=true:=by rfl)(hline:(apos.endLine==cpos.line)=true:=by rfl)(hb:(y==("__debug__":Str))=false:=by decide)(hcd:(y==("__classdict__":Str))=false:=by decide) : S1 X Ex (.Expr (.Call (.Attribute (.Name y yp) "append" apos) [a] [] cpos) pos) (Dm i d):=by
 intro g D' E U H Hm F D hx R h nx rt;obtain⟨ho,h⟩:=h;have li:=aF hi;obtain⟨p,ds,e0⟩:∃p ds,E[i]?=some (some (.dp p,.list ds)):=by unfold G0 at ho;split at ho;{rename_i p ds e;exact⟨p,ds,e⟩};cases ho
 obtain⟨v,hv,ow⟩:=R.slot i _ _ e0;obtain⟨a0,rfl,hx0⟩:∃a0,v=.ref a0/\∃xs,bD X.K H a0 xs:=by
  generalize F i=fi at ow;cases ow with
  |@dp _ a0 xs _ fq ha0 n0 it0=>exact⟨a0,rfl,xs,bD.of ha0⟩
 have ns':[a].all noStar=true:=by rw[MG,ns];rfl
 refine WS.of (m9 (pN OD OF OG f7 (dY hi hvy hb hcd) (cX ns') rfl (qq ns' (show 1<30 by decide)) hline (aS ns) (eU rfl)) hsw) ⟨.ref a0,b6 (cR li) hv,.inl ⟨rfl,hx0⟩,?_⟩;refine hd g D'.xc E U H Hm F _ _ hx R h λE1 k1 w u1 H1 Hm1 F1 fp1 p1 R1 s1 T1=>?_;obtain⟨ds1,e1,hl,fin⟩:=p1;obtain⟨v2,h3,h4⟩:=R1.slot i _ _ e1;rw[hv]at h3;cases h3;have oi:aW E1 i=true:=by unfold aW;rw[e1];rfl
 generalize hfi:F1 i=fi at h4;cases h4 with
 |@dp _ _ xs _ fq ha0 n0 it0=>
  have m0:a0∈F1 i:=by rw[hfi];exact M7
  refine⟨a0,xs,u1,rfl,rfl,ha0,by rw[it0.len];exact hl,?_⟩;refine nx _ _ _ _ _ fin ((R1.hide oi).KN (λj z=>?_) (R1.off i a0 m0) (R1.new i a0 m0)) s1;by_cases c:j=i;{rw[if_pos c]at z;cases z};rw[if_neg c]at z;exact c (R1.aM j i a0 z m0)
end
def qy:DR:=λds P=>∃ps:QI,ds=[.tuple (ps.map pD)]/\ps.length<=1000/\∀qs:QI,qs.Perm ps->P (.ow false) (.list (qs.map pD))
def yN:bU K qy (vX K):=by
 rintro H Hm vs ds P Q s r⟨ps,rfl,hn,h⟩q;obtain⟨x,rfl,h1⟩:=cI r;cases h1 with
 |@tup a xs _ ha r1=>
  have l1:xs.length=ps.length:=by rw[r1.len,M9]
  refine⟨a,xs,rfl,bG.of (s _ _ ha),λy hy=>?_,by rw[l1];exact hn,λzs p pm hp=>?_⟩
  .obtain⟨i,hi⟩:=NS hy;obtain⟨d,e,r'⟩:=r1.B9 hi;rw[MQ]at e;obtain⟨p,_,rfl⟩:=Np.mp e;cases r' with
   |tup b r2=>obtain⟨x,y,rfl,h2,h3⟩:=fB r2;cases h2;cases h3;exact⟨_,_,_,rfl,bG.of (s _ _ b)⟩
  obtain⟨qs,pq,r'⟩:=Ca pm r1;exact aZ.nl q s (h qs pq) hp r'
section
variable{X:Cx}{Ex:XK}{Y:QW}{a:Expr}{p pos:Pos}{as:List Arg}
def IS(hm:X.mg "sorted"=none)(S:aH X Ex Y [a] as)(hg:Gl X "sorted":=by rfl)(ns:noStar a=true:=by rfl):SE X Ex Y (.Call (.Name "sorted" p) [a] [] pos) (aa qy as):=eV sD yN hg hm Q0 (by decide) (by decide) (by rw[MG,ns];rfl) S
end
def yq:DR:=λds P=>∃a b:Bool,ds=[.bool a,.bool b]/\P .sh (.bool (!decide (a=b)))
def Es:bw X (compareOp .IsNot) (λx y H Q=>∃a b,x=.bl a/\y=.bl b/\Q (.bl (!decide (a=b))) H):=by intro pins s U H x y v u Q I rx ry h;obtain⟨a,b,rfl,rfl,q⟩:=h;cases rx;cases ry;cases a<;>cases b<;>exact M8 (aQ I q rfl)
def FO:bU K yq (r2 λx y H Q=>∃a b,x=.bl a/\y=.bl b/\Q (.bl (!decide (a=b))) H):=by rintro H Hm vs ds P Q s r⟨a,b,rfl,h⟩q;obtain⟨x,y,rfl,h1,h2⟩:=fB r;cases h1;cases h2;exact⟨a,b,rfl,rfl,aZ.sc q s h (.bl _)⟩
section
variable{X:Cx}{Ex:XK}{Y:QW}{a b:Expr}{pos:Pos}{as:List Arg}
def Gm(S:aH X Ex Y [a,b] as):bP X Ex Y (.Compare a [.IsNot] [b] pos) (aa yq as):=ff Es (ig _) FO S
end
end Dv
namespace PB
open PySem L2 Dv
def fF:DS:=aC (qS [1,2] (eg 0)) (aC (bu 3 (jq sizeLine [6] (lJ nU [.pk 1]) (.nm 6) (gR) (aa dR []))) (aC (gW (iE (eg 2)) (.tp [4,5]) (aC (iV (uE fX 3 (eg 4) 5)) (iV (uE fX 3 (eg 5) 4)))) (kR 3)))
def fL:DS:=c7 (Dg (cF (lW (λi j=>decide (i<=j)) (λi j=>decide (i<j)) (dC (.int 0)) (eg 1) (aa bf [.pk 0,.ev (dC (.int 0))])))) (qx "NoPlace") (er)
def mK:DS:=aC (qS [1,2] (eg 0)) (cH (aa l7 [.ev (aa gc [.pk 2]),.ev (aa i8 [.pk 1,.ev (dC (.int 1))])]))
def fQ(Qj:cy):DS:=c7 (Dg (cF (aU Qj [false] [.pk 0]))) (qx "NoTree") (er)
def gX:DS:=aC (bu 3 (aa dR [])) (aC (bu 4 (aa dR [.ev (aa eN [.pk 1,.pk 2])])) (aC (tw (CQ 4) (aC (qS [5,6] (uo qE 4 [])) (aC (iV (uo fX 3 [eg 6])) (tS sizeLine 4 (cW [7] (iE (aa bf [.pk 0,.pk 6])) (.nm 7) (cF (aa lI [.pk 7,.pk 5])) (dg sizeLine (aa eN [.pk 6,.pk 7]))))))) (cH (aa lQ [.pk 3]))))
def i9(Qz Qy Qv Qw:cy):DS:=aC (iV (aU Qz [false] [.pk 0])) (aC (iV (aU Qy [false,false] [.pk 0,.pk 1])) (aC (bu 2 (aU Qv [false] [.pk 0])) (cH (jq sizeLine [3] (iE (aa bf [.pk 2,.pk 1])) (.nm 3) (gR) (aU Qw [false,false,false] [.pk 2,.pk 1,.pk 3])))))
end PB
namespace Dv
open PySem L2
def vI(xs:QM)(tg:Tg)(b:DS)(D:eB)(E1:En):Prop:=∃I:Nat->En->Prop,I 0 E1/\(∀i d E,xs[i]?=some d->I i E->∃E2,bW tg d E=some E2/\b { D with nx:=I (i+1) } E2)/\∀E,I xs.length E->D.nx E
def tT(cs:QW)(xs:QM)(tg:Tg)(c:DT)(r:DC)(E1:En)(Q:QZ):Prop:=∃(E0:En)(I:Nat->QM->En->Prop),aV cs E1=some E0/\I 0 [] E0/\(∀i d ys E,xs[i]?=some d->I i ys E->∃E2,bW tg d E=some E2/\c xF E2 λE3 b=>if b=true then r xF ys E3 (I (i+1))else I (i+1) ys E3)/\∀ys E,I xs.length ys E->∃E2,aV cs E=some E2/\Q E2 (.ow false) (.list ys)
def IB(most:Nat)(cs:QW)(xs:QM)(tg:Tg)(c:DT)(e:DE)(E1:En)(Q:QZ):Prop:=∃(E0:En)(I:Nat->QM->En->Prop),aV cs E1=some E0/\I 0 [] E0/\(∀i d ys E,xs[i]?=some d->I i ys E->∃E2,bW tg d E=some E2/\c xF E2 λE3 b=>if b=true then e xF E3 (λE4 k v=>(∃p,k=.ow p)/\ys.length<most/\I (i+1) (ys++[v]) E4)else I (i+1) ys E3)/\∀ys E,I xs.length ys E->∃E2,aV cs E=some E2/\Q E2 (.dp false) (.list ys)
def KD(xs:QM)(tg:Tg)(c:DT)(r:DC)(x:XC)(ys:QM)(E1:En)(Q:QM->En->Prop):Prop:=∃I:Nat->QM->En->Prop,I 0 ys E1/\(∀i d ys E,xs[i]?=some d->I i ys E->∃E2,bW tg d E=some E2/\c x E2 λE3 b=>if b=true then r x ys E3 (I (i+1))else I (i+1) ys E3)/\∀ys E,I xs.length ys E->Q ys E
theorem dyr0:∀{it:DI}{tg:Tg}{b:DS}{D:eB}{o:Qc}{E:En},gW it tg b D (o::E)=it D.xc (o::E) λE1 xs=>vI xs tg b D E1:=rfl
theorem dyr1:∀{cs:QW}{it:DI}{tg:Tg}{c:DT}{r:DC}{x:XC}{o:Qc}{E:En}{Q:QZ},cW cs it tg c r x (o::E) Q=it x (o::E) λE1 xs=>tT cs xs tg c r E1 Q:=rfl
theorem dyr2:∀{most:Nat}{cs:QW}{it:DI}{tg:Tg}{c:DT}{e:DE}{x:XC}{o:Qc}{E:En}{Q:QZ},jq most cs it tg c e x (o::E) Q=it x (o::E) λE1 xs=>IB most cs xs tg c e E1 Q:=rfl
theorem dyr3:∀{it:DI}{tg:Tg}{c:DT}{r:DC}{x:XC}{ys:QM}{o:Qc}{E:En}{Q:QM->En->Prop},KJ it tg c r x ys (o::E) Q=it x (o::E) λE1 xs=>KD xs tg c r x ys E1 Q:=rfl
def dy:
 (∀{it:DI}{tg:Tg}{b:DS}{D:eB}{o:Qc}{E:En},gW it tg b D (o::E)=it D.xc (o::E) λE1 xs=>vI xs tg b D E1) /\
 (∀{cs:QW}{it:DI}{tg:Tg}{c:DT}{r:DC}{x:XC}{o:Qc}{E:En}{Q:QZ},cW cs it tg c r x (o::E) Q=it x (o::E) λE1 xs=>tT cs xs tg c r E1 Q) /\
 (∀{most:Nat}{cs:QW}{it:DI}{tg:Tg}{c:DT}{e:DE}{x:XC}{o:Qc}{E:En}{Q:QZ},jq most cs it tg c e x (o::E) Q=it x (o::E) λE1 xs=>IB most cs xs tg c e E1 Q) /\
 (∀{it:DI}{tg:Tg}{c:DT}{r:DC}{x:XC}{ys:QM}{o:Qc}{E:En}{Q:QM->En->Prop},KJ it tg c r x ys (o::E) Q=it x (o::E) λE1 xs=>KD xs tg c r x ys E1 Q):=⟨rfl,rfl,rfl,rfl⟩
def Ez{a b:DS}{D:eB}{E:En}(h:aC a b D E):qW a b D E:=⟨b D,h,λ_ z=>z⟩
theorem qT{i:Nat}{z:Qc}:∀{cs:QW}{E E0:En},i∉cs->aV cs (E.set i none)=some E0->aV cs (E.set i z)=some (E0.set i z)
 |[],E,E0,_,h=>by have h:E.set i none=E0:=Option.some.inj h;show some _=some _;rw[<-h,List.set_set]
 |c::cs,E,E0,n,h=>by
  have nc:i≠c:=λe=>n (e▸M7);have ns:i∉cs:=λm=>n (MC _ m);have ho:∀y:Qc,aW (E.set i y) c=aW E c:=λy=>by unfold aW;rw[Nh nc]
  unfold aV at h⊢;rw[ho]at h⊢;split at h;{rename_i hc;rw[if_pos hc];rw[List.set_comm _ _ nc]at h⊢;exact qT ns h};cases h
theorem u7:∀{cs:QW}{ds:QM}{E E' E0:En},cs.Nodup->aV cs E=some E0->aV cs E'=some E0->bC cs ds E=bC cs ds E'
 |[],ds,E,E',E0,_,h,h'=>by have h:E=E0:=Option.some.inj h;have h':E'=E0:=Option.some.inj h';rw[h,h']
 |c::cs,[],E,E',E0,_,h,h'=>rfl
 |c::cs,d::ds,E,E',E0,nd,h,h'=>by have n1:=(N4.mp nd).1;unfold aV at h h';unfold bC;split at h;{rename_i hc;split at h';{rename_i hc';rw[if_pos hc,if_pos hc'];exact u7 (N4.mp nd).2 (qT n1 h) (qT n1 h')};cases h'};cases h
def wO{cs:QW}{ds:QM}{E E' E0:En}(nd:jg cs=true)(h:aV cs E=some E0)(h':aV cs E'=some E0):bC cs ds E=bC cs ds E':=u7 (f9 nd) h h'
def oB{tg:Tg}{cs:QW}{d:PyData}{E E' E0:En}(hs:tg.slots=cs)(nd:jg cs=true)(h:aV cs E=some E0)(h':aV cs E'=some E0):bW tg d E=bW tg d E':=by
 subst hs;cases tg with
 |nm i=>exact wO nd h h'
 |tp is=>
  cases d with
  |tuple ds=>exact wO nd h h'
  |_=>rfl
theorem iZ:∀{cs:QW}{E E0:En},cs.Nodup->aV cs E=some E0->aV cs E0=some E0/\∀c∈cs,E0[c]?=some none
 |[],E,E0,_,h=>⟨rfl,λ_ z=>by cases z⟩
 |c::cs,E,E0,nd,h=>by
  have n1:=(N4.mp nd).1;have n2:=(N4.mp nd).2;unfold aV at h;split at h
  .rename_i hc;obtain⟨h1,h2⟩:=iZ n2 h;have hlen:c<E.length:=by unfold aW at hc;rcases Mv c E.length with z|z;{exact z};rw[Mk z]at hc;cases hc
   have hcl:∀{cs:QW}{E E0:En},c∉cs->aV cs E=some E0->E0[c]?=E[c]?:=by
    intro cs;induction cs with
    |nil=>intro E E0 _ h;cases h;rfl
    |cons a cs ih=>intro E E0 n h;unfold aV at h;split at h;{rw[ih (λm=>n (MC _ m)) h,Nh (λe=>n (by rw[e];exact M7))]};cases h
   have e0:E0[c]?=some none:=by rw[hcl n1 h,Ng hlen]
   refine⟨?_,λx hx=>?_⟩
   .unfold aV;rw[if_pos (by unfold aW;rw[e0])];have:E0.set c none=E0:=by
     refine Nc λj=>?_;by_cases e:c=j
     .subst e;have:c<E0.length:=by rcases Mv c E0.length with z|z;{exact z};rw[Mk z]at e0;cases e0
      rw[Ng this,e0]
     rw[Nh e]
    rw[this];exact h1
   cases hx with
   |head=>exact e0
   |tail _ m=>exact h2 x m
  cases h
def dM{α:Type}{l:List α}{i:Nat}{a:α}(ha:l[i]?=some a):i<l.length:=by rcases Mv i l.length with z|z;{exact z};rw[Mk z]at ha;cases ha
def take_snoc{α:Type}{l:List α}{i:Nat}{a:α}(ha:l[i]?=some a):l.take (i+1)=l.take i++[a]:=by rw[List.take_add_one,ha];rfl
def AS{α:Type}{l:List α}{enc:α->PyData}{cs:QW}{tg:Tg}{e:DE}{most:Nat}{E1 E0:En}{Q:QZ}(g:α->PyData)(h0:aV cs E1=some E0)(h2:∀a,a∈l->∀I:En->PyData->Prop,(∀E4,aV cs E4=some E0->I E4 (g a))->∃E2,bW tg (enc a) E0=some E2/\e xF E2 (λE4 k v=>(∃p,k=.ow p)/\I E4 v))(h3:Q E0 (.dp false) (.list (l.map g)))(hl:l.length<=most)(hs:tg.slots=cs:=by rfl)(nd:jg cs=true:=by rfl):IB most cs (l.map enc) tg gR e E1 Q:=by
 obtain⟨hc0,_⟩:=iZ (f9 nd) h0;refine⟨E0,λi ys E=>ys=(l.take i).map g/\aV cs E=some E0,h0,⟨rfl,hc0⟩,?_,?_⟩
 .rintro i d ys E hd⟨rfl,hE⟩;rw[MQ]at hd;obtain⟨a,ha,rfl⟩:=Np.mp hd;have hi:=dM ha;obtain⟨E2,hE2,hb⟩:=h2 a (Ma ha) (λE4 v=>((l.take i).map g).length<most/\((l.take i).map g++[v]=(l.take (i+1)).map g/\aV cs E4=some E0)) (λE4 hE4=>by
   refine⟨?_,?_,hE4⟩
   .rw[M9,Mz];lia
   .rw[take_snoc ha,Mr];rfl)
  exact⟨E2,(oB hs nd hE hc0).trans hE2,hb⟩
 rintro ys E⟨rfl,hE⟩;rw[M9,NT];exact⟨E0,hE,h3⟩
def pP{α:Type}{l:List α}{enc:α->PyData}{tg:Tg}{b:DS}{D:eB}{E1:En}(I:Nat->En->Prop)(h0:I 0 E1)(hs:∀i a E,l[i]?=some a->I i E->∃E2,bW tg (enc a) E=some E2/\b { D with nx:=I (i+1) } E2)(he:∀E,I l.length E->D.nx E):vI (l.map enc) tg b D E1:=by refine⟨I,h0,λi d E hd hi=>?_,by rw[M9];exact he⟩;rw[MQ]at hd;obtain⟨a,ha,rfl⟩:=Np.mp hd;exact hs i a E ha hi
def Jv{α:Type}{l:List α}{enc:α->PyData}{cs:QW}{tg:Tg}{c:DT}{r:DC}{E1:En}{Q:QZ}(E0:En)(I:Nat->QM->En->Prop)(h0:aV cs E1=some E0)(h1:I 0 [] E0)(hs:∀i a ys E,l[i]?=some a->I i ys E->∃E2,bW tg (enc a) E=some E2/\c xF E2 λE3 b=>if b=true then r xF ys E3 (I (i+1))else I (i+1) ys E3)(he:∀ys E,I l.length ys E->∃E2,aV cs E=some E2/\Q E2 (.ow false) (.list ys)):tT cs (l.map enc) tg c r E1 Q:=by refine⟨E0,I,h0,h1,λi d ys E hd hi=>?_,by rw[M9];exact he⟩;rw[MQ]at hd;obtain⟨a,ha,rfl⟩:=Np.mp hd;exact hs i a ys E ha hi
def AA{n i k:Nat}(h:(List.range n)[i]?=some k):i<n/\k=i:=by have hi:=dM h;rw[MT]at hi;rw[NN hi]at h;cases h;exact⟨hi,rfl⟩
def GK{n:Nat}{enc:Nat->PyData}{tg:Tg}{b:DS}{D:eB}{E1:En}(I:Nat->En->Prop)(h0:I 0 E1)(hs:∀i E,i<n->I i E->∃E2,bW tg (enc i) E=some E2/\b { D with nx:=I (i+1) } E2)(he:∀E,I n E->D.nx E):vI ((List.range n).map enc) tg b D E1:=
 pP I h0 (λi a E ha hi=>by obtain⟨l,rfl⟩:=AA ha;exact hs a E l hi) (by rw[MT];exact he)
def FL{α:Type}{l:List α}{enc:α->PyData}{cs:QW}{tg:Tg}{e:DE}{most:Nat}{E1 E0:En}{Q:QZ}(S:Qh)(g:α->PyData)(h0:aV cs E1=some E0)(hS:S E0)(h2:∀a,a∈l->∀E0',S E0'->∀I:En->PyData->Prop,(∀E4 E5,aV cs E4=some E5->S E5->I E4 (g a))->∃E2,bW tg (enc a) E0'=some E2/\e xF E2 (λE4 k v=>k.fz=true/\I E4 v))(h3:∀E0',S E0'->Q E0' (.ow false) (.list (l.map g)))(hl:l.length<=most)(hs:tg.slots=cs:=by rfl)(nd:jg cs=true:=by rfl):tT cs (l.map enc) tg gR (dg most e) E1 Q:=by
 obtain⟨hc0,_⟩:=iZ (f9 nd) h0;refine⟨E0,λi ys E=>ys=(l.take i).map g/\∃E5,aV cs E=some E5/\S E5,h0,⟨rfl,E0,hc0,hS⟩,?_,?_⟩
 .rintro i d ys E hd⟨rfl,E5,hE,hS5⟩;rw[MQ]at hd;obtain⟨a,ha,rfl⟩:=Np.mp hd;have hi:=dM ha;obtain⟨hc5,_⟩:=iZ (f9 nd) hE;obtain⟨E2,hE2,hb⟩:=h2 a (Ma ha) E5 hS5 (λE4 v=>((l.take i).map g).length<most/\((l.take i).map g++[v]=(l.take (i+1)).map g/\∃E5,aV cs E4=some E5/\S E5)) (λE4 E6 hE4 hS6=>by
   refine⟨?_,?_,E6,hE4,hS6⟩
   .rw[M9,Mz];lia
   .rw[take_snoc ha,Mr];rfl)
  exact⟨E2,(oB hs nd hE hc5).trans hE2,hb⟩
 rintro ys E⟨rfl,E5,hE,hS5⟩;rw[M9,NT];exact⟨E5,hE,h3 E5 hS5⟩
def Eo{α:Type}{l:List α}{enc:α->PyData}{cs:QW}{tg:Tg}{c:DT}{e:DE}{most:Nat}{E1 E0:En}{Q:QZ}(S:Qh)(g:α->Option PyData)(h0:aV cs E1=some E0)(hS:S E0)(h2:∀a,a∈l->∀E0',S E0'->∀I:En->Option PyData->Prop,(∀E4 E5,aV cs E4=some E5->S E5->I E4 (g a))->∃E2,bW tg (enc a) E0'=some E2/\c xF E2 λE3 b=>if b=true then e xF E3 (λE4 k v=>k.fz=true/\I E4 (some v))else I E3 none)(h3:∀E0',S E0'->Q E0' (.ow false) (.list (l.filterMap g)))(hl:l.length<=most)(hs:tg.slots=cs:=by rfl)(nd:jg cs=true:=by rfl):tT cs (l.map enc) tg c (dg most e) E1 Q:=by
 obtain⟨hc0,_⟩:=iZ (f9 nd) h0;refine⟨E0,λi ys E=>ys=(l.take i).filterMap g/\∃E5,aV cs E=some E5/\S E5,h0,⟨rfl,E0,hc0,hS⟩,?_,?_⟩
 .rintro i d ys E hd⟨rfl,E5,hE,hS5⟩;rw[MQ]at hd;obtain⟨a,ha,rfl⟩:=Np.mp hd;have hi:=dM ha;obtain⟨hc5,_⟩:=iZ (f9 nd) hE;have hlen:((l.take i).filterMap g).length<most:=by have:=List.length_filterMap_le g (l.take i);rw[Mz]at this;lia
  obtain⟨E2,hE2,hb⟩:=h2 a (Ma ha) E5 hS5 (λE4 o=>match o with
   |some v=>((l.take i).filterMap g).length<most/\((l.take i).filterMap g++[v]=(l.take (i+1)).filterMap g/\∃E5,aV cs E4=some E5/\S E5)
   |none=>(l.take i).filterMap g=(l.take (i+1)).filterMap g/\∃E5,aV cs E4=some E5/\S E5) (λE4 E6 hE4 hS6=>by
   cases hg:g a with
   |none=>
    refine⟨?_,E6,hE4,hS6⟩;rw[take_snoc ha,Q3,Nf,hg];exact(NI _).symm
   |some v=>
    refine⟨hlen,?_,E6,hE4,hS6⟩;rw[take_snoc ha,Q3,Nf,hg];rfl)
  exact⟨E2,(oB hs nd hE hc5).trans hE2,hb⟩
 rintro ys E⟨rfl,E5,hE,hS5⟩;rw[M9,NT];exact⟨E5,hE,h3 E5 hS5⟩
def mE{α:Type}{l:List α}{enc:α->PyData}{cs:QW}{tg:Tg}{e:DE}{most:Nat}{E1 E0:En}{Q:QZ}(g:α->PyData)(h0:aV cs E1=some E0)(h2:∀a,a∈l->∀I:En->PyData->Prop,(∀E4,aV cs E4=some E0->I E4 (g a))->∃E2,bW tg (enc a) E0=some E2/\e xF E2 (λE4 k v=>k.fz=true/\I E4 v))(h3:Q E0 (.ow false) (.list (l.map g)))(hl:l.length<=most)(hs:tg.slots=cs:=by rfl)(nd:jg cs=true:=by rfl):tT cs (l.map enc) tg gR (dg most e) E1 Q:=
 FL (·=E0) g h0 rfl (λa ha E0' e I hI=>by subst e;exact h2 a ha I λE4 h=>hI E4 _ h rfl) (λE0' e=>by subst e;exact h3) hl hs nd
def uX{α:Type}{l:List α}{enc:α->PyData}{cs:QW}{tg:Tg}{c:DT}{e:DE}{most:Nat}{E1 E0:En}{Q:QZ}(g:α->Option PyData)(h0:aV cs E1=some E0)(h2:∀a,a∈l->∀I:En->Option PyData->Prop,(∀E4,aV cs E4=some E0->I E4 (g a))->∃E2,bW tg (enc a) E0=some E2/\c xF E2 λE3 b=>if b=true then e xF E3 (λE4 k v=>k.fz=true/\I E4 (some v))else I E3 none)(h3:Q E0 (.ow false) (.list (l.filterMap g)))(hl:l.length<=most)(hs:tg.slots=cs:=by rfl)(nd:jg cs=true:=by rfl):tT cs (l.map enc) tg c (dg most e) E1 Q:=
 Eo (·=E0) g h0 rfl (λa ha E0' e I hI=>by subst e;exact h2 a ha I λE4 h=>hI E4 _ h rfl) (λE0' e=>by subst e;exact h3) hl hs nd
abbrev iD(n:Nat):PyData:=.int (n:Int)
abbrev nD(l:QW):PyData:=.list (l.map iD)
abbrev eO(e:Nat×Nat):PyData:=.tuple [iD e.1,iD e.2]
abbrev wD(m:Nat)(es:QH):PyData:=.tuple [iD m,.tuple (es.map eO)]
def GG{n:Nat}:iS 0 n=(List.range n).map iD:=by unfold iS;refine OC λi _=>?_;rw[Int.zero_add]
def Hj{n:Nat}:iS 1 n=(List.range n).map λi=>iD (i+1):=by unfold iS;refine OC λi _=>?_;show PyData.int _=PyData.int _;congr 1;lia
def uA{xs:QM}{i:Nat}:c8 xs (i:Int)=xs[i]?:=by unfold c8 lK;rw[if_pos (by lia)];split;{exact rfl};rw[Mk (by lia)];rfl
def zC{n i:Nat}(h:i<n):jm n (i:Int)=some i:=by unfold jm;rw[if_pos (by lia),if_pos (by lia)];rfl
def Ew{n i:Nat}{Q:Nat->Prop}(h:i<n)(q:Q i):aq (jm n (i:Int)) Q:=by rw[zC h];exact q
def t6{α β:Type}{o:Option α}{f:α->β}{Q:β->Prop}:aq (o.map f) Q=aq o λa=>Q (f a):=by cases o<;>rfl
def mJ{α:Type}{l:List α}{f:α->PyData}{i:Nat}{Q:PyData->Prop}:aq (c8 (l.map f) (i:Int)) Q=aq l[i]? λa=>Q (f a):=by rw[uA,MQ,t6]
def zH{α:Type}{l:List α}{f:α->PyData}{a:Nat}:cutD (l.map f) (some (a:Int)) none=(l.drop a).map f:=by unfold cutD;have e1:HT.aD (l.map f).length 0 (some (a:Int))=min a (l.map f).length:=HT.nh _ _ a;have e2:HT.aD (l.map f).length (l.map f).length none=(l.map f).length:=rfl;rw[e1,e2,M9,<-List.map_drop,<-List.map_take];congr 1;rw[O1 (by rw[Nv];lia)];rcases Od a l.length with h|h;{rw[OH h]};rw[OI h,PK,O3 h]
def tN{α:Type}{l:List α}{f:α->PyData}{b:Nat}:cutD (l.map f) none (some (b:Int))=(l.take b).map f:=by unfold cutD;have e1:HT.aD (l.map f).length (l.map f).length (some (b:Int))=min b (l.map f).length:=HT.nh _ _ b;have e2:HT.aD (l.map f).length 0 none=0:=rfl;rw[e1,e2,M9,OV,Nat.sub_zero,<-List.map_take];congr 1;rcases Od b l.length with h|h;{rw[OH h]};rw[OI h,NT,O1 h]
def tG{α:Type}{l:List α}{f:α->PyData}{a b:Nat}:cutD (l.map f) (some (a:Int)) (some (b:Int))=((l.take b).drop a).map f:=by unfold cutD;have e1:HT.aD (l.map f).length 0 (some (a:Int))=min a (l.map f).length:=HT.nh _ _ a;have e2:HT.aD (l.map f).length (l.map f).length (some (b:Int))=min b (l.map f).length:=HT.nh _ _ b;rw[e1,e2,M9,<-List.map_drop,<-List.map_take];congr 1;rw[List.drop_take];rcases Od a l.length with h|h;{rw[OH h];rcases Od b l.length with g|g;{rw[OH g]};rw[OI g,O1 (by rw[Nv];lia),O1 (by rw[Nv];lia)]};rw[OI h,PK,O3 h,List.take_nil,List.take_nil]
def nX{α:Type}{l:List α}{f:α->PyData}:g9 (l.map f)=l.zipIdx.map λp=>.tuple [iD p.2,f p.1]:=by unfold g9;rw[List.zipIdx_map,Mu];rfl
theorem zip_map{α β:Type}{l:List α}{m:List β}{f:α->PyData}{g:β->PyData}:((l.map f).zip (m.map g)).map (λp=>PyData.tuple [p.1,p.2])=(l.zip m).map λp=>.tuple [f p.1,g p.2]:=by rw[List.zip_map,Mu];rfl
def wR{α:Type}{l:List α}{f:α->PyData}{Q:PyData->Prop}:aq (c8 (l.map f) 0) Q=aq l[0]? λa=>Q (f a):=mJ (i:=0)
def vO{α:Type}{l:List α}{f:α->PyData}{Q:PyData->Prop}:aq (c8 (l.map f) 1) Q=aq l[1]? λa=>Q (f a):=mJ (i:=1)
def gk{α:Type}{o:Option α}{a:α}{Q:α->Prop}(h:o=some a)(q:Q a):aq o Q:=by rw[h];exact q
def uN{a b:Nat}:(a:Int)%(b:Int)=((a%b:Nat):Int):=(Int.natCast_emod a b).symm
def uw{a b:Nat}:(a:Int)/(b:Int)=((a/b:Nat):Int):=(Int.natCast_ediv a b).symm
def w6{a b:Nat}:((a:Int)<(b:Int))=(a<b):=propext Nr
def wm{a b:Nat}:((a:Int)<=(b:Int))=(a<=b):=propext Int.ofNat_le
def cast_eq{a b:Nat}:((a:Int)=(b:Int))=(a=b):=propext Int.ofNat_inj
def cast_pos{a:Nat}:((0:Int)<(a:Int))=(0<a):=propext Int.natCast_pos
def CB{a b:Nat}:(if b<a then(b:Int)else(a:Int))=((min a b:Nat):Int):=by split<;>lia
def Dc{a b:Nat}:(if a<b then(b:Int)else(a:Int))=((max a b:Nat):Int):=by split<;>lia
def CZ{a b:Nat}:(if b>a then(b:Int)else(a:Int))=((max a b:Nat):Int):=by split<;>lia
def pF{ds:QM}:lf (.tuple ds)=ds.all lf:=qO ds
def wW{p:Bool}{ds:QM}:flat (.ow p) (.list ds)=ds.all lf:=rfl
def pA{α β:Type}{l:List α}{f:α->β}{p:β->Bool}:(l.map f).all p=l.all λa=>p (f a):=by rw[List.all_map];rfl
def yX{α:Type}{l:List α}:(l.all λ_=>true)=true:=by rw[MI];exact λ_ _=>rfl
def xw{n:Nat}:lf (iD n)=true:=rfl
def ue{e:Nat×Nat}:lf (eO e)=true:=rfl
def Dz{m:Nat}{es:QH}:lf (wD m es)=true:=by rw[pF];show(lf (iD m)&&(lf (.tuple (es.map eO))&&true))=true;rw[pF,pA];simp[xw,ue]
def Kn:type_of%@pF/\type_of%@wW/\type_of%@pA/\type_of%@yX/\type_of%@xw/\type_of%@ue/\type_of%@Dz/\(decide True=true)/\(∀{ds:QM},lf (.list ds)=false)/\(∀{α:Type}{l m:List α}{p:α->Bool},(l++m).all p=(l.all p&&m.all p)):=⟨@pF,@wW,@pA,@yX,@xw,@ue,@Dz,rfl,rfl,(by intros;exact List.all_append)⟩
def dz:(type_of%Kn)/\type_of%@GG/\type_of%@Hj/\type_of%@mJ/\type_of%@wR/\type_of%@vO/\type_of%@t6/\type_of%@zH/\type_of%@tN/\type_of%@tG/\type_of%@nX/\type_of%@zip_map/\type_of%@uN/\type_of%@uw/\type_of%@w6/\type_of%@wm/\type_of%@cast_eq/\type_of%@cast_pos/\type_of%@aR/\type_of%@CB/\type_of%@Dc/\type_of%@CZ /\
 (∀{α β:Type}{f:α->β}{l:List α},(l.map f).length=l.length)/\(∀{n:Nat},(List.range n).length=n)/\(∀{n:Nat},(n:Int).toNat=n):=
 ⟨Kn,@GG,@Hj,@mJ,@wR,@vO,@t6,@zH,@tN,@tG,@nX,@zip_map,@uN,@uw,@w6,@wm,@cast_eq,@cast_pos,@aR,@CB,@Dc,@CZ,(by intros;exact M9 ..),(by intros;exact MT),(by intros;exact Int.toNat_natCast _)⟩
def oA(e f:Nat×Nat):Prop:=e.1<f.1\/(e.1=f.1/\e.2<=f.2)
def jU{α β:Type}(f:α->β){l:List α}:∀{m:List β},m.Perm (l.map f)->∃l':List α,l'.Perm l/\m=l'.map f:=by
 have:∀{a b:List β},a.Perm b->∀l:List α,b=l.map f->∃l':List α,l'.Perm l/\a=l'.map f:=by
  intro a b h;induction h with
  |nil=>intro l e;exact⟨l,.refl _,e⟩
  |cons x _ ih=>
   intro l e;cases l with
   |nil=>cases e
   |cons y l=>rw[Mb,PM]at e;obtain⟨l',p,e'⟩:=ih l e.2;exact⟨y::l',p.cons _,by rw[e.1,e',Mb]⟩
  |swap x y z=>
   intro l e
   match l,e with
   |[],e=>cases e
   |[_],e=>rw[Mb,PM]at e;cases e.2
   |u::v::l,e=>rw[Mb,Mb,PM,PM]at e;exact⟨v::u::l,OX _ _ _,by rw[Mb,Mb,e.1,e.2.1,e.2.2]⟩
  |trans _ _ ih1 ih2=>intro l e;obtain⟨l1,p1,e1⟩:=ih2 l e;obtain⟨l2,p2,e2⟩:=ih1 l1 e1;exact⟨l2,p2.trans p1,e2⟩
 intro m h;exact this h l rfl
def v8{ns:QW}{P:Qd}(h:ns.length<64)(q:∀ms:QW,ms.Perm ns->ms.Pairwise (·<=·)->P (.ow false) (nD ms)):lQ [nD ns] P:=by refine⟨ns.map (λn:Nat=>(n:Int)),by rw[Mu];rfl,by rw[M9];exact h,λms p s=>?_⟩;obtain⟨l,hl,rfl⟩:=jU _ p;rw[OZ]at s;have:=q l hl (List.Pairwise.imp (S:=(·<=·)) (λ{a b} h=>by lia) s);rw[Mu];exact this
def ED{ps:QH}{P:Qd}(h:ps.length<=1000)(q:∀qs:QH,qs.Perm ps->qs.Pairwise oA->P (.ow false) (.list (qs.map eO))):pY [.list (ps.map eO)] P:=by
 refine⟨ps.map (λe:Nat×Nat=>((e.1:Int),(e.2:Int))),by rw[Mu];rfl,by rw[M9];exact h,λms p s=>?_⟩;obtain⟨l,hl,rfl⟩:=jU _ p;rw[OZ]at s;have:=q l hl (s.imp λ{a b} h=>by
  unfold xJ at h;unfold oA;simp only at h;lia)
 rw[Mu];exact this
def qo{a b:Nat}:iD a=iD b↔a=b:=⟨λh=>by cases h;rfl,λh=>by rw[h]⟩
end Dv
namespace Gr
inductive R(E:Nat->Nat->Prop) (p:Nat):Nat->Nat->Prop
 |zero:R E p 0 p
 |step {d x y:Nat}:R E p d x->E x y->R E p (d+1) y
def lG(E:Nat->Nat->Prop) (p x d:Nat):Prop:=R E p d x/\∀e,e<d->¬R E p e x
section
variable{E:Nat->Nat->Prop}{p:Nat}
def lG.eq{x d e:Nat}(h:lG E p x d)(g:lG E p x e):d=e:=by rcases Q4 d e with l|l|l;{exact absurd h.1 (g.2 d l)};{exact l};exact absurd g.1 (h.2 e l)
theorem zx:∀(n:Nat){x d:Nat},d<=n->R E p d x->∃e,e<=d/\lG E p x e
 |0,x,d,l,h=>by
  obtain rfl:d=0:=by lia
  exact⟨0,M5 _,h,λe he=>absurd he (OB e)⟩
 |n+1,x,d,l,h=>by by_cases c:∃e,e<d/\R E p e x;{obtain⟨e,he,hr⟩:=c;obtain⟨e',h1,h2⟩:=zx n (show e<=n by lia) hr;exact⟨e',by lia,h2⟩};exact⟨d,M5 _,h,λe he hr=>c ⟨e,he,hr⟩⟩
open Classical in
def dst(E:Nat->Nat->Prop) (p x:Nat):Nat:=if h:∃d,lG E p x d then Classical.choose h else 0
def uI{x d:Nat}(h:lG E p x d):dst E p x=d:=by have h':∃d,lG E p x d:=⟨d,h⟩;unfold dst;rw[dif_pos h'];exact(Classical.choose_spec h').eq h
def HP{x d:Nat}(h:R E p d x):lG E p x (dst E p x):=by obtain⟨e,_,g⟩:=zx d (M5 _) h;rw[uI g];exact g
def R.trans{q:Nat}{d e x:Nat}(h:R E p d q)(g:R E q e x):R E p (d+e) x:=by
 induction g with
 |zero=>exact h
 |step _ s ih=>exact ih.step s
def R.head{q d x:Nat}(h:E p q)(g:R E q d x):R E p (1+d) x:=R.trans (R.step .zero h) g
def R.symm(sy:∀x y,E x y->E y x){d x:Nat}(h:R E p d x):R E x d p:=by
 induction h with
 |zero=>exact .zero
 |step _ s ih=>have:=R.head (sy _ _ s) ih;rwa[Nat.add_comm]at this
end
def bB(es:QH) (x y:Nat):Prop:=(x,y)∈es\/(y,x)∈es
def dW(x y:Nat)(h:bB es x y):bB es y x:=h.elim .inr .inl
def cK(m:Nat)(es:QH):Prop:=∀p,p<m->∀x,x<m->∃d,R (bB es) p d x
def EA{m:Nat}(h:∀k,0<k->k<m->∃p,p<k/\(p,k)∈es):cK m es:=by
 have z:∀n x,x<n->x<m->∃d,R (bB es) x d 0:=by
  intro n;induction n with
  |zero=>exact λx h _=>absurd h (OB _)
  |succ n ih=>intro x hx hm;by_cases c:x=0;{rw[c];exact⟨0,.zero⟩};obtain⟨q,hq,he⟩:=h x (by lia) hm;obtain⟨d,hd⟩:=ih q (by lia) (by lia);exact⟨1+d,R.head (.inr he) hd⟩
 intro p hp x hx;obtain⟨d,hd⟩:=z (p+1) p (by lia) hp;obtain⟨e,he⟩:=z (x+1) x (by lia) hx;exact⟨d+e,hd.trans (he.symm dW)⟩
def tR{m:Nat}{nm:Nat->Nat}(h:cK m es)(onto:∀x,x<m->∃a,a<m/\nm a=x)(e:∀a b,(a,b)∈es->bB fs (nm a) (nm b)):cK m fs:=by
 intro p hp x hx;obtain⟨a,ha,rfl⟩:=onto p hp;obtain⟨b,hb,rfl⟩:=onto x hx;obtain⟨d,hd⟩:=h a ha b hb;have go:∀{d b:Nat},R (bB es) a d b->R (bB fs) (nm a) d (nm b):=by
  intro d b hd;induction hd with
  |zero=>exact .zero
  |step _ s ih=>refine R.step ih ?_;rcases s with s|s;{exact e _ _ s};exact dW _ _ (e _ _ s)
 exact⟨d,go hd⟩
theorem fY:∀(m:Nat)(l:QW),l.Nodup->(∀x∈l,x<m)->l.length<=m
 |0,[],_,_=>M5 _
 |0,x::_,_,h=>absurd (h x (M7 ..)) (OB _)
 |m+1,l,nd,h=>by
  have h1:(l.erase m).length<=m:=fY m (l.erase m) (nd.sublist (List.erase_sublist ..)) λx hx=>by have:=(nd.mem_erase_iff.mp hx);have:=h x this.2;lia
  have h2:l.length<=(l.erase m).length+1:=by rw[List.length_erase];split<;>lia
  lia
def nb(x:Nat)(e:Nat×Nat):Option Nat:=if e.1=x then some e.2 else if e.2=x then some e.1 else none
def cM(es:QH) (x:Nat):QW:=es.filterMap (nb x)
def qY{x y:Nat}(h:nb x e=some y):e=(x,y)\/e=(y,x):=by obtain⟨a,b⟩:=e;unfold nb at h;by_cases c:a=x;{rw[if_pos c]at h;cases h;rw[c];exact .inl rfl};rw[if_neg c]at h;by_cases c2:b=x;{rw[if_pos c2]at h;cases h;rw[c2];exact .inr rfl};rw[if_neg c2]at h;cases h
def mV{x y:Nat}:y∈cM es x↔bB es x y:=by unfold cM;rw[PY];constructor;{rintro⟨e,he,h⟩;rcases qY h with rfl|rfl;{exact .inl he};exact .inr he};rintro (h|h);{exact⟨_,h,if_pos rfl⟩};refine⟨_,h,?_⟩;show(if y=x then some x else if x=x then some y else none)=some y;by_cases c:y=x;{rw[if_pos c,c]};rw[if_neg c,if_pos rfl]
def Ec{x:Nat}:cM (es++fs) x=cM es x++cM fs x:=Q3 ..
structure Good(m:Nat)(es:QH):Prop where
 lt:∀e∈es,e.1<e.2/\e.2<m
 nd:es.Nodup
def Good.gD{m:Nat}(g:Good m es){x y:Nat}(h:bB es x y):x<m/\y<m:=by rcases h with h|h;{have:x<y/\y<m:=g.lt _ h;lia};have:y<x/\x<m:=g.lt _ h;lia
def Good.rR{m:Nat}(g:Good m es) (x:Nat):(cM es x).Nodup:=by unfold cM List.Nodup;rw[List.pairwise_filterMap];refine Oa ?_ g.nd;intro a b ha hb ne y hy z hz e;subst e;rcases qY hy with rfl|rfl<;>rcases qY hz with rfl|rfl;{exact ne rfl};{have h1:x<y/\y<m:=g.lt _ ha;have h2:y<x/\x<m:=g.lt _ hb;lia};{have h1:y<x/\x<m:=g.lt _ ha;have h2:x<y/\y<m:=g.lt _ hb;lia};exact ne rfl
def Good.ku{m:Nat}(g:Good m es) (x:Nat):(cM es x).length<=m:=fY m _ (g.rR x) λy hy=>(g.gD (mV.mp hy)).2
def Good.perm{m:Nat}(p:fs.Perm es)(g:Good m es):Good m fs:=⟨λe h=>g.lt e (p.mem_iff.mp h),p.nodup_iff.mpr g.nd⟩
def AK{m:Nat}(p:fs.Perm es)(h:cK m es):cK m fs:=tR (nm:=id) h (λx hx=>⟨x,hx,rfl⟩) λa b h=>.inl (p.mem_iff.mpr h)
def rF(ms:QW)(e:Nat×Nat):Nat×Nat:=(min (ms.getD e.1 0) (ms.getD e.2 0),max (ms.getD e.1 0) (ms.getD e.2 0))
def getD_inj{ms:QW}(nd:ms.Nodup){a b:Nat}(ha:a<ms.length)(hb:b<ms.length)(e:ms.getD a 0=ms.getD b 0):a=b:=by rw[N6,N6,MP ha,MP hb]at e;have e':ms[a]=ms[b]:=e;rcases Q4 a b with l|l|l;{exact absurd e' (OA.mp nd a b ha hb l)};{exact l};exact absurd e'.symm (OA.mp nd b a hb ha l)
def yo{m:Nat}{ps:QH}{ms:QW}(pm:ms.Perm (List.range m))(g:Good m ps):Good m (ps.map (rF ms)):=by
 have nd:ms.Nodup:=pm.nodup_iff.mpr NF;have ln:ms.length=m:=by rw[pm.length_eq,MT]
 have lt:∀a,a<m->ms.getD a 0<m:=λa ha=>by
  have h:a<ms.length:=by lia
  rw[N6,MP h];exact NH.mp (pm.mem_iff.mp (Na h))
 refine⟨λe he=>?_,?_⟩
 .obtain⟨⟨a,b⟩,hp,rfl⟩:=MS.mp he;have h:a<b/\b<m:=g.lt _ hp;have h1:=lt a (by lia);have h2:=lt b (by lia);have ne:ms.getD a 0≠ms.getD b 0:=λe=>by have:=getD_inj nd (by lia) (by lia) e;lia
  show min (ms.getD a 0) (ms.getD b 0)<max (ms.getD a 0) (ms.getD b 0)/\max (ms.getD a 0) (ms.getD b 0)<m;lia
 refine List.Pairwise.map _ ?_ (Oa (S:=λx y=>x≠y/\(x.1<x.2/\x.2<m)/\(y.1<y.2/\y.2<m)) (λ{a b} ha hb h=>⟨h,g.lt _ ha,g.lt _ hb⟩) g.nd);rintro⟨a,b⟩⟨c,d⟩⟨ne,h1,h2⟩e;have h1:a<b/\b<m:=h1;have h2:c<d/\d<m:=h2;have e1:min (ms.getD a 0) (ms.getD b 0)=min (ms.getD c 0) (ms.getD d 0):=congrArg Prod.fst e;have e2:max (ms.getD a 0) (ms.getD b 0)=max (ms.getD c 0) (ms.getD d 0):=congrArg Prod.snd e;have e3:(ms.getD a 0=ms.getD c 0/\ms.getD b 0=ms.getD d 0)\/(ms.getD a 0=ms.getD d 0/\ms.getD b 0=ms.getD c 0):=by lia
 rcases e3 with⟨p,q⟩|⟨p,q⟩;{have r1:=getD_inj nd (by lia) (by lia) p;have r2:=getD_inj nd (by lia) (by lia) q;subst r1;subst r2;exact ne rfl};have r1:=getD_inj nd (by lia) (by lia) p;have r2:=getD_inj nd (by lia) (by lia) q;lia
def xG{m:Nat}(pm:ms.Perm (List.range m))(h:cK m ps):cK m (ps.map (rF ms)):=by refine tR (nm:=λa=>ms.getD a 0) h (λx hx=>?_) λa b he=>?_;{obtain⟨i,hi⟩:=NS (pm.mem_iff.mpr (NH.mpr hx));have li:=(N2.mp hi).1;rw[pm.length_eq,MT]at li;refine⟨i,li,?_⟩;show ms.getD i 0=x;rw[N6,hi];rfl};have hm:rF ms (a,b)∈ps.map (rF ms):=MS.mpr ⟨_,he,rfl⟩;show bB _ (ms.getD a 0) (ms.getD b 0);have e:rF ms (a,b)=(min (ms.getD a 0) (ms.getD b 0),max (ms.getD a 0) (ms.getD b 0)):=rfl;rw[e]at hm;rcases Od (ms.getD a 0) (ms.getD b 0)with l|l;{rw[OH l,Nat.max_eq_right l]at hm;exact .inl hm};rw[OI l,Nat.max_eq_left l]at hm;exact .inr hm
section
variable{E:Nat->Nat->Prop}{p:Nat}
def lG.pred{x d:Nat}(h:lG E p x (d+1)):∃y,lG E p y d/\E y x:=by
 obtain⟨h1,h2⟩:=h;cases h1 with
 |@step _ y _ hy hyx=>refine⟨y,⟨hy,λe he hr=>?_⟩,hyx⟩;exact h2 (e+1) (by lia) (hr.step hyx)
end
def iN:Nat->Nat
 |0=>0
 |b+1=>iN b+b
def uC{a b:Nat}(h:a<=b):iN a<=iN b:=by
 induction b with
 |zero=>
  obtain rfl:a=0:=by lia
  exact M5 _
 |succ b ih=>by_cases c:a=b+1;{rw[c];exact M5 _};exact MZ (ih (by lia)) (Nat.le_add_right _ _)
theorem vL:∀m,2*iN m<=m*m
 |0=>M5 _
 |m+1=>by have:=vL m;show 2*(iN m+m)<=(m+1)*(m+1);rw[Nat.mul_add,Nat.add_mul,Nat.mul_add];lia
def ix(e:Nat×Nat):Nat:=iN e.2+e.1
def Gu(he:e.1<e.2)(hf:f.1<f.2)(h:ix e=ix f):e=f:=by
 obtain⟨a,b⟩:=e;obtain⟨c,d⟩:=f;unfold ix at h;dsimp only at he hf h;have key:∀{a b c d:Nat},a<b->b<d->iN b+a<iN d+c:=λ{a b c d} h1 h2=>by have:=uC (a:=b+1) (b:=d) (by lia);have e:iN (b+1)=iN b+b:=rfl;lia
 rcases Q4 b d with l|l|l;{have:=key (c:=c) he l;lia};{subst l;rw[show a=c by lia]};have:=key (c:=a) hf l;lia
def BO{m:Nat}(g:Good m ps):2*ps.length<=m*m:=by have h:=fY (iN m) (ps.map ix) ?_ ?_;{rw[M9]at h;have:=vL m;lia};{unfold List.Nodup;rw[OZ];exact Oa (λ{e f} he hf ne h=>ne (Gu (g.lt e he).1 (g.lt f hf).1 h)) g.nd};intro x hx;obtain⟨e,he,rfl⟩:=MS.mp hx;have l:=g.lt e he;have:=uC (a:=e.2+1) (b:=m) (by lia);have e2:iN (e.2+1)=iN e.2+e.2:=rfl;unfold ix;lia
end Gr
local macro_rules | `(tactic| bv_omega) => do let ls ← (List.range 228).toArray.mapM fun k => `(Lean.Parser.Tactic.simpLemma| $(Lean.mkIdent (.str `Dv s!"rr{k}")):ident); `(tactic| dsimp only[$ls,*, Dv.dyr0, Dv.dyr1, Dv.dyr2, Dv.dyr3, Nat.reduceBEq])
local macro_rules | `(tactic| rfl') => `(tactic| ((try bv_omega); try simp only[Dv.dv, Dv.dw, Dv.dx, Dv.dy, Dv.dz, Nat.reduceBEq]))
local macro_rules | `(tactic| simp![$xs,*]) => `(tactic| ((try bv_omega); try simp only[Dv.dv, Dv.dw, Dv.dx, Dv.dy, Dv.dz, Nat.reduceBEq, $xs,*]))
namespace PB
open PySem L2 Dv
def Ei{α:Type}{m k:Nat}{f:Nat->α}{v:α}:((List.range m).map f).set k v=(List.range m).map λi=>if i=k then v else f i:=by refine Nc λj=>?_;rw[Nd,M9,MT,MQ,MQ];by_cases h:j<m;{rw[NN h];by_cases c:k=j;{subst c;rw[if_pos rfl,if_pos h];simp};rw[if_neg c];simp[Ne.symm c]};rw[Mk (by rw[MT];lia)];by_cases c:k=j;{subst c;rw[if_pos rfl,if_neg h];rfl};rw[if_neg c];rfl
def E8{α:Type}{m k:Nat}{f:Nat->α}(h:k<m):((List.range m).map f)[k]?=some (f k):=by rw[MQ,NN h];rfl
def Kl(f:DM) (i n:Nat)(E1:En)(w:PyData)(Q:QZ):Prop:=∃a p ds m es k d E2,w=.int a/\E1[i]?=some (some (.dp p,.list ds))/\jm ds.length a=some m/\ds[m]?=some (.list es)/\E1[n]?=some (some (k,d))/\i≠n/\cG E1 n=some E2/\f es [d] λnew v=>Q (E2.set i (some (.dp p,.list (ds.set m (.list new))))) .sh v
def AW{i n:Nat}:uE f i j n x (o::E) Q=(here (o::E) i=true/\j x (o::E) λE1 _ w=>Kl f i n E1 w Q):=rfl
def AL{i n a m:Nat}{p:Bool}{E:En}{g:Nat->QM}{Q:QZ}(h1:E[i]?=some (some (.dp p,.list ((List.range m).map λi=>.list (g i)))))(h2:E[n]?=some (some (.sh,d)))(ne:i≠n)(ha:a<m)(hs:(g a).length<16777216)(q:Q (E.set i (some (.dp p,.list ((List.range m).map λk=>.list (if k=a then g k++[d]else g k))))) .sh .none):Kl fX i n E (iD a) Q:=by
 refine⟨a,p,_,a,g a,.sh,d,E,rfl,h1,?_,E8 ha,h2,ne,?_,?_⟩;{rw[M9,MT];exact zC ha}
 .have:=vc (E:=E) (is:=[n]) (by simp[fS,h2]);unfold cS at this;cases e:cG E n with
  |none=>rw[e]at this;cases this
  |some E2=>rw[e]at this;exact this
 refine⟨hs,?_⟩;show Q (E.set i (some (.dp p,.list (((List.range m).map λi=>PyData.list (g i)).set a (.list (g a++[d])))))) .sh .none;rw[Ei];have e:((List.range m).map λk=>if k=a then PyData.list (g a++[d])else .list (g k))=(List.range m).map λk=>PyData.list (if k=a then g k++[d]else g k):=by refine OC λk _=>?_;by_cases c:k=a;{rw[if_pos c,if_pos c,c]};rw[if_neg c,if_neg c]
 rw[e];exact q
abbrev CL(m:Nat)(es:QH):PyData:=.list ((List.range m).map λi=>nD (Gr.cM es i))
def xR:cy:=λds Q x=>∃m es,ds=[wD m es]/\m<=60/\Gr.Good m es/\Q [] (.dp false) (CL m es)
def Ib:∀ds Q x,xR ds Q x->fF (bT [false] Q x) (ini [false] ds++List.replicate 6 none):=by
 rintro _ Q x⟨m,es,rfl,hm,gd,q⟩;unfold fF;rfl';rw[if_pos (by lia)];refine gk rfl (AS (λ_=>PyData.list []) rfl (λa ha I hI=>?_) ?_ (by rw[MT];lia));{rfl';exact⟨by lia,⟨false,rfl⟩,hI _ rfl⟩};rfl';refine pP (λi E=>∃o4 o5:Qc,E=[some (.sh,wD m es),some (.sh,iD m),some (.sh,.tuple (es.map eO)),some (.dp false,CL m (es.take i)),o4,o5,none]/\bR o4=true/\bR o5=true) ⟨none,none,rfl,rfl,rfl⟩ ?_ ?_
 .rintro i⟨a,b⟩_ hi⟨o4,o5,rfl,ho4,ho5⟩;have hab:=gd.lt _ (Ma hi);have hab:a<b/\b<m:=hab;simp![ho4,ho5,AW];have hn:∀k,(Gr.cM (es.take i) k).length<1000:=λk=>by have g2:Gr.Good m (es.take i):=⟨λe he=>gd.lt e (List.mem_of_mem_take he),PN (List.take_sublist _ _) gd.nd⟩;have:=g2.ku k;lia
  refine AL (g:=λk=>(Gr.cM (es.take i) k).map iD) rfl rfl (by lia) (by lia) (by rw[M9];have:=hn a;lia) ?_;simp![ho4,ho5,AW];refine AL (g:=λk=>if k=a then(Gr.cM (es.take i) k).map iD++[iD b]else(Gr.cM (es.take i) k).map iD) rfl rfl (by lia) (by lia) (by rw[if_neg (by lia),M9];have:=hn b;lia) ?_;refine⟨some (.sh,iD a),some (.sh,iD b),?_,rfl,rfl⟩;simp only[List.set_cons_succ,List.set_cons_zero];have e:∀k,(if k=b then(if k=a then(Gr.cM (es.take i) k).map iD++[iD b]else(Gr.cM (es.take i) k).map iD)++[iD a]else if k=a then(Gr.cM (es.take i) k).map iD++[iD b]else(Gr.cM (es.take i) k).map iD)=(Gr.cM (es.take (i+1)) k).map iD:=λk=>by rw[take_snoc hi,Gr.Ec,Mr];unfold Gr.cM;rw[Nf,List.filterMap_nil];unfold Gr.nb;simp only;by_cases c:k=a;{subst c;rw[if_neg (by lia),if_pos rfl,if_pos rfl];rfl};by_cases c2:k=b;{subst c2;rw[if_pos rfl,if_neg c,if_neg (Ne.symm c),if_pos rfl];rfl};rw[if_neg c2,if_neg c,if_neg (Ne.symm c),if_neg (Ne.symm c2)];exact(NI _).symm
  rw[OC λk _=>congrArg PyData.list (e k)]
 rintro _⟨o4,o5,rfl,ho4,ho5⟩;rw[NT];rfl';exact q
def Fv{y:Nat}:nD (l++[y])=.list (l.map iD++[iD y]):=by show PyData.list ((l++[y]).map iD)=_;rw[Mr];rfl
structure lg(m:Nat)(es:QH):Prop where
 pos:1<=m
 le:m<=60
 gd:Gr.Good m es
 cn:Gr.cK m es
def lg.few{m:Nat}(W:lg m es):es.length<=1800:=by have h:=Gr.BO W.gd;have:=Nat.mul_le_mul W.le W.le;lia
def yF:cy:=λds Q x=>∃m es,∃p:Int,ds=[wD m es,.int p]/\(0<=p/\p<m->Q [] .sh .none)/\(¬(0<=p/\p<m)->x "NoPlace" .none)
def Gx:∀ds Q x,yF ds Q x->fL (bT [false,false] Q x) (ini [false,false] ds++List.replicate 0 none):=by rintro _ Q x⟨m,es,p,rfl,q,r⟩;unfold fL;rfl';split;{rename_i h;split;{rename_i h2;exact r λz=>h2 z.2};rename_i h2;exact q ⟨h,Decidable.of_not_not h2⟩};rename_i h;exact r λz=>h z.1
def rising(l:QW):Prop:=l.Pairwise (·<·)
def qe{m:Nat}(h:rising l)(lt:∀x∈l,x<m):l.length<=m:=Gr.fY m l (h.imp λh=>MO h) lt
theorem k8{α:Type}{f:α->PyData}{p:α->Bool}:∀{l:List α},(l.filterMap λt=>if p t=true then some (f t)else none)=(l.filter p).map f
 |[]=>rfl
 |a::l=>by
  rw[Nf,List.filter_cons];cases h:p a with
  |true=>simp only[if_true];rw[k8];rfl
  |false=>simp only[if_neg (MJ)];exact k8
end PB
namespace Gr
abbrev ds(es:QH) (p x:Nat):Nat:=dst (bB es) p x
section
variable{m:Nat}{es:QH}
def cK.is(cn:cK m es){p x:Nat}(hp:p<m)(hx:x<m):lG (bB es) p x (ds es p x):=let⟨_,h⟩:=cn p hp x hx;HP h
def fj{p:Nat}:ds es p p=0:=uI ⟨.zero,λe he=>absurd he (OB e)⟩
def cK.le(cn:cK m es){p x d:Nat}(hp:p<m)(hx:x<m)(h:R (bB es) p d x):ds es p x<=d:=by rcases Mv d (ds es p x)with l|l;{exact absurd h ((cn.is hp hx).2 d l)};exact l
def cK.iN(cn:cK m es){p x y:Nat}(hp:p<m)(hx:x<m)(hy:y<m):ds es p y<=ds es p x+ds es x y:=cn.le hp hy ((cn.is hp hx).1.trans (cn.is hx hy).1)
def cK.sy(cn:cK m es){p x:Nat}(hp:p<m)(hx:x<m):ds es p x=ds es x p:=by have h1:=cn.le hx hp ((cn.is hp hx).1.symm dW);have h2:=cn.le hp hx ((cn.is hx hp).1.symm dW);lia
def cK.zero(cn:cK m es){p x:Nat}(hp:p<m)(hx:x<m)(h:ds es p x=0):x=p:=by have:=(cn.is hp hx).1;rw[h]at this;cases this;rfl
theorem cK.pred(cn:cK m es)(gd:Good m es){p x:Nat}(hp:p<m)(hx:x<m)(h:x≠p):∃y,y<m/\bB es x y/\ds es p y+1=ds es p x:=by
 have hI:=cn.is hp hx;cases e:ds es p x with
 |zero=>exact absurd (cn.zero hp hx e) h
 |succ d=>rw[e]at hI;obtain⟨y,hy,a⟩:=hI.pred;exact⟨y,(gd.gD a).1,dW _ _ a,by rw[show ds es p y=d from uI hy]⟩
structure Tree(m:Nat)(es:QH):Prop where
 gd:Good m es
 cn:cK m es
 len:es.length+1=m
def pV(x y:Nat):Nat×Nat:=(min x y,max x y)
def vU(gd:Good m es){x y:Nat}(h:bB es x y):pV x y∈es:=by
 rcases h with h|h
 .have:=gd.lt _ h;have:x<y/\y<m:=this;have e:pV x y=(x,y):=by unfold pV;rw[OH (by lia),Nat.max_eq_right (by lia)]
  rw[e];exact h
 have:=gd.lt _ h;have:y<x/\x<m:=this;have e:pV x y=(y,x):=by unfold pV;rw[OI (by lia),Nat.max_eq_left (by lia)]
 rw[e];exact h
def sub_len'{α:Type} [DecidableEq α]{l:List α}(nd:l.Nodup):∀{k:List α},(∀x∈l,x∈k)->l.length<=k.length:=by
 induction l with
 |nil=>intro k _;exact Mq _
 |cons a l ih=>intro k h;have ha:=h a M7;have nd':=N4.mp nd;have:=ih nd'.2 (k:=k.erase a) λx hx=>(List.mem_erase_of_ne λe=>nd'.1 (by rw[<-e];exact hx)).mpr (h x (MC _ hx));rw[List.length_erase_of_mem ha]at this;have:=List.length_pos_of_mem ha;rw[MW];lia
def FT{α:Type} [DecidableEq α]{l k:List α}(nd:l.Nodup)(h:∀x∈l,x∈k)(hl:k.length<=l.length):∀x∈k,x∈l:=by intro x hx;by_cases c:x∈l;{exact c};exfalso;have:=sub_len' nd (k:=k.erase x) λy hy=>(List.mem_erase_of_ne λe=>c (by rw[<-e];exact hy)).mpr (h y hy);rw[List.length_erase_of_mem hx]at this;have:=List.length_pos_of_mem hx;lia
open Classical in
def Tree.Hy(T:Tree m es){p:Nat}(hp:p<m):∃par:Nat->Nat,(∀x,x<m->x≠p->par x<m/\bB es x (par x)/\ds es p (par x)+1=ds es p x)/\∀x y,bB es x y->(x≠p/\y=par x)\/(y≠p/\x=par y):=by
 have ch:∀x,∃y,x<m->x≠p->y<m/\bB es x y/\ds es p y+1=ds es p x:=λx=>by by_cases c:x<m/\x≠p;{obtain⟨y,h1,h2,h3⟩:=T.cn.pred T.gd hp c.1 c.2;exact⟨y,λ_ _=>⟨h1,h2,h3⟩⟩};exact⟨0,λh1 h2=>absurd ⟨h1,h2⟩ c⟩
 have⟨par,hpar⟩:∃par:Nat->Nat,∀x,x<m->x≠p->par x<m/\bB es x (par x)/\ds es p (par x)+1=ds es p x:=⟨λx=>Classical.choose (ch x),λx h1 h2=>Classical.choose_spec (ch x) h1 h2⟩;refine⟨par,hpar,λx y h=>?_⟩;have two:∀{a b c d:Nat},pV a b=pV c d->(a=c/\b=d)\/(a=d/\b=c):=λ{a b c d} e=>by have e1:min a b=min c d:=congrArg Prod.fst e;have e2:max a b=max c d:=congrArg Prod.snd e;lia
 have mem:∀z,z∈(List.range m).filter (λx=>decide (x≠p))↔z<m/\z≠p:=λz=>by rw[OL,NH,ND]
 have nd0:((List.range m).filter λx=>decide (x≠p)).Nodup:=PN Q5 NF;have len:es.length<=(((List.range m).filter λx=>decide (x≠p)).map λx=>pV x (par x)).length:=by
  rw[M9];have:=sub_len' (l:=List.range m) NF (k:=p::(List.range m).filter λx=>decide (x≠p)) λx hx=>by by_cases c:x=p;{rw[c];exact M7};exact MC _ ((mem x).mpr ⟨NH.mp hx,c⟩)
  rw[MT,MW]at this;have:=T.len;lia
 have nd:(((List.range m).filter λx=>decide (x≠p)).map λx=>pV x (par x)).Nodup:=by refine List.Pairwise.map _ (R:=λa b=>a≠b/\(a<m/\a≠p)/\(b<m/\b≠p)) (λa b hab e=>?_) (Oa (R:=λa b=>a≠b) (λ{a b} ha hb h=>⟨h,(mem a).mp ha,(mem b).mp hb⟩) nd0);obtain⟨ne,ha,hb⟩:=hab;obtain⟨_,_,h1⟩:=hpar a ha.1 ha.2;obtain⟨_,_,h2⟩:=hpar b hb.1 hb.2;rcases two e with⟨z,_⟩|⟨z1,z2⟩;{exact ne z};rw[z2]at h1;rw[<-z1]at h2;lia
 have inn:=FT nd (λe he=>by
  obtain⟨z,hz,rfl⟩:=MS.mp he;obtain⟨h1,h2⟩:=(mem z).mp hz;exact vU T.gd (hpar z h1 h2).2.1) len
 obtain⟨z,hz,e⟩:=MS.mp (inn _ (vU T.gd h));have hz:=(mem z).mp hz;rcases two e with⟨e1,e2⟩|⟨e1,e2⟩;{subst e1;exact .inl ⟨hz.2,e2.symm⟩};subst e1;exact .inr ⟨hz.2,e2.symm⟩
def Tree.near(T:Tree m es){p x y:Nat}(hp:p<m)(h:bB es x y):ds es p x=ds es p y+1\/ds es p y=ds es p x+1:=by obtain⟨par,h1,h2⟩:=T.Hy hp;obtain⟨hx,hy⟩:=T.gd.gD h;rcases h2 x y h with⟨n,rfl⟩|⟨n,rfl⟩;{exact .inl (h1 x hx n).2.2.symm};exact .inr (h1 y hy n).2.2.symm
def Tree.one(T:Tree m es){p x y z:Nat}(hp:p<m)(h:bB es x y)(g:bB es x z)(hy:ds es p x=ds es p y+1)(hz:ds es p x=ds es p z+1):y=z:=by
 obtain⟨par,h1,h2⟩:=T.Hy hp;obtain⟨hx,hy'⟩:=T.gd.gD h;have hz':=(T.gd.gD g).2;have key:∀w,bB es x w->w<m->ds es p x=ds es p w+1->w=par x:=λw a hw e=>by rcases h2 x w a with⟨_,r⟩|⟨n,r⟩;{exact r};have:=(h1 w hw n).2.2;rw[<-r]at this;lia
 rw[key y h hy' hy,key z g hz' hz]
def dD(es:QH) (p n x:Nat):Prop:=ds es n x+1=ds es p x
def Tree.rB(T:Tree m es){p n x:Nat}(hx:x<m)(h:bB es p n):dD es p n x\/ds es n x=ds es p x+1:=by obtain⟨hp,hn⟩:=T.gd.gD h;have:=T.near hx h;unfold dD;rw[T.cn.sy hn hx,T.cn.sy hp hx];lia
def Tree.HB(T:Tree m es){p n k x:Nat}(hx:x<m)(h:bB es p n)(g:bB es p k)(hn:dD es p n x)(hk:dD es p k x):n=k:=by obtain⟨hp,hn'⟩:=T.gd.gD h;have hk':=(T.gd.gD g).2;unfold dD at hn hk;rw[T.cn.sy hn' hx,T.cn.sy hp hx]at hn;rw[T.cn.sy hk' hx,T.cn.sy hp hx]at hk;exact T.one hx h g (by lia) (by lia)
def Tree.some(T:Tree m es){p x:Nat}(hp:p<m)(hx:x<m)(ne:x≠p):∃n,bB es p n/\dD es p n x:=by obtain⟨n,hn,a,e⟩:=T.cn.pred T.gd hx hp (Ne.symm ne);refine⟨n,a,?_⟩;unfold dD;rw[T.cn.sy hn hx,T.cn.sy hp hx];exact e
def Tree.uQ(T:Tree m es){p n x y:Nat}(hp:p<m)(hn:n<m)(h:bB es p n)(hb:dD es p n x)(a:bB es x y)(ne:y≠p):dD es p n y:=by
 obtain⟨hx,hy⟩:=T.gd.gD a;unfold dD at hb⊢;rcases T.rB hy h with z|z;{exact z};exfalso;have h1:=T.near hp a;have h2:=T.near hn a;have e1:ds es p y+1=ds es p x:=by lia
 have e2:ds es n y=ds es n x+1:=by lia
 by_cases c:x=n;{subst c;rw[fj]at hb;exact ne (T.cn.zero hp hy (by lia))};obtain⟨z,hz,b,e3⟩:=T.cn.pred T.gd hn hx c;have h5:=T.cn.iN hp hn hz;have h6:ds es p n=1:=by have:=T.near hp h;rw[fj]at this;lia
 have h7:=T.near hp b;have:=T.one hp a b (by lia) (by lia);subst this;lia
def Tree.dn(T:Tree m es){p n:Nat}(hp:p<m)(h:bB es p n):ds es p n=1:=by have:=T.near hp h;rw[fj]at this;lia
def Tree.tQ(T:Tree m es){p n x:Nat}(hp:p<m)(hx:x<m)(h:bB es p n)(hb:dD es p n x)(ne:x≠n):∃y,y<m/\bB es y x/\dD es p n y/\ds es p x=ds es p y+1/\ds es n y+1=ds es n x:=by obtain⟨_,hn⟩:=T.gd.gD h;obtain⟨y,hy,a,e⟩:=T.cn.pred T.gd hn hx ne;have h1:=T.cn.iN hp hn hy;have h2:=T.dn hp h;have h3:=T.near hp a;unfold dD at hb⊢;exact⟨y,hy,dW _ _ a,by lia,by lia,e⟩
def nW(T:Tree m es){p n:Nat}(hp:p<m)(h:bB es p n):dD es p n n:=by unfold dD;rw[fj,T.dn hp h]
end
end Gr
namespace Dv
open PySem L2
def FQ{most i:Nat}:tS most i e D (o::E)=(gI (o::E) i=true/\e D.xc (o::E) λE1 k v=>k.fz=true/\CC most E1 i v D.nx):=by unfold tS;congr 1;congr 1;funext E1 k v;congr 1;unfold CC;refine propext ⟨λ⟨p,ds,es,e1,e2,h,q⟩=>by subst e2;rw[e1];exact⟨h,q⟩,λh=>?_⟩;split at h;{rename_i p ds es e1;exact⟨p,ds,es,e1,rfl,h.1,h.2⟩};exact h.elim
def I0{most i:Nat}{p:Bool}(h:E[i]?=some (some (.ow p,.list ds)))(hl:ds.length+es.length<=most)(q:Q (E.set i (some (.ow p,.list (ds++es))))):CC most E i (.list es) Q:=by unfold CC;rw[h];exact⟨hl,q⟩
end Dv
namespace PB
open PySem L2 Dv Gr
def pc(m:Nat)(es:QH) (p n:Nat):QW:=(List.range m).filter λx=>decide (ds es n x+1=ds es p x)
def ua{m p n x:Nat}:x∈pc m es p n↔x<m/\dD es p n x:=by unfold pc;rw[OL,NH,ND];exact Iff.rfl
def xS{m p n:Nat}:rising (pc m es p n):=List.Pairwise.filter _ List.pairwise_lt_range
structure qt(m:Nat)(es:QH) (p n:Nat)(vis:QW)(stk:QH):Prop where
 nd:(vis++stk.map (·.2)).Nodup
 rB:∀x∈vis++stk.map (·.2),x<m/\dD es p n x
 par:∀q∈stk,bB es q.1 q.2/\ds es p q.2=ds es p q.1+1
 cl:∀x∈vis,∀y,bB es x y->ds es p y=ds es p x+1->y∈vis++stk.map (·.2)
 up:∀x∈vis++stk.map (·.2),x≠n->∃y∈vis,bB es y x/\ds es p x=ds es p y+1
 st:n∈vis++stk.map (·.2)
def qt.start{m p n:Nat}(T:Tree m es)(h:bB es p n):qt m es p n [] [(p,n)]:=by
 obtain⟨hp,hn⟩:=T.gd.gD h;have one:∀x,x∈([]:QW)++[(p,n)].map (·.2)↔x=n:=λx=>by simp
 refine⟨by simp,λx hx=>?_,λq hq=>?_,λx hx=>absurd hx NK,λx hx ne=>absurd ((one x).mp hx) ne,(one n).mpr rfl⟩;{rw[(one x).mp hx];exact⟨hn,nW T hp h⟩};rw[MR.mp hq];exact⟨h,by rw[fj,T.dn hp h]⟩
def qt.step{m p n l h:Nat}{es:QH}{vis:QW}{stk:QH}(T:Tree m es)(hpn:bB es p n)(D:qt m es p n vis (stk++[(l,h)])):qt m es p n (vis++[h]) (stk++((cM es h).filter λy=>decide (y≠l)).map λy=>(h,y)):=by
 obtain⟨hp,hn⟩:=T.gd.gD hpn;have old:∀x,x∈vis++(stk++[(l,h)]).map (·.2)↔x∈vis\/x∈stk.map (·.2)\/x=h:=λx=>by
  rw[MF,Mr,MF];simp
 have hh:=D.rB h ((old h).mpr (.inr (.inr rfl)));have⟨alh,elh⟩:=D.par (l,h) (MF.mpr (.inr M7));have alh:bB es l h:=alh;have elh:ds es p h=ds es p l+1:=elh;have kid:∀y,bB es h y->(y≠l↔ds es p y=ds es p h+1):=λy a=>by
  constructor
  .intro ne;rcases T.near hp a with z|z
   .exact absurd (T.one hp a (dW _ _ alh) z (by lia)) ne
   .exact z
  .rintro e rfl;lia
 have newm:∀y,y∈(((cM es h).filter λy=>decide (y≠l)).map λy=>(h,y)).map (·.2)↔bB es h y/\ds es p y=ds es p h+1:=λy=>by
  rw[Mu];have:((λx:Nat×Nat=>x.2)∘λy=>(h,y))=id:=rfl
  rw[this,List.map_id,OL,ND,mV];exact⟨λ⟨a,b⟩=>⟨a,(kid y a).mp b⟩,λ⟨a,b⟩=>⟨a,(kid y a).mpr b⟩⟩
 have ndo:=D.nd;rw[Mr,<-Mc]at ndo;have hnot:h∉vis++stk.map (·.2):=λz=>(PR.mp ndo).2.2 h z h (by simp) rfl
 have nvis:h∉vis:=λz=>hnot (MF.mpr (.inl z))
 have newn:∀y,bB es h y->ds es p y=ds es p h+1->y∉vis++(stk++[(l,h)]).map (·.2):=λy a e z=>by
  have yn:y≠n:=λq=>by
   have h1:=T.dn hp hpn;have h2:=hh.2;unfold dD at h2;rw[q]at e;lia
  obtain⟨w,hw,b,e2⟩:=D.up y z yn;have:=T.one hp (dW _ _ a) (dW _ _ b) e e2;exact nvis (this▸hw)
 have nw:∀x,x∈(vis++[h])++(stk++((cM es h).filter λy=>decide (y≠l)).map λy=>(h,y)).map (·.2)↔(x∈vis\/x∈stk.map (·.2)\/x=h)\/(bB es h x/\ds es p x=ds es p h+1):=λx=>by
  rw[MF,Mr,MF,MF,newm,MR];constructor
  .rintro ((a|a)|a|a)
   .exact .inl (.inl a)
   .exact .inl (.inr (.inr a))
   .exact .inl (.inr (.inl a))
   .exact .inr a
  .rintro ((a|a|a)|a)
   .exact .inl (.inl a)
   .exact .inr (.inl a)
   .exact .inl (.inr a)
   .exact .inr (.inr a)
 refine⟨?_,λx hx=>?_,λq hq=>?_,λx hx y a e=>?_,λx hx ne=>?_,?_⟩
 ·-- none twice
  rw[Mr,<-Mc,PR];refine⟨?_,?_,λa ha b hb e=>?_⟩
  .rw[Mc];refine List.Perm.nodup_iff (NL vis NX) |>.mpr ?_;rw[<-Mc];exact ndo
  .rw[Mu];have:((λx:Nat×Nat=>x.2)∘λy=>(h,y))=id:=rfl
   rw[this,List.map_id];exact PN Q5 (T.gd.rR h)
  .subst e;have hb:=(newm a).mp hb;refine newn a hb.1 hb.2 ((old a).mpr ?_);rcases MF.mp ha with z|z
   .rcases MF.mp z with z|z
    .exact .inl z
    .exact .inr (.inr (MR.mp z))
   .exact .inr (.inl z)
 .rcases(nw x).mp hx with z|⟨a,e⟩
  .exact D.rB x ((old x).mpr z)
  .exact⟨(T.gd.gD a).2,T.uQ hp hn hpn hh.2 a λq=>by rw[q,fj]at e;lia⟩
 .rcases MF.mp hq with z|z
  .exact D.par q (MF.mpr (.inl z))
  .obtain⟨y,hy,rfl⟩:=MS.mp z;have:=(newm y).mp (MS.mpr ⟨_,z,rfl⟩);exact this
 .rw[nw];rcases MF.mp hx with z|z
  .exact .inl ((old y).mp (D.cl x z y a e))
  .rw[MR.mp z]at a e;exact .inr ⟨a,e⟩
 .rcases(nw x).mp hx with z|⟨a,e⟩
  .obtain⟨y,hy,b,e⟩:=D.up x ((old x).mpr z) ne;exact⟨y,MF.mpr (.inl hy),b,e⟩
  .exact⟨h,MF.mpr (.inr M7),a,e⟩
 .rw[nw];exact .inl ((old n).mp D.st)
def qt.done{m p n:Nat}(T:Tree m es)(h:bB es p n)(D:qt m es p n vis []):vis.Perm (pc m es p n):=by
 obtain⟨hp,hn⟩:=T.gd.gD h;have e:vis++([]:QH).map (·.2)=vis:=NI _;have all:∀(k x:Nat),x<m->dD es p n x->ds es n x=k->x∈vis:=by
  intro k;induction k with
  |zero=>intro x hx hb e0;have:=T.cn.zero hn hx e0;subst this;have:=D.st;rw[e]at this;exact this
  |succ k ih=>
   intro x hx hb e1;obtain⟨y,hy,a,by',e2,e3⟩:=T.tQ hp hx h hb λq=>by rw[q,fj]at e1;lia
   have:=D.cl y (ih y hy by' (by lia)) x a e2;rw[e]at this;exact this
 have nd:=D.nd;rw[e]at nd;have nd2:(pc m es p n).Nodup:=PN Q5 NF;refine(List.perm_ext_iff_of_nodup nd nd2).mpr λx=>?_;rw[ua];constructor;{intro hx;have:=D.rB x (by rw[e];exact hx);exact this};rintro⟨hx,hb⟩;exact all _ x hx hb rfl
theorem l0:∀{l k:QW},l.Perm k->l.Pairwise (·<=·)->k.Pairwise (·<=·)->l=k
 |[],k,p,_,_=>(List.Perm.nil_eq p)
 |a::l,[],p,_,_=>by have:=p.length_eq;simp at this
 |a::l,b::k,p,h1,h2=>by
  have ha:a∈b::k:=p.mem_iff.mp M7;have hb:b∈a::l:=p.mem_iff.mpr M7;have e:a=b:=by
   have l1:b<=a:=by rcases MH.mp ha with z|z;{lia};exact(PU.mp h2).1 a z
   have l2:a<=b:=by rcases MH.mp hb with z|z;{lia};exact(PU.mp h1).1 b z
   lia
  subst e;rw[l0 (List.perm_cons a |>.mp p) (PU.mp h1).2 (PU.mp h2).2]
def AJ(h:rising l):l.Pairwise (·<=·):=h.imp λh=>Nt h
def xW:cy:=λdd Q x=>∃m es p n,dd=[CL m es,iD p,iD n]/\m<=60/\Tree m es/\bB es p n/\Q [] (.ow false) (nD (pc m es p n))
def HA:∀dd Q x,xW dd Q x->gX (bT [false,false,false] Q x) (ini [false,false,false] dd++List.replicate 5 none):=by
 rintro _ Q x⟨m,es,p,n,rfl,hm,T,hpn,q⟩;unfold gX;rfl';refine⟨by lia,by lia,by lia,?_⟩;refine⟨λk E=>∃(vis:QW)(stk:QH)(o5 o6:Qc),E=[some (.sh,CL m es),some (.sh,iD p),some (.sh,iD n),some (.ow false,nD vis),some (.ow false,.list (stk.map eO)),o5,o6,none]/\bR o5=true/\bR o6=true/\k=m-vis.length/\qt m es p n vis stk,⟨m,[],[(p,n)],none,none,rfl,rfl,rfl,rfl,qt.start T hpn⟩,?_⟩;rintro k _⟨vis,stk,o5,o6,rfl,h5,h6,rfl,D⟩;simp![List.isEmpty_map];rcases List.eq_nil_or_concat stk with rfl|⟨stk,⟨l,h⟩,rfl⟩
 .simp![List.isEmpty_nil];have pm:=D.done T hpn;have hl:vis.length<=m:=by rw[pm.length_eq];exact qe xS λx hx=>(ua.mp hx).1
  refine v8 (by lia) λms p1 s1=>?_;rw[l0 (p1.trans pm) s1 (AJ xS)];rfl';exact q
 have ne:(stk++[(l,h)]).isEmpty=false:=by simp
 rw[List.concat_eq_append]at D⊢;have e1:(List.map eO (stk++[(l,h)]))[(stk++[(l,h)]).length-1]?=some (eO (l,h)):=by rw[Mr,MV];show(stk.map eO++[eO (l,h)])[stk.length+1-1]?=_;rw[Nat.add_sub_cancel,NJ (by rw[M9];exact M5 _),M9,Nat.sub_self];rfl
 have e2:(List.map eO (stk++[(l,h)])).dropLast=stk.map eO:=by rw[Mr];exact List.dropLast_concat
 have hhm:h<m/\dD es p n h:=D.rB h (by simp);have D2:=D.step T hpn;have hv:(vis++[h]).length<=m:=Gr.fY m _ (PR.mp D2.nd).1 λx hx=>(D2.rB x (MF.mpr (.inl hx))).1;rw[MV]at hv;have hv:vis.length+1<=m:=hv;simp![ne,e1,e2,h5,h6,FQ,NN hhm.1];refine⟨by lia,?_⟩;have hst:stk.length+((cM es h).filter λy=>decide (y≠l)).length<=m:=by have:=Gr.fY m _ (PR.mp D2.nd).2.1 λx hx=>(D2.rB x (MF.mpr (.inr hx))).1;rw[M9,MV,M9]at this;exact this
 refine uX (λy=>if decide (y≠l)=true then some (eO (h,y))else none) rfl (λy hy I hI=>?_) ?_ (by have:=T.gd.ku h;lia);{simp only[dv,dw,dx,dy,dz,Nat.reduceBEq]at hI⊢;split;{rename_i c;rw[if_pos c]at hI;exact⟨by lia,hI _ rfl⟩};rename_i c;rw[if_neg c]at hI;exact hI _ rfl};rw[k8];refine⟨rfl,I0 rfl (by rw[M9,M9];lia) ⟨m-(vis++[h]).length,by rw[MV];show m-(vis.length+1)<_;lia,vis++[h],_,some (.sh,iD l),some (.sh,iD h),?_,rfl,rfl,rfl,D2⟩⟩;rw[Fv,Mr,Mu];rfl
def qQ:cy:=λdd Q x=>∃m es,dd=[wD m es]/\1<=m/\Q [] .sh (.bool (decide (es.length+1=m)))
def HX:∀dd Q x,qQ dd Q x->mK (bT [false] Q x) (ini [false] dd++List.replicate 2 none):=by
 rintro _ Q x⟨m,es,rfl,hm,q⟩;unfold mK;rfl';have e:decide ((es.length:Int)=(m:Int)-1)=decide (es.length+1=m):=by by_cases c:es.length+1=m;{rw[Nn c,Nn (by lia)]};rw[Ms c,Ms (by lia)]
 rw[e];exact q
def xK:cy:=λdd Q x=>∃m es,dd=[wD m es]/\1<=m/\(es.length+1=m->Q [] .sh .none)/\(es.length+1≠m->x "NoTree" .none)
def GH:∀dd Q x,xK dd Q x->fQ qQ (bT [false] Q x) (ini [false] dd++List.replicate 0 none):=by rintro _ Q x⟨m,es,rfl,hm,q,r⟩;unfold fQ;rfl';refine⟨m,es,rfl,hm,?_⟩;rfl';split;{rename_i h;exact r h};rename_i h;exact q (Decidable.of_not_not h)
section
variable{m:Nat}{es:QH}{ls:QW}
def jG{l:QW}{k:Nat}(h:k<l.length):l[k]?=some (l.getD k 0):=by rw[MP h,N6,MP h];rfl
end
end PB
namespace Dv
open PySem L2
def xP{α:Type}{l:List α}{enc:α->PyData}{tg:Tg}{b:DS}{D:eB}{E1:En}(I:Nat->En->Prop)(h0:I 0 E1)(hs:∀(J:Qh) i a E,l[i]?=some a->(∀E',I (i+1) E'->J E')->I i E->∃E2,bW tg (enc a) E=some E2/\b { D with nx:=J } E2)(he:∀E,I l.length E->D.nx E):vI (l.map enc) tg b D E1:=pP I h0 (λi a E ha hi=>hs (I (i+1)) i a E ha (λ_ h=>h) hi) he
def yr{n:Nat}{enc:Nat->PyData}{tg:Tg}{b:DS}{D:eB}{E1:En}(I:Nat->En->Prop)(h0:I 0 E1)(hs:∀(J:Qh) i E,i<n->(∀E',I (i+1) E'->J E')->I i E->∃E2,bW tg (enc i) E=some E2/\b { D with nx:=J } E2)(he:∀E,I n E->D.nx E):vI ((List.range n).map enc) tg b D E1:=GK I h0 (λi E ha hi=>hs (I (i+1)) i E ha (λ_ h=>h) hi) he
def GU{a b:DS}{D:eB}{E:En}(J0:Qh)(h1:∀J:Qh,(∀E',J0 E'->J E')->a { D with nx:=J } E)(h2:∀B:Qh,(∀E',B E'=b D E')->∀E',J0 E'->B E'):qW a b D E:=⟨J0,h1 J0 λ_ h=>h,λE' h=>h2 (b D) (λ_=>rfl) E' h⟩
end Dv
namespace PB
open PySem L2 Dv
def fR:DS:=aC (bu 2 (aa lB [.ev (aa (nS false true) [.pk 0,.pk 1])])) (aC (gW (w4 (aa (nS true true) [.pk 0,.pk 1,.ev (dC (.int 63))])) (.tp [3,4]) (jS 2 (aa iH [.pk 3,.pk 1]) (aa fE [.ev (aa iJ [.ev (aa bf [.pk 2,.ev (aa iH [.pk 3,.pk 1])]),.ev (dC (.int 31))]),.pk 4]))) (kR 2))
def gi:DS:=aC (bu 2 (dC (.int 0))) (qW (c7 (cF (aa CW [.ev (aa gc [.pk 0]),.ev (dC (.int 0))])) (bu 2 (aa fE [.ev (aa bf [.pk 0,.ev (aa iH [.pk 1,.ev (aa gc [.pk 0])])]),.ev (aa qX [.pk 1,.ev (aa gc [.pk 0])])])) (er)) (aC (bu 3 (dC (.int 0))) (qW (c7 (cF (rT (aa CM [.pk 2,.ev (dC (.int 0))]) (aa IL [.pk 2,.ev (aa uB [.ev (dC (.int 10)),.ev (dC (.int 18))])]))) (bu 3 (aa u5 [.pk 2])) (er)) (cH (aa dR [.pk 3,.ev (aa iH [.ev (aa fE [.ev (aa iJ [.ev (aa iH [.pk 2,.ev (dC (.int 2147483629))]),.ev (dC (.int 69621))]),.ev (aa iJ [.ev (aa iJ [.ev (dC (.int 40009)),.ev (aa fE [.pk 1,.ev (dC (.int 1))])]),.ev (aa fE [.pk 1,.ev (dC (.int 3))])])]),.ev (dC (.int 2147483629))])])))))
def gj:DS:=aC (c7 (cF (aa CW [.ev (aa bf [.pk 0,.ev (dC (.int 0))]),.ev (dC (.int 0))])) (aC (bu 2 (aa iH [.ev (aa bf [.pk 0,.ev (dC (.int 0))]),.pk 1])) (aC (jS 0 (dC (.int 0)) (aa qX [.ev (aa bf [.pk 0,.ev (dC (.int 0))]),.pk 1])) (kR 2))) (er)) (aC (jS 0 (dC (.int 1)) (aa iH [.ev (aa fE [.ev (aa iJ [.ev (aa bf [.pk 0,.ev (dC (.int 1))]),.ev (dC (.int 48271))]),.ev (dC (.int 12820163))]),.ev (dC (.int 2147483647))])) (cH (aa iH [.ev (aa qX [.ev (aa iH [.ev (aa iJ [.ev (aa iH [.ev (aa iJ [.ev (aa bf [.pk 0,.ev (dC (.int 1))]),.ev (aa bf [.pk 0,.ev (dC (.int 1))])]),.ev (dC (.int 2147483629))]),.ev (dC (.int 69621))]),.ev (dC (.int 2147483587))]),.ev (dC (.int 8))]),.pk 1])))
def gn(Qt:cy):DS:=aC (bu 3 (aa lB [.pk 1])) (cH (cW [4] (lJ nU [.pk 2]) (.nm 4) (gR) (dg sizeLine (uo qE 3 [aU Qt [true,false] [.pk 0,.ev (aa gc [.pk 3])]]))))
def fU(Qs:cy):DS:=aC (bu 3 (aU Qs [true,false,false] [.pk 0,.ev (aa gu [.pk 1]),.pk 1])) (cH (aa eN [.pk 1,.ev (aa jt [.ev (aa pY [.ev (cW [4,5] (iE (eg 2)) (.tp [4,5]) (gR) (dg sizeLine (aa eN [.ev (aa pU [.ev (aa bf [.pk 3,.pk 4]),.ev (aa bf [.pk 3,.pk 5])]),.ev (aa pR [.ev (aa bf [.pk 3,.pk 4]),.ev (aa bf [.pk 3,.pk 5])])])))])])]))
def gz(Qt Qm:cy):DS:=aC (bu 2 (aa fE [.ev (dC (.int 1)),.ev (aU Qt [true,false] [.pk 0,.pk 1])])) (aC (bu 3 (aU Qt [true,false] [.pk 0,.ev (dC (.int 6))])) (aC (bu 4 (aa dR [])) (aC (gW (lJ yT [.ev (dC (.int 1)),.pk 2]) (.nm 5) (aC (bu 6 (aa dR [.ev (aa i8 [.pk 5,.ev (dC (.int 1))]),.ev (dC (.int 0)),.ev (aU Qt [true,false] [.pk 0,.pk 5]),.ev (aa pR [.ev (dC (.int 0)),.ev (aa i8 [.ev (aa i8 [.pk 5,.ev (dC (.int 1))]),.ev (aU Qt [true,false] [.pk 0,.ev (dC (.int 3))])])]),.ev (aU Qt [true,false] [.pk 0,.ev (aa pU [.pk 5,.ev (dC (.int 3))])])])) (iV (uo fX 4 [aa eN [.ev (aa bf [.ev (aa fE [.pk 6,.ev (aa dR [.ev (aa qX [.ev (aa i8 [.pk 5,.ev (dC (.int 1))]),.ev (dC (.int 2))])])]),.pk 3]),.pk 5]])))) (cH (aU Qm [true,false,false] [.pk 0,.pk 2,.pk 4])))))
def fD(Qs:cy):DS:=aC (gW (iE (aU Qs [true,false,false] [.pk 0,.ev (aa gu [.ev (aa bf [.pk 1,.ev (dC (.int 0))])]),.ev (aa bf [.pk 1,.ev (dC (.int 0))])])) (.nm 2) (gW (lJ nU [.ev (aa bf [.pk 1,.ev (dC (.int 0))])]) (.nm 3) (c7 (cF (nY (aa CM [.pk 2,.pk 3]) (aa (jX true) [.ev (aa eN [.pk 2,.pk 3]),.ev (aa bf [.pk 1,.ev (dC (.int 1))])]))) (cH (aa eN [.ev (aa bf [.pk 1,.ev (dC (.int 0))]),.ev (aa jt [.ev (aa qy [.ev (aa fE [.ev (aa bf [.pk 1,.ev (dC (.int 1))]),.ev (aa eN [.ev (aa eN [.pk 2,.pk 3])])])])])])) (er)))) (cH (dC .none))
def gy(Qq Qt:cy):DS:=aC (bu 2 (aU Qq [true,false] [.pk 0,.pk 1])) (aC (gW (lJ nU [.ev (aa bf [.ev (aa dR [.ev (dC (.int 0)),.ev (dC (.int 0)),.ev (dC (.int 1)),.ev (dC (.int 5)),.ev (dC (.int 40))]),.ev (aU Qt [true,false] [.pk 0,.ev (dC (.int 5))])])]) (.nm 3) (aC (bu 4 (dC .none)) (qW (c7 (cF (aa (dQ true) [.pk 2,.ev (dC .none)])) (bu 4 (aU Qq [true,false] [.pk 0,.pk 2])) (er)) (c7 (cF (aa (dQ true) [.pk 4,.ev (dC .none)])) (bu 2 (eg 4)) (er))))) (kR 2))
def fG:DS:=aC (bu 2 (aa gu [.ev (aa bf [.pk 0,.ev (dC (.int 0))])])) (aC (gW (iE (aa bf [.pk 0,.ev (dC (.int 1))])) (.tp [3,4]) (c7 (cF (aa (jX true) [.pk 1,.ev (aa eN [.pk 3,.pk 4])])) (aC (bu 5 (aa bf [.pk 2,.pk 4])) (bu 2 (cW [7] (iE (eg 2)) (.nm 7) (gR) (dg sizeLine (Ab (cF (aa l7 [.pk 7,.pk 5])) (aa bf [.pk 2,.pk 3]) (eg 7)))))) (er))) (aC (bu 6 (aa lQ [.ev (cW [7,8] (iE (aa bf [.pk 0,.ev (dC (.int 1))])) (.tp [7,8]) (cF (aa (jX false) [.pk 1,.ev (aa eN [.pk 7,.pk 8])])) (dg sizeLine (aa i8 [.ev (aa fE [.pk 7,.pk 8]),.pk 1])))])) (cH (cW [7] (iE (eg 6)) (.nm 7) (gR) (dg sizeLine (cW [8] (lJ nU [.ev (aa bf [.pk 0,.ev (dC (.int 0))])]) (.nm 8) (cF (aa l7 [.ev (aa bf [.pk 2,.pk 8]),.ev (aa bf [.pk 2,.pk 7])])) (dg sizeLine (eg 8))))))))
def cT(Qx:cy):DS:=aC (bu 2 (dC .none)) (aC (BS ["NoPlace","NoTree"] "HailError" (C7 Qx [.pk 0,.pk 1] none) 3 (bu 2 (eg 3))) (aC (bu 4 (aa dR [.ev (aa (jc ["NoPlace","NoTree"] ["NoPlace"]) [.pk 2]),.ev (aa (jc ["NoPlace","NoTree"] ["NoTree"]) [.pk 2])])) (aC (c7 (cF (rT (aa (jc ["NoPlace","NoTree"] ["NoLooks","NoSuch","NoThing","NotOne"]) [.pk 2]) (rT (qL (aa (jc ["NoPlace","NoTree"] ["ValueError"]) [.pk 2])) (aa lI [.ev (aa pI [.pk 4]),.ev (dC (.int 1))])))) (cH (dC .none)) (er)) (cH (xE 4 true)))))
def kN(Qk Qo Qu Qt Qj Qs Qn Qx Qp Ql:cy):DS:=aC (bu 1 (aU Qk [false,false] [.pk 0,.ev (dC (.int 6))])) (aC (gW (lJ nU [.ev (aa pR [.ev (dC (.int 1)),.ev (aa gc [.pk 1])])]) (.nm 2) (aC (bu 3 (aU Qo [false,false] [.pk 1,.pk 2])) (aC (bu 4 (aU Qu [true,false] [.pk 3,.ev (aa bf [.ev (aa dR [.ev (dC (.int 24)),.ev (dC (.int 60))]),.ev (aa kq [.ev (aa l7 [.ev (aU Qt [true,false] [.pk 3,.ev (dC (.int 8))]),.ev (dC (.int 0))])])])])) (aC (c7 (cF (aa yq [.ev (aU Qj [false] [.pk 4]),.ev (dC (.bool true))])) (cH (dC (.bool false))) (er)) (aC (gW (iE (aU Qs [true,false,false] [.pk 3,.ev (aa gu [.ev (aa bf [.pk 4,.ev (dC (.int 0))])]),.ev (aa pU [.ev (aa bf [.pk 4,.ev (dC (.int 0))]),.ev (dC (.int 12))])])) (.nm 5) (aC (bu 6 (aU Qn [false,false] [.pk 4,.pk 5])) (aC (bu 7 (aU Qx [false,false] [.pk 4,.pk 5])) (aC (c7 (cF (rT (qL (aa (Ae "list") [.pk 7])) (aa lI [.pk 7,.pk 6]))) (cH (dC (.bool false))) (er)) (aC (CK 7 8 61) (aC (Dm 7 (aa dR [])) (c7 (cF (aa lI [.ev (aU Qx [false,false] [.pk 4,.pk 5]),.pk 6])) (cH (dC (.bool false))) (er)))))))) (aC (bu 9 (aa dR [.ev (aa oQ [.ev (dC (.int 1))]),.ev (aa bf [.pk 4,.ev (dC (.int 0))]),.ev (aa fE [.ev (aa bf [.pk 4,.ev (dC (.int 0))]),.ev (aU Qt [true,false] [.pk 3,.ev (aa uB [.ev (dC (.int 10)),.ev (dC (.int 9))])])]),.ev (aa i8 [.ev (aa oQ [.ev (dC (.int 1))]),.ev (aU Qt [true,false] [.pk 3,.ev (aa uB [.ev (dC (.int 10)),.ev (dC (.int 9))])])])])) (aC (c7 (cF (aa lI [.ev (cW [11] (iE (eg 9)) (.nm 11) (gR) (dg sizeLine (aU Qp [false,false] [.pk 4,.pk 11]))),.ev (aa dR [.ev (dC (.int 0)),.ev (dC (.int 0)),.ev (dC (.int 0)),.ev (dC (.int 0))])])) (cH (dC (.bool false))) (er)) (aC (bu 10 (aU Ql [true,false] [.pk 3,.pk 4])) (aC (c7 (cF (nY (aa (dQ true) [.pk 10,.ev (dC .none)]) (aa yq [.ev (aU Qj [false] [.pk 10]),.ev (dC (.bool false))]))) (cH (dC (.bool false))) (er)) (c7 (cF (nY (aa (dQ true) [.pk 10,.ev (dC .none)]) (aa lI [.ev (cW [11] (iE (aa dR [.ev (dC (.int 0)),.ev (aa oQ [.ev (dC (.int 1))]),.ev (aa bf [.pk 4,.ev (dC (.int 0))])])) (.nm 11) (gR) (dg sizeLine (aU Qp [false,false] [.pk 10,.pk 11]))),.ev (aa dR [.ev (dC (.int 1)),.ev (dC (.int 1)),.ev (dC (.int 1))])]))) (cH (dC (.bool false))) (er))))))))))) (cH (dC (.bool true))))
abbrev eE(a b:Int):PyData:=.list [.int a,.int b]
def gY:cy:=λds Q x=>∃(a b:Int) (m:Nat),ds=[eE a b,iD m]/\0<m/\m<2^200/\0<=b/\b<2147483647/\∀(r:Nat) a' b',r<m->0<=b'->b'<2147483647->Q [eE a' b'] .sh (iD r)
def DQ:∀ds Q x,gY ds Q x->gj (bT [true,false] Q x) (ini [true,false] ds++List.replicate 1 none):=by
 rintro _ Q x⟨a,b,m,rfl,h1,h2,h3,h4,q⟩;unfold gj;try bv_omega
 try simp only[dv,dw,dx]
 have hm:(0:Int)<m:=by lia
 have r0:∀z:Int,∃r:Nat,r<m/\z%(m:Int)=(r:Int):=λz=>by have e1:=Oe z (by lia:(m:Int)≠0);have e2:=Of z hm;exact⟨(z%m).toNat,by lia,by lia⟩
 split
 .obtain⟨r,hr,e⟩:=r0 a;refine⟨hm,⟨hm,?_⟩,?_⟩
  .have:(m:Int)<((2^200:Nat):Int):=Nr.mpr h2;have:((2^200:Nat):Int)<115792089237316195423570985008687907853269984665640564039457584007913129639936:=by decide
   lia
  rw[e];exact q r _ _ hr h3 h4
 have c1:0<=(b*48271+12820163)%2147483647:=Oe _ (by decide);have c2:(b*48271+12820163)%2147483647<2147483647:=Of _ (by decide);generalize (b*48271+12820163)%2147483647=y at *;have c3:0<=y*y%2147483629:=Oe _ (by decide);have c4:y*y%2147483629<2147483629:=Of _ (by decide);refine⟨.inr (by clear q r0 c3 c4;lia),by decide,.inl (by clear q r0 c3 c4;lia),by decide,.inr (by clear q r0 c1 c2;lia),by decide,⟨by decide,by decide⟩,hm,?_⟩;obtain⟨r,hr,e⟩:=r0 (y*y%2147483629*69621%2147483587/8);rw[e];exact q r _ _ hr c1 c2
def sJ:cy:=λds Q x=>∃(cs:QX) (k:Nat),ds=[.list (cs.map .int),iD k]/\cs.length<=10/\k<=10/\∀a b:Int,0<=b->b<2147483647->Q [] (.ow false) (eE a b)
def EG:∀ds Q x,sJ ds Q x->gi (bT [false,false] Q x) (ini [false,false] ds++List.replicate 2 none):=by
 rintro _ Q x⟨cs,k,rfl,h1,h2,q⟩;unfold gi;try bv_omega
 try simp only[dv,dw,dx]
 refine⟨λE=>∃cell:Int,E=[some (.sh,.list (cs.map .int)),some (.sh,iD k),some (.sh,.int cell),none],?_,?_⟩
 .try bv_omega
  try simp only[dv,dw,dx]
  split
  .rename_i h;rw[M9]at h⊢;have hl:0<cs.length:=by lia
   refine⟨h,?_⟩;rw[<-Int.natCast_emod,mJ,MP (Nat.mod_lt _ hl)];exact⟨⟨h,by lia⟩,_,rfl⟩
  exact⟨0,rfl⟩
 rintro _⟨cell,rfl⟩;try bv_omega
 try simp only[dv,dw,dx]
 refine Ez ?_;try bv_omega
 try simp only[dv,dw,dx]
 have e1:=Oe cell (by decide:(2147483629:Int)≠0);have e2:=Of cell (by decide:(0:Int)<2147483629);have a1:iC (cell%2147483629) 69621:=.inr (by clear q;lia);clear e1 e2;have a2:iC 40009 ((k:Int)+1):=.inl (by clear q a1;lia);have a3:iC (40009*((k:Int)+1)) ((k:Int)+3):=.inr (by clear q a1 a2;lia);have e3:=Oe (cell%2147483629*69621+40009*((k:Int)+1)*(k+3)) (by decide:(2147483629:Int)≠0);have e4:=Of (cell%2147483629*69621+40009*((k:Int)+1)*(k+3)) (by decide:(0:Int)<2147483629);have fin:∀z:Int,0<(2147483629:Int)/\iC (cell%2147483629) 69621/\iC 40009 ((k:Int)+1)/\iC (40009*((k:Int)+1)) ((k:Int)+3)/\0<(2147483629:Int)/\0+1+1<=16777216/\Q [] (Kd.ow false) (PyData.list [PyData.int z,PyData.int ((cell%2147483629*69621+40009*((k:Int)+1)*((k:Int)+3))%2147483629)]):=λz=>⟨by decide,a1,a2,a3,by decide,by decide,q _ _ e3 (Int.lt_trans e4 (by decide))⟩;split;{exact fin _};refine⟨⟨by decide,by decide,by decide⟩,?_⟩;split;{exact fin _};exact fin _
def pZ:cy:=λds Q x=>∃(ns:QX) (m:Nat),ds=[.list (ns.map .int),iD m]/\0<m/\m<=10/\∀cs:QX,cs.length<=m->Q [] (.ow false) (.list (cs.map .int))
def A9:∀ds Q x,pZ ds Q x->fR (bT [false,false] Q x) (ini [false,false] ds++List.replicate 3 none):=by
 rintro _ Q x⟨ns,m,rfl,h0,h1,q⟩;unfold fR;try bv_omega
 try simp only[dv,dw,dx,dy,tN,M9,show(63:Int)=((63:Nat):Int)from rfl,tG,nX]
 have hm:(0:Int)<m:=by lia
 refine pP (λi E=>∃(cs:QX)(a b:Qc),E=[some (.sh,.list (ns.map .int)),some (.sh,iD m),some (.ow false,.list (cs.map .int)),a,b]/\bR a=true/\bR b=true/\cs.length=min m ns.length) ?_ ?_ ?_;{exact⟨ns.take m,none,none,rfl,rfl,rfl,Mz⟩}
 .rintro i⟨d,k⟩E hi⟨cs,a,b,rfl,ha,hb,hl⟩;have hi:=dM hi;rw[List.length_zipIdx,Nv,Mz]at hi;have hk:k%m<cs.length:=by have:=Nat.mod_lt k h0;lia
  try bv_omega
  try simp only[dv,dw,dx,ha,hb,dz]
  refine⟨h0,gk (MP hk) ⟨.inr (by lia),h0,Ew hk ⟨cs.set (k%m) (cs[k%m]*31+d),some (.sh,iD k),some (.sh,.int d),by rw[List.map_set],rfl,rfl,by rw[MY];exact hl⟩⟩⟩
 rintro _⟨cs,a,b,rfl,ha,hb,hl⟩;try bv_omega
 try simp only[dv,dw,dx]
 exact q cs (by lia)
def jB:cy:=λds Q x=>∃(a b:Int)(ns:QW) (k:Nat),ds=[eE a b,nD ns,iD k]/\k<=ns.length/\ns.length<=1000/\0<=b/\b<2147483647/\∀(ms rest:QW) a' b',ms.length=k->(ms++rest).Perm ns->0<=b'->b'<2147483647->Q [eE a' b'] (.ow false) (nD ms)
theorem qm:∀(rs:QW){j:Nat}(h:j<rs.length),([rs[j]]++rs.eraseIdx j).Perm rs
 |[],_,h=>by cases h
 |r::rs,0,_=>by rw[List.eraseIdx_cons_zero];exact List.Perm.refl _
 |r::rs,j+1,h=>by rw[Ou];have ih:=qm rs (j:=j) (by rw[MW]at h;lia);exact(OX _ _ _).trans (ih.cons _)
theorem rC{f:Nat->PyData}:∀{rs:QW}{j:Nat},(rs.map f).eraseIdx j=(rs.eraseIdx j).map f
 |[],_=>rfl
 |r::rs,0=>rfl
 |r::rs,j+1=>by rw[Mb,Ou,Ou,Mb,rC]
def D8{r n:Nat}(h:r<n):seqIndex? (r:Int) n=some r:=by unfold seqIndex?;simp;lia
def DY:∀ds Q x,jB ds Q x->gn gY (bT [true,false,false] Q x) (ini [true,false,false] ds++List.replicate 2 none):=by
 rintro _ Q x⟨a,b,ns,k,rfl,h0,h1,h2,h3,q⟩;unfold gn;rfl';rw[if_pos (by lia)];refine gk rfl ?_;refine Jv _ (λi ys E=>∃(a b:Int)(ms rest:QW)(o:Qc),ys=ms.map iD/\E=[some (.ow true,eE a b),some (.sh,nD ns),some (.sh,iD k),some (.ow false,nD rest),o]/\bR o=true/\ms.length=i/\(ms++rest).Perm ns/\0<=b/\b<2147483647) rfl ⟨a,b,[],ns,_,rfl,rfl,rfl,rfl,List.Perm.refl _,h2,h3⟩ ?_ ?_
 .rintro i j ys E hi⟨a,b,ms,rest,o,rfl,rfl,ho,hm,hp,h2,h3⟩;have hi:=dM hi;rw[MT]at hi;have hl:=hp.length_eq;rw[MV]at hl;have hr:0<rest.length:=by lia
  try bv_omega
  try simp only[dv,dw,dx,ho,dz]
  refine⟨a,b,rest.length,rfl,hr,by lia,h2,h3,λr a' b' hr' h2' h3'=>?_⟩;try bv_omega
  try simp only[dv,dw,dx,dz]
  refine⟨⟨by lia,by lia⟩,r,iD rest[r],D8 hr',by rw[MQ,MP hr'];rfl,by lia,a',b',ms++[rest[r]],rest.eraseIdx r,some (.sh,iD j),by rw[Mr];rfl,by rw[rC],rfl,by rw[MV,hm];rfl,?_,h2',h3'⟩;rw[Mc];exact(NL ms (qm rest hr')).trans hp
 rintro ys E⟨a,b,ms,rest,o,rfl,rfl,ho,hm,hp,h2,h3⟩;try bv_omega
 try simp only[dv,dw,dx,ho,dz]
 rw[MT]at hm;exact q ms rest _ _ hm hp h2 h3
def tB{ms:QW}{m:Nat}(pm:ms.Perm (List.range m)){a:Nat}(ha:a<m):ms[a]?=some (ms.getD a 0)/\ms.getD a 0<m:=by
 have h:a<ms.length:=by rw[pm.length_eq,MT];exact ha
 have e:ms.getD a 0=ms[a]:=by rw[N6,MP h];rfl
 rw[e];exact⟨MP h,NH.mp (pm.mem_iff.mp (Na h))⟩
structure Up(i:Nat)(ps:QH):Prop where
 len:ps.length=i
 at':∀(k:Nat)(e:Nat×Nat),ps[k]?=some e->e.2=k+1/\e.1<=k
def Up.snoc{i p:Nat}(h:Up i ps)(hp:p<=i):Up (i+1) (ps++[(p,i+1)]):=by refine⟨by rw[MV,h.len];rfl,λk e he=>?_⟩;rw[List.getElem?_append]at he;split at he;{exact h.at' k e he};rename_i hk;rw[List.getElem?_singleton]at he;split at he;{rename_i h0;cases he;have:=h.len;show i+1=k+1/\p<=k;lia};cases he
def Up.mem{i:Nat}(h:Up i ps)(he:e∈ps):e.1<e.2/\e.2<=i:=by obtain⟨k,hk⟩:=List.mem_iff_getElem?.mp he;have:=h.at' k e hk;have:=dM hk;have:=h.len;lia
def Up.good{m:Nat}(h:Up (m-1) ps)(hm:1<=m):Gr.Good m ps:=by refine⟨λe he=>?_,?_⟩;{have:=h.mem he;lia};refine OA.mpr λi j hi hj l e=>?_;have h1:=h.at' i _ (MP hi);have h2:=h.at' j _ (MP hj);rw[e]at h1;lia
def Up.conn{m:Nat}(h:Up (m-1) ps):Gr.cK m ps:=by
 refine Gr.EA λk h0 hk=>?_;have hl:k-1<ps.length:=by rw[h.len];lia
 have:=h.at' (k-1) _ (MP hl);refine⟨ps[k-1].1,by lia,?_⟩;have e:(ps[k-1].1,k)=ps[k-1]:=Prod.ext rfl (by show k=ps[k-1].2;lia);rw[e];exact Na hl
end PB
namespace PB
open PySem L2 Dv Gr
variable{m p:Nat}{es:QH}
def Sm(es:QH) (p x y:Nat):Prop:=x=y\/∃n,bB es p n/\dD es p n x/\dD es p n y
def Sm.sy{x y:Nat}(h:Sm es p x y):Sm es p y x:=h.imp Eq.symm λ⟨n,a,b,c⟩=>⟨n,a,c,b⟩
def Sm.tr(T:Tree m es){x y z:Nat}(hy:y<m)(h:Sm es p x y)(g:Sm es p y z):Sm es p x z:=by rcases h with rfl|⟨n,a,b,c⟩;{exact g};rcases g with rfl|⟨k,a',b',c'⟩;{exact .inr ⟨n,a,b,c⟩};obtain rfl:=T.HB hy a a' c b';exact .inr ⟨n,a,b,c'⟩
structure jD(m:Nat)(es:QH) (p:Nat)(dn:QH)(lb:QW):Prop where
 len:lb.length=m
 snd:∀x y,x<m->y<m->lb.getD x 0=lb.getD y 0->Sm es p x y
 Dk:∀e∈dn,e.1≠p->e.2≠p->lb.getD e.1 0=lb.getD e.2 0
def pX{x m:Nat}(h:x<m):(List.range m).getD x 0=x:=by rw[N6,NN h];rfl
def jD.start:jD m es p [] (List.range m):=⟨MT,λx y hx hy h=>by rw[pX hx,pX hy]at h;exact .inl h,λe he=>absurd he NK⟩
def jD.skip{dn:QH}{lb:QW}{e:Nat×Nat}(L:jD m es p dn lb)(h:e.1=p\/e.2=p):jD m es p (dn++[e]) lb:=⟨L.len,L.snd,λf hf h1 h2=>by
 rcases MF.mp hf with z|z
 .exact L.Dk f z h1 h2
 .rw[MR.mp z]at h1 h2;rcases h with z|z
  .exact absurd z h1
  .exact absurd z h2⟩
def getD_map'{lb:QW}{f:Nat->Nat}{x:Nat}(h:x<lb.length):(lb.map f).getD x 0=f (lb.getD x 0):=by rw[N6,N6,MQ,MP h];rfl
def jD.join{dn:QH}{lb:QW}{a b:Nat}(T:Tree m es)(hp:p<m)(L:jD m es p dn lb)(sub:∀e∈dn,e∈es)(he:(a,b)∈es)(ha:a≠p)(hb:b≠p):jD m es p (dn++[(a,b)]) (lb.map λz=>if z=lb.getD b 0 then lb.getD a 0 else z):=by
 have lt:=T.gd.lt _ he;have ha':a<m:=by lia
 have hb':b<m:=lt.2;have get:∀x,x<m->(lb.map λz=>if z=lb.getD b 0 then lb.getD a 0 else z).getD x 0=if lb.getD x 0=lb.getD b 0 then lb.getD a 0 else lb.getD x 0:=λx hx=>getD_map' (f:=λz=>if z=lb.getD b 0 then lb.getD a 0 else z) (by rw[L.len];exact hx)
 have ab:Sm es p a b:=by obtain⟨n,h1,h2⟩:=T.some hp ha' ha;exact .inr ⟨n,h1,h2,T.uQ hp (T.gd.gD h1).2 h1 h2 (.inl he) hb⟩
 refine⟨by rw[M9];exact L.len,λx y hx hy h=>?_,λe hem h1 h2=>?_⟩;{rw[get x hx,get y hy]at h;by_cases c1:lb.getD x 0=lb.getD b 0;{have s1:=L.snd x b hx hb' c1;by_cases c2:lb.getD y 0=lb.getD b 0;{exact s1.tr T hb' (L.snd b y hb' hy c2.symm)};rw[if_pos c1,if_neg c2]at h;exact(s1.tr T hb' ab.sy).tr T ha' (L.snd a y ha' hy h)};by_cases c2:lb.getD y 0=lb.getD b 0;{rw[if_neg c1,if_pos c2]at h;exact((L.snd x a hx ha' h).tr T ha' ab).tr T hb' (L.snd b y hb' hy c2.symm)};rw[if_neg c1,if_neg c2]at h;exact L.snd x y hx hy h};rcases MF.mp hem with z|z;{have l2:=T.gd.lt _ (sub e z);rw[get _ (by lia),get _ l2.2,L.Dk e z h1 h2]};rw[MR.mp z];rw[get a ha',get b hb',if_pos rfl];split<;>rfl
def yJ{n:Nat}:¬dD es p n p:=λh=>by unfold dD at h;rw[fj]at h;lia
theorem jD.all(T:Tree m es)(hp:p<m){lb:QW}(L:jD m es p es lb){n:Nat}(a:bB es p n):∀{k x:Nat},x<m->ds es n x=k->dD es p n x->lb.getD x 0=lb.getD n 0
 |0,x,hx,h0,hb=>by rw[T.cn.zero (T.gd.gD a).2 hx h0]
 |k+1,x,hx,h0,hb=>by
  have ne:x≠n:=λz=>by rw[z,fj]at h0;lia
  obtain⟨y,hy,ay,b1,_,b2⟩:=T.tQ hp hx a hb ne;have ih:=L.all T hp a (k:=k) hy (by lia) b1;have xp:x≠p:=λz=>yJ (z▸hb);have yp:y≠p:=λz=>yJ (z▸b1);rcases ay with z|z;{rw[<-L.Dk _ z yp xp];exact ih};rw[L.Dk _ z xp yp];exact ih
def jD.fin(T:Tree m es)(hp:p<m){lb:QW}(L:jD m es p es lb){n x:Nat}(a:bB es p n)(hx:x<m):lb.getD x 0=lb.getD n 0↔dD es p n x:=by refine⟨λh=>?_,λh=>L.all T hp a hx rfl h⟩;have hn:=(T.gd.gD a).2;rcases L.snd x n hx hn h with rfl|⟨k,a',b1,b2⟩;{exact nW T hp a};obtain rfl:=T.HB hn a a' (nW T hp a) b2;exact b1
def IU{m p:Nat}(gd:Good m es)(so:es.Pairwise oA):(cM es p).Pairwise (·<=·):=by unfold cM;rw[List.pairwise_filterMap];refine so.imp_of_mem λ{e f} he hf h b hb c hc=>?_;have h1:=gd.lt e he;have h2:=gd.lt f hf;unfold oA at h;unfold nb at hb hc;split at hb;{split at hc;{cases hb;cases hc;lia};split at hc;{cases hb;cases hc;lia};cases hc};split at hb;{split at hc;{cases hb;cases hc;lia};split at hc;{cases hb;cases hc;lia};cases hc};cases hb
def sO:cy:=λds Q x=>∃(a b:Int) (m:Nat)(ps:QH),ds=[eE a b,iD m,.list (ps.map eO)]/\1<=m/\m<=60/\Gr.Good m ps/\Gr.cK m ps/\ps.length<=63/\0<=b/\b<2147483647/\∀es a' b',lg m es->es.Pairwise oA->es.length=ps.length->0<=b'->b'<2147483647->Q [eE a' b'] .sh (wD m es)
def D0:∀ds Q x,sO ds Q x->fU jB (bT [true,false,false] Q x) (ini [true,false,false] ds++List.replicate 3 none):=by
 rintro _ Q x⟨a,b,m,ps,rfl,h0,h1,gd,cn,few,h2,h3,q⟩;unfold fU;rfl';refine⟨⟨by lia,by lia⟩,⟨a,b,List.range m,m,rfl,by rw[MT];exact M5 _,by rw[MT];lia,h2,h3,λms rest a' b' hm hp h2 h3=>?_⟩⟩;have pm:ms.Perm (List.range m):=by have:=hp.length_eq;rw[MV,hm,MT]at this;have e:rest=[]:=Og (by lia);rw[e,NI]at hp;exact hp
 rfl';refine mE (λe=>eO (Gr.rF ms e)) rfl (λe he I hI=>?_) ?_ (by lia);{have hl:=gd.lt e he;have g1:=tB pm (by lia:e.1<m);have g2:=tB pm hl.2;simp![g1.1,g2.1];exact⟨by lia,hI _ rfl⟩};rfl';have e:ps.map (λe=>eO (Gr.rF ms e))=(ps.map (Gr.rF ms)).map eO:=by rw[Mu];rfl
 rw[e];refine ED (by rw[M9];lia) λqs pq so=>?_;rfl';refine⟨by lia,q qs _ _ ⟨h0,h1,?_,?_⟩ so ?_ h2 h3⟩;{exact Gr.Good.perm pq (Gr.yo pm gd)};{exact Gr.AK pq (Gr.xG pm cn)};rw[pq.length_eq,M9]
def sQ:cy:=λds Q x=>∃(a b:Int) (mo:Nat),ds=[eE a b,iD mo]/\0<mo/\mo<=60/\0<=b/\b<2147483647/\∀m es a' b',m<=mo->lg m es->es.Pairwise oA->es.length+1=m->0<=b'->b'<2147483647->Q [eE a' b'] .sh (wD m es)
def Ey:∀ds Q x,sQ ds Q x->gz gY sO (bT [true,false] Q x) (ini [true,false] ds++List.replicate 5 none):=by
 rintro _ Q x⟨a,b,mo,rfl,h0,h1,h2,h3,q⟩;unfold gz;rfl';refine⟨a,b,mo,rfl,h0,by lia,h2,h3,λr a b hr h2 h3=>?_⟩;rfl';refine⟨a,b,6,rfl,by lia,by lia,h2,h3,λsh a b hsh h2 h3=>?_⟩;rfl';refine⟨by lia,?_⟩;have e1:(1:Int)+(r:Int)=((r+1:Nat):Int):=by lia
 rw[e1,if_pos (by lia)];refine gk rfl ?_;have e2:(((r+1:Nat):Int)-1).toNat=r:=by lia
 rw[e2];refine pP (λi E=>∃(a b:Int)(ps:QH)(o o2:Qc),E=[some (.ow true,eE a b),some (.sh,iD mo),some (.sh,iD (r+1)),some (.sh,iD sh),some (.ow false,.list (ps.map eO)),o,o2]/\bR o=true/\bR o2=true/\Up i ps/\0<=b/\b<2147483647) ?_ ?_ ?_;{exact⟨a,b,[],none,none,rfl,rfl,rfl,⟨rfl,λk e h=>by cases h⟩,h2,h3⟩}
 .rintro i k _ hi⟨a,b,ps,o,o2,rfl,ho,ho2,up,h2,h3⟩;have hi':=dM hi;rw[NN (by rw[MT]at hi';exact hi')]at hi;cases hi;rw[MT]at hi';simp![ho];refine⟨a,b,i+1,rfl,by lia,by lia,h2,h3,λr1 a b hr1 h2 h3=>?_⟩;simp![ho2];refine⟨a,b,3,rfl,by lia,by lia,h2,h3,λr2 a b hr2 h2 h3=>?_⟩;have e3:((i+1:Nat):Int)-1=(i:Int):=by lia
  have e4:(if(3:Int)<((i+1:Nat):Int)then(3:Int)else((i+1:Nat):Int))=((min (i+1) 3:Nat):Int):=by split<;>lia
  simp![ho2,e3,e4];refine⟨a,b,min (i+1) 3,rfl,by lia,by lia,h2,h3,λr3 a b hr3 h2 h3=>?_⟩;simp![ho2,e3,uA];refine⟨by lia,⟨by lia,by lia⟩,by lia,by lia,?_⟩;have hin:∀z∈[PyData.int (i:Int),PyData.int 0,iD r1,PyData.int (if(i:Int)-(r2:Int)>0 then(i:Int)-(r2:Int)else 0),iD r3,PyData.int ((i:Int)/2)],∃p:Nat,p<=i/\z=iD p:=by intro z hz;simp only[MH,NK,or_false]at hz;rcases hz with rfl|rfl|rfl|rfl|rfl|rfl;{exact⟨i,by lia,rfl⟩};{exact⟨0,by lia,rfl⟩};{exact⟨r1,by lia,rfl⟩};{exact⟨i-r2,by lia,by congr 1;split<;>lia⟩};{exact⟨r3,by lia,rfl⟩};exact⟨i/2,by lia,by congr 1⟩
  have hlen:[PyData.int (i:Int),PyData.int 0,iD r1,PyData.int (if(i:Int)-(r2:Int)>0 then(i:Int)-(r2:Int)else 0),iD r3,PyData.int ((i:Int)/2)].length=6:=rfl;generalize [PyData.int (i:Int),PyData.int 0,iD r1,PyData.int (if(i:Int)-(r2:Int)>0 then(i:Int)-(r2:Int)else 0),iD r3,PyData.int ((i:Int)/2)]=L at hin hlen⊢;have hs:sh<L.length:=by lia
  obtain⟨p,hp,ep⟩:=hin _ (Na hs);refine gk (MP hs) ⟨by lia,by rw[up.len];lia,a,b,ps++[(p,i+1)],_,_,by rw[ep,Mr];rfl,rfl,rfl,up.snoc hp,h2,h3⟩
 rintro _⟨a,b,ps,o,o2,rfl,ho,ho2,up,h2,h3⟩;rfl';rw[MT]at up;refine⟨a,b,r+1,ps,rfl,by lia,by lia,Up.good (m:=r+1) up (by lia),Up.conn (m:=r+1) up,by rw[up.len];lia,h2,h3,λes a' b' W so hl h2 h3=>?_⟩;rfl';exact q _ es _ _ (by lia) W so (by rw[hl,up.len]) h2 h3
def sL:cy:=λdd Q x=>∃m es p,dd=[wD m es,iD p]/\lg m es/\es.length+1=m/\p<m/\es.Pairwise oA/\Q [] (.ow false) (.list ((cM es p).map λn=>nD (pc m es p n)))
def FF:∀dd Q x,sL dd Q x->fG (bT [false,false] Q x) (ini [false,false] dd++List.replicate 7 none):=by
 rintro _ Q x⟨m,es,p,rfl,W,ht,hp,so,q⟩;have hm:=W.le;have T:Tree m es:=⟨W.gd,W.cn,ht⟩;unfold fG;rfl';refine⟨⟨by lia,by lia⟩,?_⟩;refine xP (λi E=>∃(lb:QW)(o3 o4 o5:Qc),E=[some (.sh,wD m es),some (.sh,iD p),some (.ow false,nD lb),o3,o4,o5,none,none,none]/\bR o3=true/\bR o4=true/\bR o5=true/\jD m es p (es.take i) lb) ⟨List.range m,none,none,none,rfl,rfl,rfl,rfl,jD.start⟩ ?_ ?_
 .rintro J i e _ hi hJ⟨lb,o3,o4,o5,rfl,h3,h4,h5,L⟩;simp![h3,h4];have lt:=T.gd.lt e (Ma hi);have g1:=jG (l:=lb) (k:=e.1) (by rw[L.len];lia);have g2:=jG (l:=lb) (k:=e.2) (by rw[L.len];lia);have hin:iD p∈[iD e.1,iD e.2]↔e.1=p\/e.2=p:=by rw[MH,MR,qo,qo];lia
  refine⟨by lia,⟨rfl,rfl⟩,?_⟩;rw[take_snoc hi]at hJ;by_cases c:iD p∈[iD e.1,iD e.2];{rw[if_neg λz=>z c];exact hJ _ ⟨lb,_,_,_,rfl,rfl,rfl,h5,L.skip (hin.mp c)⟩};rw[if_pos c];have ne:=λz=>c (hin.mpr z);simp only[g2,dv,dw,h5];refine mE (λz=>iD (if z=lb.getD e.2 0 then lb.getD e.1 0 else z)) rfl (λz hz I hI=>?_) ?_ (by rw[L.len];lia);{simp![g1];split;{rename_i h;rw[if_pos h]at hI;exact hI _ rfl};rename_i h;rw[if_neg h]at hI;exact hI _ rfl};rfl';refine hJ _ ⟨lb.map λz=>if z=lb.getD e.2 0 then lb.getD e.1 0 else z,some (.sh,iD e.1),some (.sh,iD e.2),some (.sh,iD (lb.getD e.2 0)),?_,rfl,rfl,rfl,L.join T hp (λf hf=>List.mem_of_mem_take hf) (Ma hi) (λz=>ne (.inl z)) λz=>ne (.inr z)⟩;unfold nD;rw[Mu];rfl
 rintro _⟨lb,o3,o4,o5,rfl,h3,h4,h5,L⟩;rw[NT]at L;rfl';have hes:=W.few;refine uX (λe=>(nb p e).map iD) rfl (λe he I hI=>?_) ?_ (by lia)
 .have lt:=T.gd.lt e he;have hin:iD p∈[iD e.1,iD e.2]↔e.1=p\/e.2=p:=by rw[MH,MR,qo,qo];lia
  unfold nb at hI;rfl';refine⟨by lia,⟨rfl,rfl⟩,?_⟩;by_cases c1:e.1=p
  .rw[if_pos (hin.mpr (.inl c1))];rw[if_pos c1]at hI;have ee:((e.1:Int)+(e.2:Int)-(p:Int))=(e.2:Int):=by lia
   rw[ee];exact hI _ rfl
  by_cases c2:e.2=p
  .rw[if_pos (hin.mpr (.inr c2))];rw[if_neg c1,if_pos c2]at hI;have ee:((e.1:Int)+(e.2:Int)-(p:Int))=(e.1:Int):=by lia
   rw[ee];exact hI _ rfl
  rw[if_neg λz=>(hin.mp z).elim c1 c2];rw[if_neg c1,if_neg c2]at hI;exact hI _ rfl
 have e1:(es.filterMap λe=>(nb p e).map iD)=(cM es p).map iD:=by unfold cM;rw[List.map_filterMap]
 rw[e1];have hnb:=W.gd.ku p;rfl';refine v8 (by lia) λns pm up=>?_;have en:ns=cM es p:=l0 pm up (IU W.gd so);subst en;have hnl:=pm.length_eq;rfl';refine mE (λn=>nD (pc m es p n)) rfl (λn hn I hI=>?_) ?_ (by lia);{have an:bB es p n:=mV.mp (pm.mem_iff.mp hn);have g1:=jG (l:=lb) (k:=n) (by rw[L.len];exact(T.gd.gD an).2);rfl';rw[if_pos ⟨by lia,by lia⟩];refine gk rfl ?_;refine uX (λl=>if decide (ds es n l+1=ds es p l)=true then some (iD l)else none) rfl (λl hl J hJ=>?_) ?_ (by rw[MT];lia);{have hl':=NH.mp hl;have g2:=jG (l:=lb) (k:=l) (by rw[L.len];exact hl');have hb:=L.fin T hp an hl';unfold dD at hb;simp only[dv,dw,dx,dy,dz,Nat.reduceBEq,g1,g2]at hJ⊢;split;{rename_i c;rw[if_pos (hb.mp c)]at hJ;exact hJ _ rfl};rename_i c;rw[if_neg λz=>c (hb.mpr z)]at hJ;exact hJ _ rfl};rw[k8];rfl';exact hI _ rfl};rfl';exact q
def mZ:cy:=λdd Q x=>∃m es,∃p:Int,dd=[wD m es,.int p]/\1<=m/\(es.length+1≠m->x "NoTree" .none)/\(es.length+1=m->lg m es/\(¬(0<=p/\p<m)->x "NoPlace" .none)/\∀n:Nat,p=n->n<m->Q [] (.dp false) (.list ((cM es n).map λk=>nD (pc m es n k))))
def DW:∀dd Q x,mZ dd Q x->i9 xK yF xR xW (bT [false,false] Q x) (ini [false,false] dd++List.replicate 2 none):=by
 rintro _ Q x⟨m,es,p,rfl,h1,r1,h⟩;unfold i9;rfl';refine⟨m,es,rfl,h1,λht=>?_,r1⟩;obtain⟨W,r2,q⟩:=h ht;have hm:=W.le;have T:Tree m es:=⟨W.gd,W.cn,ht⟩;rfl';refine⟨m,es,p,rfl,λhp=>?_,r2⟩;obtain⟨n,rfl⟩:∃n:Nat,p=n:=⟨p.toNat,by lia⟩;have hp:n<m:=by lia
 have q:=q n rfl hp;rfl';refine⟨m,es,rfl,W.le,W.gd,?_⟩;simp![NN hp];refine AS (λk=>nD (pc m es n k)) rfl (λk hk I hI=>?_) ?_ (by have:=W.gd.ku n;lia);{rfl';refine⟨m,es,n,k,rfl,W.le,T,mV.mp hk,?_⟩;rfl';exact⟨⟨_,rfl⟩,hI _ rfl⟩};rfl';exact q
def sV:cy:=λdd Q x=>∃m es,∃p:Int,dd=[wD m es,.int p]/\1<=m/\(es.length+1≠m->Q [] .sh (.int 1))/\(es.length+1=m->lg m es/\¬(0<=p/\p<m)/\Q [] .sh (.int 0))
def EC:∀dd Q x,sV dd Q x->cT mZ (bT [false,false] Q x) (ini [false,false] dd++List.replicate 3 none):=by rintro _ Q x⟨m,es,p,rfl,h1,q1,q2⟩;by_cases ht:es.length+1=m;{obtain⟨W,np,q⟩:=q2 ht;unfold cT;rfl';refine⟨m,es,p,rfl,h1,λz=>absurd ht z,λ_=>⟨W,λ_=>?_,λn e hn=>absurd ⟨by lia,by lia⟩ np⟩⟩;rfl';refine⟨by decide,by decide,by decide,by decide,by decide,?_⟩;rw[if_neg (by decide)];refine⟨by decide,?_⟩;rw[if_neg (by decide),if_neg (by decide)];exact q};unfold cT;rfl';refine⟨m,es,p,rfl,h1,λ_=>?_,λz=>absurd z ht⟩;rfl';refine⟨by decide,by decide,by decide,by decide,by decide,?_⟩;rw[if_neg (by decide)];refine⟨by decide,?_⟩;rw[if_neg (by decide),if_neg (by decide)];exact q1 ht
def pH:cy:=λdd Q x=>∃(a b:Int) (m:Nat)(es:QH),dd=[eE a b,wD m es]/\1<=m/\m<=60/\(2<=m->es≠[])/\es.length<=900/\0<=b/\b<2147483647/\∀a' b',0<=b'->b'<2147483647->Q [eE a' b'] .sh .none/\∀es',es'.length=es.length+1->Q [eE a' b'] .sh (wD m es')
def D7(h:ps.length<=1000)(q:∀qs:QH,qs.Perm ps->P (.ow false) (.list (qs.map eO))):qy [.tuple (ps.map eO)] P:=by refine⟨ps.map (λe:Nat×Nat=>((e.1:Int),(e.2:Int))),by rw[Mu];rfl,by rw[M9];exact h,λms p=>?_⟩;obtain⟨l,hl,rfl⟩:=jU _ p;have:=q l hl;rw[Mu];exact this
def Fq:∀dd Q x,pH dd Q x->fD jB (bT [true,false] Q x) (ini [true,false] dd++List.replicate 2 none):=by rintro _ Q x⟨a,b,m,es,rfl,h1,h2,ne,h3,b0,b1,q⟩;unfold fD;rfl';refine⟨⟨by lia,by lia⟩,⟨a,b,List.range m,m,rfl,by rw[MT];exact M5 _,by rw[MT];lia,b0,b1,λms rest a b hm hp b0 b1=>?_⟩⟩;obtain⟨q1,q2⟩:=q a b b0 b1;rfl';have hms:∀y∈ms,y<m:=λy hy=>NH.mp (hp.mem_iff.mp (MF.mpr (.inl hy)));refine xP (λi E=>∃o2 o3:Qc,E=[some (.ow true,eE a b),some (.sh,wD m es),o2,o3]/\bR o2=true/\bR o3=true) ⟨none,none,rfl,rfl,rfl⟩ ?_ ?_;{rintro J i y _ hi hJ⟨o2,o3,rfl,ho2,ho3⟩;have hy:=hms y (Ma hi);simp![ho2];rw[if_pos ⟨by lia,by lia⟩];refine gk rfl ?_;refine yr (λj E=>∃o3:Qc,E=[some (.ow true,eE a b),some (.sh,wD m es),some (.sh,iD y),o3]/\bR o3=true) ⟨o3,rfl,ho3⟩ ?_ ?_;{clear ho3 o3;rintro J2 z _ hz hJ2⟨o3,rfl,ho3⟩;simp![ho3];split;{rename_i hlt;refine⟨by lia,⟨MI.mpr λe _=>rfl,rfl⟩,?_⟩;split;{refine⟨by lia,by lia,⟨λz=>ne (by lia) (List.map_eq_nil_iff.mp z),by lia⟩,?_⟩;rw[show List.map eO es++[PyData.tuple [iD y,iD z]]=(es++[(y,z)]).map eO by rw[Mr];rfl];refine D7 (by rw[MV];show es.length+1<=1000;lia) λqs pq=>?_;rfl';exact⟨by lia,q2 qs (by rw[pq.length_eq,MV];rfl)⟩};exact hJ2 _ ⟨_,rfl,rfl⟩};exact hJ2 _ ⟨_,rfl,rfl⟩};rintro _⟨o3,rfl,ho3⟩;exact hJ _ ⟨_,_,rfl,rfl,ho3⟩};rintro _⟨o2,o3,rfl,ho2,ho3⟩;rfl';exact q1
def uL(m:Nat)(es:QH) (n:Nat)(d:PyData):Prop:=d=.none\/∃es',d=wD m es'/\es.length<es'.length/\es'.length<=n
def uL.mono{m n k:Nat}(h:uL m es n d)(l:n<=k):uL m es k d:=h.imp_right λ⟨e,h1,h2,h3⟩=>⟨e,h1,h2,MZ h3 l⟩
def sG:cy:=λdd Q x=>∃(a b:Int) (m:Nat)(es:QH),dd=[eE a b,wD m es]/\1<=m/\m<=60/\(2<=m->es≠[])/\es.length<=60/\0<=b/\b<2147483647/\∀a' b' d,0<=b'->b'<2147483647->uL m es 900 d->Q [eE a' b'] .sh d
def Et:∀dd Q x,sG dd Q x->gy pH gY (bT [true,false] Q x) (ini [true,false] dd++List.replicate 3 none):=by
 rintro _ Q x⟨a,b,m,es,rfl,h1,h2,ne,h3,b0,b1,q⟩;unfold gy;rfl';have ring:∀{es':QH}{n:Nat}{R:QM->Kd->PyData->Prop}{a b:Int},0<=b->b<2147483647->es.length<=es'.length->es'.length<=n->n<=899->(∀a b d,0<=b->b<2147483647->uL m es (n+1) d->R [eE a b] .sh d)->pH [eE a b,wD m es'] R x:=λ{es' n R a b} b0 b1 l1 l2 l3 r=>by refine⟨a,b,m,es',rfl,h1,h2,λz y=>?_,by lia,b0,b1,λa b b0 b1=>⟨r a b _ b0 b1 (.inl rfl),λe2 he=>r a b _ b0 b1 (.inr ⟨e2,rfl,by lia,by lia⟩)⟩⟩;have:=ne z;rw[y]at l1;exact this (Og (by simpa using l1))
 refine ring b0 b1 (M5 _) (M5 _) (by lia) λa b d b0 b1 hd=>?_;rfl';refine⟨by lia,a,b,5,rfl,by lia,by lia,b0,b1,λr a b hr b0 b1=>?_⟩;simp![uA];obtain⟨n,hn,e⟩:∃n:Nat,n<=40/\([PyData.int 0,.int 0,.int 1,.int 5,.int 40]:QM)[r]?=some (iD n):=by rcases r with _|_|_|_|_|r;{exact⟨0,by lia,rfl⟩};{exact⟨0,by lia,rfl⟩};{exact⟨1,by lia,rfl⟩};{exact⟨5,by lia,rfl⟩};{exact⟨40,by lia,rfl⟩};lia
 refine gk e ?_;rfl';rw[if_pos ⟨by lia,by lia⟩];refine gk rfl ?_;refine yr (λi E=>∃(a b:Int)(d:PyData)(o3 o4:Qc),E=[some (.ow true,eE a b),some (.sh,wD m es),some (.sh,d),o3,o4]/\bR o3=true/\bR o4=true/\uL m es (es.length+1+i) d/\0<=b/\b<2147483647) ⟨a,b,d,none,none,rfl,rfl,rfl,hd,b0,b1⟩ ?_ ?_;{clear hd b0 b1 a b d;rintro J i _ hi hJ⟨a,b,d,o3,o4,rfl,ho3,ho4,hd,b0,b1⟩;simp![ho3,ho4];refine GU (λE=>∃(a b:Int)(d4:PyData),E=[some (.ow true,eE a b),some (.sh,wD m es),some (.sh,d),some (.sh,iD i),some (.sh,d4)]/\uL m es (es.length+1+i+1) d4/\0<=b/\b<2147483647) (λJ2 hJ2=>?_) (λB hB=>?_);{rcases hd with rfl|⟨es',rfl,l1,l2⟩;{rfl';exact hJ2 _ ⟨a,b,.none,rfl,.inl rfl,b0,b1⟩};rfl';refine ring b0 b1 (Nt l1) l2 (by lia) λa b d4 b0 b1 h4=>?_;rfl';exact hJ2 _ ⟨a,b,d4,rfl,h4,b0,b1⟩};rintro _⟨a,b,d4,rfl,h4,b0,b1⟩;rw[hB];rcases h4 with rfl|⟨es4,rfl,l1,l2⟩;{rfl';exact hJ _ ⟨a,b,d,_,_,rfl,rfl,rfl,hd.mono (by lia),b0,b1⟩};rfl';exact hJ _ ⟨a,b,wD m es4,_,_,rfl,rfl,rfl,.inr ⟨es4,rfl,l1,by lia⟩,b0,b1⟩};rintro _⟨a,b,d,o3,o4,rfl,ho3,ho4,hd,b0,b1⟩;rfl';exact q a b d b0 b1 (hd.mono (by lia))
def yC{l:QW}{f:Nat->QW}:dl 8 (.list (l.map λk=>nD (f k)))=true:=by show((l.map λk=>nD (f k)).all (dl 7))=true;rw[MI];intro d h;obtain⟨c,_,rfl⟩:=MS.mp h;show(((f c).map iD).all (dl 6))=true;rw[MI];intro d h;obtain⟨c,_,rfl⟩:=MS.mp h;rfl
def Jk{i:Nat}(e:E[i]?=some o)(h:bR o=true):aW E i=true:=by
 unfold aW;rw[e];cases o with
 |none=>rfl
 |some p=>exact h
def Bc:∀dd Q x,q8 dd Q x->kN pZ sJ sQ gY qQ jB sL mZ sV sG (bT [false] Q x) (ini [false] dd++List.replicate 11 none):=by
 rintro _ Q x⟨ns,rfl,hn,q⟩;unfold kN;rfl';refine⟨ns,6,rfl,by lia,by lia,λcs hcs=>?_⟩;rfl';have e1:(if(cs.length:Int)>1 then(cs.length:Int)else 1)=((max 1 cs.length:Nat):Int):=by split<;>lia
 rw[e1,if_pos (by lia)];refine gk rfl ?_;simp only[dz];refine yr (λi E=>∃o2 o3 o4 o5 o6 o7 o8 o9 o10:Qc,E=[some (.sh,.list (ns.map .int)),some (.ow false,.list (cs.map .int)),o2,o3,o4,o5,o6,o7,o8,o9,o10,none]/\bR o2=true/\bR o3=true/\bR o4=true/\bR o5=true/\bR o6=true/\bR o7=true/\bR o8=true/\bR o9=true/\bR o10=true) ⟨none,none,none,none,none,none,none,none,none,rfl,rfl,rfl,rfl,rfl,rfl,rfl,rfl,rfl,rfl⟩ ?_ ?_
 .rintro J k _ hk hJ⟨o2,o3,o4,o5,o6,o7,o8,o9,o10,rfl,h2,h3,h4,h5,h6,h7,h8,h9,h10⟩;simp![h2];refine⟨cs,k,rfl,by lia,by lia,λa b b0 b1=>?_⟩;simp![h3];refine⟨by lia,a,b,8,rfl,by lia,by lia,b0,b1,λr a b hr b0 b1=>?_⟩;rfl';have⟨mo,h0,h60,em⟩:∃mo:Nat,0<mo/\mo<=60/\c8 [PyData.int 24,PyData.int 60] (if(r:Int)=0 then 1 else 0)=some (iD mo):=by split;{exact⟨60,by lia,by lia,rfl⟩};exact⟨24,by lia,by lia,rfl⟩
  refine gk em ?_;refine⟨a,b,mo,rfl,h0,h60,b0,b1,λm es a b hm W so ht b0 b1=>?_⟩;have T:Tree m es:=⟨W.gd,W.cn,ht⟩;simp![h4];refine⟨m,es,rfl,W.pos,?_⟩;rw[Nn ht];rfl';refine⟨true,true,rfl,?_⟩;rfl';have em:(if(12:Int)<(m:Int)then(12:Int)else(m:Int))=((min m 12:Nat):Int):=by split<;>lia
  have hm:=W.le;rw[em];refine⟨⟨by lia,by lia⟩,a,b,List.range m,min m 12,rfl,by rw[MT];lia,by rw[MT];lia,b0,b1,λms rest a b _ hp b0 b1=>?_⟩;have hms:∀y∈ms,y<m:=λy hy=>NH.mp (hp.mem_iff.mp (MF.mpr (.inl hy)));rfl';refine xP (λi E=>∃o5 o6 o7 o8:Qc,E=[some (.sh,.list (ns.map .int)),some (.ow false,.list (cs.map .int)),some (.sh,iD k),some (.ow false,eE a b),some (.sh,wD m es),o5,o6,o7,o8,o9,o10,none]/\bR o5=true/\bR o6=true/\bR o7=true/\bR o8=true) ⟨o5,o6,o7,o8,rfl,h5,h6,h7,h8⟩ ?_ ?_
  .clear h5 h6 h7 h8 o5 o6 o7 o8;rintro J2 i y _ hi hJ2⟨o5,o6,o7,o8,rfl,h5,h6,h7,h8⟩;have hy:=hms y (Ma hi);simp![h5];refine⟨m,es,y,rfl,W,ht,hy,so,?_⟩;simp![h6];refine⟨m,es,y,rfl,W.pos,λz=>absurd ht z,λ_=>⟨W,λz=>absurd ⟨by lia,by lia⟩ z,λn e hn=>?_⟩⟩;have e:n=y:=by lia
   subst e;simp![h7];refine⟨⟨yC,yC⟩,?_⟩;refine⟨false,_,rfl,Jk rfl h8,by decide,λd hd=>?_,?_⟩;{obtain⟨c,hc,rfl⟩:=MS.mp hd;exact⟨_,rfl,by rw[M9];have:=qe (xS (m:=m) (es:=es) (p:=n) (n:=c)) λy hy=>(ua.mp hy).1;show _<16777216;lia⟩};try bv_omega
   refine⟨rfl,?_⟩;rfl';refine⟨by lia,_,rfl,?_,?_⟩;{rw[M9,M9];have:=W.gd.ku n;lia};refine⟨m,es,n,rfl,W.pos,λz=>absurd ht z,λ_=>⟨W,λz=>absurd ⟨by lia,by lia⟩ z,λn' e hn=>?_⟩⟩;have e:n'=n:=by lia
   subst e;rfl';exact⟨⟨yC,yC⟩,hJ2 _ ⟨_,_,_,_,rfl,rfl,rfl,rfl,rfl⟩⟩
  rintro _⟨o5,o6,o7,o8,rfl,h5,h6,h7,h8⟩;rfl';have p9:yD 10 9:=⟨by decide,by decide,by decide⟩;refine⟨p9,a,b,10^9,rfl,by lia,by lia,b0,b1,λr1 a b hr1 b0 b1=>?_⟩;rfl';refine⟨p9,a,b,10^9,rfl,by lia,by lia,b0,b1,λr2 a b hr2 b0 b1=>?_⟩;simp![h9];refine⟨by lia,?_⟩;rw[show [PyData.int (-1),iD m,PyData.int ((m:Int)+(r1:Int)),PyData.int (-1-(r2:Int))]=[(-1:Int),(m:Int),(m:Int)+(r1:Int),-1-(r2:Int)].map PyData.int from rfl];refine mE (λ_=>PyData.int 0) rfl (λn hn I hI=>?_) ?_ (show 4<=16777216 by decide)
  .have np:¬(0<=n/\n<(m:Int)):=by simp only[MH,NK,or_false]at hn;lia
   rfl';refine⟨m,es,n,rfl,W.pos,λz=>absurd ht z,λ_=>⟨W,np,?_⟩⟩;rfl';exact hI _ rfl
  rfl';refine⟨by lia,⟨rfl,rfl⟩,?_⟩;rw[if_neg λz=>z rfl];refine⟨a,b,m,es,rfl,W.pos,W.le,λz y=>by rw[y]at ht;simp at ht;lia,by lia,b0,b1,λa b d b0 b1 hd=>?_⟩;rcases hd with rfl|⟨es',rfl,l1,l2⟩;{simp![h10];exact hJ _ ⟨_,_,_,o5,o6,o7,o8,_,_,rfl,rfl,rfl,rfl,h5,h6,h7,h8,rfl,rfl⟩};simp![h10];refine⟨m,es',rfl,W.pos,?_⟩;rw[Ms (by lia)];rfl';refine⟨false,false,rfl,?_⟩;rfl';refine⟨by lia,?_⟩;rw[show [PyData.int 0,PyData.int (-1),iD m]=[(0:Int),-1,(m:Int)].map PyData.int from rfl];refine mE (λ_=>PyData.int 1) rfl (λn hn I hI=>?_) ?_ (show 3<=16777216 by decide);{rfl';refine⟨m,es',n,rfl,W.pos,λ_=>?_,λz=>by lia⟩;rfl';exact hI _ rfl};rfl';refine⟨by lia,⟨rfl,rfl⟩,?_⟩;rw[if_neg λz=>z rfl];exact hJ _ ⟨_,_,_,o5,o6,o7,o8,_,_,rfl,rfl,rfl,rfl,h5,h6,h7,h8,rfl,rfl⟩
 rintro _⟨o2,o3,o4,o5,o6,o7,o8,o9,o10,rfl,_⟩;rfl';exact q
end PB
namespace Io
open PySem L2 PySem.W Dv PB
def top(i:Nat):Stmt:=PySem.Challenge.pw_farhail_k18_trees_and_pieces.main.body.getD i (.Pass ⟨0,0,0,0⟩)
structure Txt(K:Frag)(mg:QE):Prop where
 abs:mg "abs"=none
 enumerate:mg "enumerate"=none
 int:mg "int"=none
 isinstance:mg "isinstance"=none
 len:mg "len"=none
 list:mg "list"=none
 max:mg "max"=none
 min:mg "min"=none
 range:mg "range"=none
 sorted:mg "sorted"=none
 sum:mg "sum"=none
 tuple:mg "tuple"=none
 Fd:∃C,mg "NoPlace"=some (.ref C)/\iw K C lY "ValueError.__new__" none=true
 Hv:∃C,mg "NoTree"=some (.ref C)/\iw K C lY "ValueError.__new__" none=true
 kit:tE K ["list"]=true
 kx:wc K ["NoPlace","NoTree"] ["NoLooks","NoPlace","NoSuch","NoThing","NoTree","NotOne","ValueError"]=true
 kc:vd K ["NoLooks","NoPlace","NoSuch","NoThing","NoTree","NotOne","ValueError"]=true
 vq:zT K ["NoPlace","NoTree"] "HailError"=true
 ns:∃h:Heap,K.In h/\h.Ns mainGlobals mg
def uc{us:QO}{n:Nat}(h:us.length=n+1):∃a t,t.length=n/\us=a::t:=by
 cases us with
 |nil=>cases h
 |cons a t=>exact⟨a,t,Nat.succ.inj h,rfl⟩
def LI{us:QO}(h0:us.length=1):∃a0,us=[a0]:=by obtain⟨a0,t0,h1,rfl⟩:=uc h0;cases Og h1;exact⟨a0,rfl⟩
def sY{us:QO}(h0:us.length=2):∃a0 a1,us=[a0,a1]:=by obtain⟨a0,t0,h1,rfl⟩:=uc h0;obtain⟨a1,t1,h2,rfl⟩:=uc h1;cases Og h2;exact⟨a0,a1,rfl⟩
def L4{us:QO}(h0:us.length=3):∃a0 a1 a2,us=[a0,a1,a2]:=by obtain⟨a0,t0,h1,rfl⟩:=uc h0;obtain⟨a1,t1,h2,rfl⟩:=uc h1;obtain⟨a2,t2,h3,rfl⟩:=uc h2;cases Og h3;exact⟨a0,a1,a2,rfl⟩
local macro_rules | `(tactic| ac_nf) => `(tactic| (intro _ _ _ _ _ _ us hl; first | (obtain⟨_, e⟩ := LI hl; subst e; rfl) | (obtain⟨_, _, e⟩ := sY hl; subst e; rfl) | (obtain⟨_, _, _, e⟩ := L4 hl; subst e; rfl)))
section
variable(P:Program)(w:World)(K:Frag)(mg:QE)(base:Heap)
abbrev mQ:Prop:=cO P w K mg base 1 "_law_cells" ["script","many"] (c9 mg K [false,false] pZ)
abbrev nN:Prop:=cO P w K mg base 1 "_law_pool" ["cells","k"] (c9 mg K [false,false] sJ)
abbrev fP:Prop:=cO P w K mg base 1 "_law_take" ["pool","many"] (c9 mg K [true,false] gY)
abbrev gZ:Prop:=cO P w K mg base 2 "_law_some" ["pool","menu","many"] (c9 mg K [true,false,false] jB)
abbrev l9:Prop:=cO P w K mg base 3 "_law_named" ["pool","many","ties"] (c9 mg K [true,false,false] sO)
abbrev nL:Prop:=cO P w K mg base 4 "_law_tree" ["pool","most"] (c9 mg K [true,false] sQ)
abbrev lM:Prop:=cO P w K mg base 3 "_law_ringed" ["pool","web"] (c9 mg K [true,false] pH)
abbrev nC:Prop:=cO P w K mg base 4 "_law_more" ["pool","web"] (c9 mg K [true,false] sG)
abbrev k7:Prop:=cO P w K mg base 1 "is_tree" ["web"] (c9 mg K [false] qQ)
abbrev lE:Prop:=cO P w K mg base 1 "_law_pieces" ["web","place"] (c9 mg K [false,false] sL)
abbrev iP:Prop:=cO P w K mg base 2 "refuse_no_tree" ["web"] (c9 mg K [false] xK)
abbrev iy:Prop:=cO P w K mg base 1 "refuse_no_place" ["web","place"] (c9 mg K [false,false] yF)
abbrev iz:Prop:=cO P w K mg base 1 "neighbour_lists" ["web"] (c9 mg K [false] xR)
abbrev jK:Prop:=cO P w K mg base 1 "piece_behind" ["lists","place","neighbour"] (c9 mg K [false,false,false] xW)
abbrev ju:Prop:=cO P w K mg base 3 "pieces_at" ["web","place"] (c9 mg K [false,false] mZ)
abbrev j4:Prop:=cO P w K mg base 4 "_law_refused" ["web","place"] (c9 mg K [false,false] sV)
end
section
variable{P:Program}{w:World}{K:Frag}{mg:QE}{base:Heap}
abbrev ji:Stmt:=top 17
def jk:bA ["script","many","cells","k","cell"] ["script","many"] (aA ji):=by ac_rfl
def uH(T:Txt K mg)(r:Rec K "_law_cells" ji):mQ P w K mg base:=
 cz T.ns r (by ac_nf) λF=>cV (m:=3) F jk rfl (by decide) (d:=fR) (λcdv A outer s H Ex hr=>have hu:=hr.units;aj (bL 2 jk.nd (DN T.list (aE (GB (aP 0 (aP 1 a0))) a0))) (aj (lD NG jk.nd (Lc T.enumerate (Hi (aP 0 (aP 1 (aE (xI) a0))))) (gT (gC 3 (gC 4 g0))) (au (B8 2 hu (je (aE (oU (aE (bV hu (aP 2 (aE (jQ (aP 3 (aP 1 a0))) a0))) (aE (xI) a0))) (aP 4 a0))) (jQ (aP 3 (aP 1 a0)))))) (au (sP 2)))) PB.A9
abbrev jY:Stmt:=top 18
def fN:bA ["cells","k","cell","rest"] ["cells","k"] (aA jY):=by ac_rfl
def vB(T:Txt K mg)(r:Rec K "_law_pool" jY):nN P w K mg base:=
 cz T.ns r (by ac_nf) λF=>cV (m:=2) F fN rfl (by decide) (d:=gi) (λcdv A outer s H Ex hr=>have hu:=hr.units;aj (bL 2 fN.nd (xI)) (sZ (iT (bP.st (Kr (aE (qN T.len (aP 0 a0)) (aE (xI) a0)))) (au (bL 2 fN.nd (je (aE (bV hu (aP 0 (aE (jQ (aP 1 (aE (qN T.len (aP 0 a0)) a0))) a0))) (aE (yl (aP 1 (aE (qN T.len (aP 0 a0)) a0))) a0))))) (cE)) (aj (bL 3 fN.nd (xI)) (sZ (iT (bP.st (kr.rS (qf (Ko (aP 2 (aE (xI) a0))) (iY (LU (aP 2 (aE (Bw (aE (xI) (aE (xI) a0))) a0))))))) (au (bL 3 fN.nd (Lm T.abs (aP 2 a0)))) (cE)) (au (dF (fV (aP 3 (aE (jQ (aE (je (aE (oU (aE (jQ (aP 2 (aE (xI) a0))) (aE (xI) a0))) (aE (oU (aE (oU (aE (xI) (aE (je (aP 1 (aE (xI) a0))) a0))) (aE (je (aP 1 (aE (xI) a0))) a0))) a0))) (aE (xI) a0))) a0))))))))) PB.EG
abbrev jO:Stmt:=top 19
def nA:bA ["pool","many","found"] ["pool","many"] (aA jO):=by ac_rfl
def vh(T:Txt K mg)(r:Rec K "_law_take" jO):fP P w K mg base:=
 cz T.ns r (by ac_nf) λF=>cV (m:=1) F nA rfl (by decide) (d:=gj) (λcdv A outer s H Ex hr=>have hu:=hr.units;aj (iT (bP.st (Kr (aE (bV hu (aP 0 (aE (xI) a0))) (aE (xI) a0)))) (aj (bL 2 nA.nd (jQ (aE (bV hu (aP 0 (aE (xI) a0))) (aP 1 a0)))) (aj (B8 0 hu (yl (aE (bV hu (aP 0 (aE (xI) a0))) (aP 1 a0))) (xI)) (au (sP 2)))) (cE)) (aj (B8 0 hu (jQ (aE (je (aE (oU (aE (bV hu (aP 0 (aE (xI) a0))) (aE (xI) a0))) (aE (xI) a0))) (aE (xI) a0))) (xI)) (au (dF (jQ (aE (yl (aE (jQ (aE (oU (aE (jQ (aE (oU (aE (bV hu (aP 0 (aE (xI) a0))) (aE (bV hu (aP 0 (aE (xI) a0))) a0))) (aE (xI) a0))) (aE (xI) a0))) (aE (xI) a0))) (aE (xI) a0))) (aP 1 a0))))))) PB.DQ
abbrev jR:Stmt:=top 20
def nE:bA ["pool","menu","many","rest"] ["pool","menu","many"] (aA jR):=by ac_rfl
def vD(T:Txt K mg)(h0:fP P w K mg base)(r:Rec K "_law_some" jR):gZ P w K mg base:=
 cz T.ns r (by ac_nf) λF=>cV (m:=2) F nE rfl (by decide) (d:=gn gY) (λcdv A outer s H Ex hr=>aj (bL 3 nE.nd (DN T.list (aP 1 a0))) (au (dF (mC (vs:=["k"]) (NB:=["k","rest","pool"]) (ix:=[3,0]) (by rfl) (wQ T.range (aP 2 a0)) (λ_ _ _ _=>gN 0) (λ_ _ _ _=>.nil) (λ_ _ _ _ _=>iW (xM 1 w5 vS PySem.F.slot_list_pop PySem.F.type_list_pop (eC (bg h0 sI hr (aP 2 (aE (qN T.len (aP 1 a0)) a0))) e0))))))) PB.DY
abbrev jy:Stmt:=top 21
def lV:bA ["pool","many","ties","names"] ["pool","many","ties"] (aA jy):=by ac_rfl
def uR(T:Txt K mg)(h0:gZ P w K mg base)(r:Rec K "_law_named" jy):l9 P w K mg base:=
 cz T.ns r (by ac_nf) λF=>cV (m:=3) F lV rfl (by decide) (d:=fU jB) (λcdv A outer s H Ex hr=>have hu:=hr.units;aj (bL 3 lV.nd (bg h0 bF hr (aP 0 (aE (qu T.list T.range (aP 1 a0)) (aP 1 a0))))) (au (dF (jd (aP 1 (aE (Ao T.tuple (aE (Gj T.sorted (aE (mC (vs:=["a","b"]) (NB:=["a","b","names"]) (ix:=[3]) (by rfl) (iB (xV 2)) (λ_ _ _ _=>gT (gC 0 (gC 1 g0))) (λ_ _ _ _=>.nil) (λ_ _ _ _ _=>iW (jd (aE (Cb T.min (aE (bV hu (aP 2 (aP 0 a0))) (aE (bV hu (aP 2 (aP 1 a0))) a0))) (aE (BF T.max (aE (bV hu (aP 2 (aP 0 a0))) (aE (bV hu (aP 2 (aP 1 a0))) a0))) a0))))) a0)) a0)) a0)))))) PB.D0
abbrev jV:Stmt:=top 22
def d9:bA ["pool","most","many","shape","ties","k","ahead"] ["pool","most"] (aA jV):=by ac_rfl
def vC(T:Txt K mg)(h0:fP P w K mg base)(h1:l9 P w K mg base)(r:Rec K "_law_tree" jV):nL P w K mg base:=
 cz T.ns r (by ac_nf) λF=>cV (m:=5) F d9 rfl (by decide) (d:=gz gY sO) (λcdv A outer s H Ex hr=>have hu:=hr.units;aj (bL 2 d9.nd (je (aE (xI) (aE (bg h0 bF hr (aP 0 (aP 1 a0))) a0)))) (aj (bL 3 d9.nd (bg h0 bF hr (aP 0 (aE (xI) a0)))) (aj (bL 4 d9.nd (fV a0)) (aj (lD NG d9.nd (LS T.range (aE (xI) (aP 2 a0))) (gN 5) (aj (bL 6 d9.nd (fV (aE (oM (aP 5 (aE (xI) a0))) (aE (xI) (aE (bg h0 bF hr (aP 0 (aP 5 a0))) (aE (BF T.max (aE (xI) (aE (oM (aE (oM (aP 5 (aE (xI) a0))) (aE (bg h0 bF hr (aP 0 (aE (xI) a0))) a0))) a0))) (aE (bg h0 bF hr (aP 0 (aE (Cb T.min (aP 5 (aE (xI) a0))) a0))) a0))))))) (au (m7 (xM 4 f7 iU OF OG (eC (jd (aE (bV hu (aE (je (aP 6 (aE (fV (aE (yl (aE (oM (aP 5 (aE (xI) a0))) (aE (xI) a0))) a0)) a0))) (aP 3 a0))) (aP 5 a0))) e0)))))) (au (dF (bg h1 bF hr (aP 0 (aP 2 (aP 4 a0)))))))))) PB.Ey
abbrev iI:Stmt:=top 23
def iM:bA ["pool","web","one","other"] ["pool","web"] (aA iI):=by ac_rfl
def sE(T:Txt K mg)(h0:gZ P w K mg base)(r:Rec K "_law_ringed" iI):lM P w K mg base:=
 cz T.ns r (by ac_nf) λF=>cV (m:=2) F iM rfl (by decide) (d:=fD jB) (λcdv A outer s H Ex hr=>have hu:=hr.units;aj (lD NG iM.nd (iB (bg h0 bF hr (aP 0 (aE (qu T.list T.range (aE (bV hu (aP 1 (aE (xI) a0))) a0)) (aE (bV hu (aP 1 (aE (xI) a0))) a0))))) (gN 2) (au (lD NG iM.nd (wQ T.range (aE (bV hu (aP 1 (aE (xI) a0))) a0)) (gN 3) (au (iT (bP.st (kr.rS (qC (Ko (aP 2 (aP 3 a0))) (iY (GZ hu (aE (jd (aP 2 (aP 3 a0))) (aE (bV hu (aP 1 (aE (xI) a0))) a0))))))) (au (dF (jd (aE (bV hu (aP 1 (aE (xI) a0))) (aE (Ao T.tuple (aE (IS T.sorted (aE (je (aE (bV hu (aP 1 (aE (xI) a0))) (aE (jd (aE (jd (aP 2 (aP 3 a0))) a0)) a0))) a0)) a0)) a0))))) (cE)))))) (au (dF (xN)))) PB.Fq
abbrev jW:Stmt:=top 26
def ef:bA ["pool","web","found","turn","beyond"] ["pool","web"] (aA jW):=by ac_rfl
def vt(T:Txt K mg)(h0:lM P w K mg base)(h1:fP P w K mg base)(r:Rec K "_law_more" jW):nC P w K mg base:=
 cz T.ns r (by ac_nf) λF=>cV (m:=3) F ef rfl (by decide) (d:=gy pH gY) (λcdv A outer s H Ex hr=>have hu:=hr.units;aj (bL 2 ef.nd (bg h0 bF hr (aP 0 (aP 1 a0)))) (aj (lD NG ef.nd (wQ T.range (aE (bV hu (aE (fV (aE (xI) (aE (xI) (aE (xI) (aE (xI) (aE (xI) a0)))))) (aE (bg h1 bF hr (aP 0 (aE (xI) a0))) a0))) a0)) (gN 3) (aj (bL 4 ef.nd (xN)) (sZ (iT (bP.st (xO (aP 2 (aE (xN) a0)))) (au (bL 4 ef.nd (bg h0 bF hr (aP 0 (aP 2 a0))))) (cE)) (au (iT (bP.st (xO (aP 4 (aE (xN) a0)))) (au (bL 2 ef.nd (xV 4))) (cE)))))) (au (sP 2)))) PB.Et
abbrev kO:Stmt:=top 12
def pJ:bA ["web","many","ties"] ["web"] (aA kO):=by ac_rfl
def yi(T:Txt K mg)(r:Rec K "is_tree" kO):k7 P w K mg base:=
 cz T.ns r (by ac_nf) λF=>cV (m:=2) F pJ rfl (by decide) (d:=mK) (λcdv A outer s H Ex hr=>have hu:=hr.units;aj (Ba pJ.nd (gC 1 (gC 2 g0)) (xV 0)) (au (dF (KC hu (aE (qN T.len (aP 2 a0)) (aE (oM (aP 1 (aE (xI) a0))) a0)))))) PB.HX
abbrev iL:Stmt:=top 24
def cQ:bA ["web","place","label","a","b","gone","starts"] ["web","place"] (aA iL):=by ac_rfl
def sA(T:Txt K mg)(r:Rec K "_law_pieces" iL):lE P w K mg base:=
 cz T.ns r (by ac_nf) λF=>cV (m:=7) F cQ rfl (by decide) (d:=fG) (λcdv A outer s H Ex hr=>have hu:=hr.units;aj (bL 2 cQ.nd (qu T.list T.range (aE (bV hu (aP 0 (aE (xI) a0))) a0))) (aj (lD NG cQ.nd (iB (bV hu (aP 0 (aE (xI) a0)))) (gT (gC 3 (gC 4 g0))) (au (iT (bP.st (GZ hu (aP 1 (aE (jd (aP 3 (aP 4 a0))) a0)))) (aj (bL 5 cQ.nd (bV hu (aP 2 (aP 4 a0)))) (au (bL 2 cQ.nd (mC (vs:=["one"]) (NB:=["one","gone","label","a"]) (ix:=[5,2,3]) (by rfl) (iB (xV 2)) (λ_ _ _ _=>gN 0) (λ_ _ _ _=>.nil) (λ_ _ _ _ _=>iW (JF (bP.st (Kw hu (aP 0 (aP 1 a0)))) (bV hu (aP 2 (aP 3 a0))) (xV 0))))))) (cE)))) (aj (bL 6 cQ.nd (zB T.sorted (aE (mC (vs:=["a","b"]) (NB:=["a","b","place"]) (ix:=[1]) (by rfl) (iB (bV hu (aP 0 (aE (xI) a0)))) (λ_ _ _ _=>gT (gC 0 (gC 1 g0))) (λ_ _ _ _=>.one (bP.st (LA hu (aP 2 (aE (jd (aP 0 (aP 1 a0))) a0))))) (λ_ _ _ _ _=>iW (oM (aE (je (aP 0 (aP 1 a0))) (aP 2 a0))))) a0))) (au (dF (Lb (cx:="start") (vs:=["start"]) (NB:=["start","web","label"]) (ix:=[0,2]) (by rfl) (iB (xV 6)) (λ_ _ _ _ _=>gN 0) (λ_ _ _ _ _=>.nil) (λ_ _ _ _ _ _=>iW (mC (vs:=["one"]) (NB:=["one","label","start"]) (ix:=[2,0]) (by rfl) (wQ T.range (aE (bV hu (aP 1 (aE (xI) a0))) a0)) (λ_ _ _ _=>gN 0) (λ_ _ _ _=>.one (bP.st (Kw hu (aE (bV hu (aP 1 (aP 0 a0))) (aE (bV hu (aP 1 (aP 2 a0))) a0))))) (λ_ _ _ _ _=>iW (xV 0)))))))))) PB.FF
abbrev fJ:Stmt:=top 13
def nu:bA ["web"] ["web"] (aA fJ):=by ac_rfl
def ny(T:Txt K mg)(h0:k7 P w K mg base)(r:Rec K "refuse_no_tree" fJ):iP P w K mg base:=
 cz T.ns r (by ac_nf) λF=>cV (m:=0) F nu rfl (by decide) (d:=fQ qQ) (λcdv A outer s H Ex hr=>au (iT (Hx (bP.st (Dh (bg h0 bF hr (aP 0 a0))))) (au (vH T.Hv)) (cE))) PB.GH
abbrev eF:Stmt:=top 10
def mL:bA ["web","place"] ["web","place"] (aA eF):=by ac_rfl
def mh(T:Txt K mg)(r:Rec K "refuse_no_place" eF):iy P w K mg base:=
 cz T.ns r (by ac_nf) λF=>cV (m:=0) F mL rfl (by decide) (d:=fL) (λcdv A outer s H Ex hr=>have hu:=hr.units;au (iT (Hx (bP.st (AO JV DL rfl (xI) (xV 1) (bV hu (aP 0 (aE (xI) a0)))))) (au (vH T.Fd)) (cE))) PB.Gx
abbrev eS:Stmt:=top 9
def cU:bA ["web","many","ties","lists","one","other"] ["web"] (aA eS):=by ac_rfl
def lP(T:Txt K mg)(r:Rec K "neighbour_lists" eS):iz P w K mg base:=
 cz T.ns r (by ac_nf) λF=>cV (m:=6) F cU rfl (by decide) (d:=fF) (λcdv A outer s H Ex hr=>aj (Ba cU.nd (gC 1 (gC 2 g0)) (xV 0)) (aj (K8 (j:=3) cU.nd (vs:=["place"]) (NB:=["place"]) (ix:=[]) (by rfl) (wQ T.range (aP 1 a0)) (λ_ _ _ _=>gN 0) (λ_ _ _ _=>.nil) (λ_ _ _ _=>fV a0)) (aj (lD NG cU.nd (iB (xV 2)) (gT (gC 4 (gC 5 g0))) (aj (m7 (Kh 3 5 f7 iU OF OG (xV 4))) (au (m7 (Kh 3 4 f7 iU OF OG (xV 5)))))) (au (sP 3))))) PB.Ib
abbrev gp:Stmt:=top 14
def cZ:bA ["lists","place","neighbour","piece","steps","last","here"] ["lists","place","neighbour"] (aA gp):=by ac_rfl
def pB(T:Txt K mg)(r:Rec K "piece_behind" gp):jK P w K mg base:=
 cz T.ns r (by ac_nf) λF=>cV (m:=5) F cZ rfl (by decide) (d:=gX) (λcdv A outer s H Ex hr=>have hu:=hr.units;aj (bL 3 cZ.nd (fV a0)) (aj (bL 4 cZ.nd (fV (aE (jd (aP 1 (aP 2 a0))) a0))) (aj (Gz NG (tV 4) (aj (Ba cZ.nd (gC 5 (gC 6 g0)) (xM 4 w5 vS PySem.F.slot_list_pop PySem.F.type_list_pop (e0))) (aj (m7 (xM 3 f7 iU OF OG (eC (xV 6) e0))) (au (K3 4 cZ.nd (mC (vs:=["there"]) (NB:=["there","here","last"]) (ix:=[6,5]) (by rfl) (iB (bV hu (aP 0 (aP 6 a0)))) (λ_ _ _ _=>gN 0) (λ_ _ _ _=>.one (bP.st (we hu (aP 0 (aP 2 a0))))) (λ_ _ _ _ _=>iW (jd (aP 1 (aP 0 a0)))))))))) (au (dF (zB T.sorted (aP 3 a0))))))) PB.HA
abbrev jv:Stmt:=top 15
def mj:bA ["web","place","lists"] ["web","place"] (aA jv):=by ac_rfl
def ug(T:Txt K mg)(h0:iP P w K mg base)(h1:iy P w K mg base)(h2:iz P w K mg base)(h3:jK P w K mg base)(r:Rec K "pieces_at" jv):ju P w K mg base:=
 cz T.ns r (by ac_nf) λF=>cV (m:=2) F mj rfl (by decide) (d:=i9 xK yF xR xW) (λcdv A outer s H Ex hr=>have hu:=hr.units;aj (m7 (bg h0 bF hr (aP 0 a0))) (aj (m7 (bg h1 bF hr (aP 0 (aP 1 a0)))) (aj (bL 2 mj.nd (bg h2 bF hr (aP 0 a0))) (au (dF (K9 (vs:=["neighbour"]) (NB:=["neighbour","lists","place"]) (ix:=[2,1]) (by rfl) (iB (bV hu (aP 2 (aP 1 a0)))) (λ_ _ _ _=>gN 0) (λ_ _ _ _=>.nil) (λ_ _ _ _=>bg h3 sI hr (aP 1 (aP 2 (aP 0 a0)))))))))) PB.DW
abbrev gQ:Stmt:=top 25
def dm:bA ["web","place","caught","e","kinds"] ["web","place"] (aA gQ):=by ac_rfl
def q9(T:Txt K mg)(h0:ju P w K mg base)(r:Rec K "_law_refused" gQ):j4 P w K mg base:=
 cz T.ns r (by ac_nf) λF=>cV (m:=3) F dm rfl (by decide) (d:=cT mZ) (λcdv A outer s H Ex hr=>have hu:=hr.units;aj (bL 2 dm.nd (xN)) (aj (IW T.ns T.vq dm.nd (ES h0 hr (λ_ _=>aP 0 (aP 1 a0))) (λ_=>au (bL 2 dm.nd (xV 3)))) (aj (bL 4 dm.nd (fV (aE (Bp T.ns T.kx T.kc T.isinstance (aP 2 a0)) (aE (Bp T.ns T.kx T.kc T.isinstance (aP 2 a0)) a0)))) (aj (iT (bP.st (kr.rS (qf (Dh (Ju T.ns T.kx T.kc T.isinstance (aP 2 a0) (.cons (by decide) (by rfl) (.cons (by decide) (by rfl) (.cons (by decide) (by rfl) (.cons (by decide) (by rfl) .nil)))))) (qf (vQ (Dh (Bp T.ns T.kx T.kc T.isinstance (aP 2 a0)))) (iY (we hu (aE (Ji T.sum (aP 4 a0)) (aE (xI) a0)))))))) (au (dF (xN))) (cE)) (au (dF (Je 4))))))) PB.EC
abbrev uM:Stmt:=top 27
def eW:bA ["script","cells","k","pool","web","place","due","found","piece","strangers","other"] ["script"] (aA uM):=by ac_rfl
def Gv(T:Txt K mg)(h0:mQ P w K mg base)(h1:nN P w K mg base)(h2:nL P w K mg base)(h3:fP P w K mg base)(h4:k7 P w K mg base)(h5:gZ P w K mg base)(h6:lE P w K mg base)(h7:ju P w K mg base)(h8:j4 P w K mg base)(h9:nC P w K mg base){f:Addr}{fd:FuncData}(F:qg K "law" "law" uM f fd):eT P w K mg base (dP P w) 5 f fd ["script"] (c9 mg K [false] q8):=
 cV (m:=11) F eW rfl (by decide) (d:=kN pZ sJ sQ gY qQ jB sL mZ sV sG) (λcdv A outer s H Ex hr=>have hu:=hr.units;aj (bL 1 eW.nd (bg h0 bF hr (aP 0 (aE (xI) a0)))) (aj (lD NG eW.nd (wQ T.range (aE (BF T.max (aE (xI) (aE (qN T.len (aP 1 a0)) a0))) a0)) (gN 2) (aj (bL 3 eW.nd (bg h1 bF hr (aP 1 (aP 2 a0)))) (aj (bL 4 eW.nd (bg h2 bF hr (aP 3 (aE (bV hu (aE (fV (aE (xI) (aE (xI) a0))) (aE (K7 T.int (aE (KC hu (aE (bg h3 bF hr (aP 3 (aE (xI) a0))) (aE (xI) a0))) a0)) a0))) a0)))) (aj (iT (bP.st (Gm (aE (bg h4 bF hr (aP 4 a0)) (aE (xB) a0)))) (au (dF (xB))) (cE)) (aj (lD NG eW.nd (iB (bg h5 bF hr (aP 3 (aE (qu T.list T.range (aE (bV hu (aP 4 (aE (xI) a0))) a0)) (aE (Cb T.min (aE (bV hu (aP 4 (aE (xI) a0))) (aE (xI) a0))) a0))))) (gN 5) (aj (bL 6 eW.nd (bg h6 bF hr (aP 4 (aP 5 a0)))) (aj (bL 7 eW.nd (bg h7 bF hr (aP 4 (aP 5 a0)))) (aj (iT (bP.st (kr.rS (qf (vQ (Dh (KR T.kit T.isinstance T.list Py (aP 7 a0)))) (iY (we hu (aP 7 (aP 6 a0))))))) (au (dF (xB))) (cE)) (aj (IX 7 8 NG eW.nd) (aj (Jt 7 (fV a0)) (au (iT (bP.st (we hu (aE (bg h7 bF hr (aP 4 (aP 5 a0))) (aP 6 a0)))) (au (dF (xB))) (cE))))))))) (aj (bL 9 eW.nd (fV (aE (BK (aE (xI) a0)) (aE (bV hu (aP 4 (aE (xI) a0))) (aE (je (aE (bV hu (aP 4 (aE (xI) a0))) (aE (bg h3 bF hr (aP 3 (aE (Bw (aE (xI) (aE (xI) a0))) a0))) a0))) (aE (oM (aE (BK (aE (xI) a0)) (aE (bg h3 bF hr (aP 3 (aE (Bw (aE (xI) (aE (xI) a0))) a0))) a0))) a0)))))) (aj (iT (bP.st (we hu (aE (mC (vs:=["place"]) (NB:=["place","web"]) (ix:=[4]) (by rfl) (iB (xV 9)) (λ_ _ _ _=>gN 0) (λ_ _ _ _=>.nil) (λ_ _ _ _ _=>iW (bg h8 sI hr (aP 1 (aP 0 a0))))) (aE (fV (aE (xI) (aE (xI) (aE (xI) (aE (xI) a0))))) a0)))) (au (dF (xB))) (cE)) (aj (bL 10 eW.nd (bg h9 bF hr (aP 3 (aP 4 a0)))) (aj (iT (bP.st (kr.rS (qC (xO (aP 10 (aE (xN) a0))) (iY (Gm (aE (bg h4 bF hr (aP 10 a0)) (aE (xB) a0))))))) (au (dF (xB))) (cE)) (au (iT (bP.st (kr.rS (qC (xO (aP 10 (aE (xN) a0))) (iY (we hu (aE (mC (vs:=["place"]) (NB:=["place","other"]) (ix:=[10]) (by rfl) (iB (fV (aE (xI) (aE (BK (aE (xI) a0)) (aE (bV hu (aP 4 (aE (xI) a0))) a0))))) (λ_ _ _ _=>gN 0) (λ_ _ _ _=>.nil) (λ_ _ _ _ _=>iW (bg h8 sI hr (aP 1 (aP 0 a0))))) (aE (fV (aE (xI) (aE (xI) (aE (xI) a0)))) a0))))))) (au (dF (xB))) (cE)))))))))))) (au (dF (xB))))) PB.Bc
end
def all_mk{l:OpenLaw}{w:World}{K:Frag}{h:Heap}{mg:QE}{fa:Addr}(X:K.In h)(G:h.Ns mainGlobals mg)(hfa:mg "law"=some (.ref fa))(qd00:Rec K "_law_cells" ji)(qd01:Rec K "_law_pool" jY)(qd02:Rec K "_law_take" jO)(qd03:Rec K "_law_some" jR)(qd04:Rec K "_law_named" jy)(qd05:Rec K "_law_tree" jV)(qd06:Rec K "_law_ringed" iI)(qd07:Rec K "_law_more" jW)(qd08:Rec K "is_tree" kO)(qd09:Rec K "_law_pieces" iL)(qd10:Rec K "refuse_no_tree" fJ)(qd11:Rec K "refuse_no_place" eF)(qd12:Rec K "neighbour_lists" eS)(qd13:Rec K "piece_behind" gp)(qd14:Rec K "pieces_at" jv)(qd15:Rec K "_law_refused" gQ)(qd16:Rec K "law" uM)(zabs:nsIn K mainGlobals "abs"=some none)(zenumerate:nsIn K mainGlobals "enumerate"=some none)(zint:nsIn K mainGlobals "int"=some none)(zisinstance:nsIn K mainGlobals "isinstance"=some none)(zlen:nsIn K mainGlobals "len"=some none)(zlist:nsIn K mainGlobals "list"=some none)(zmax:nsIn K mainGlobals "max"=some none)(zmin:nsIn K mainGlobals "min"=some none)(zrange:nsIn K mainGlobals "range"=some none)(zsorted:nsIn K mainGlobals "sorted"=some none)(zsum:nsIn K mainGlobals "sum"=some none)(ztuple:nsIn K mainGlobals "tuple"=some none)(xNoPlace:BB K "NoPlace")(xNoTree:BB K "NoTree")(kit:tE K ["list"]=true)(ykx:wc K ["NoPlace","NoTree"] ["NoLooks","NoPlace","NoSuch","NoThing","NoTree","NotOne","ValueError"]=true)(ykc:vd K ["NoLooks","NoPlace","NoSuch","NoThing","NoTree","NotOne","ValueError"]=true)(yexHailError:zT K ["NoPlace","NoTree"] "HailError"=true) : ∃fd:FuncData,(∀(s:Shared)(v:Value),BindsTo s fd ⟨[v],[]⟩ [("script",v)])/\∀base:Heap,K.In base->base.Ns mainGlobals mg->eT l.prog w K mg base (dP l.prog w) 5 fa fd ["script"] (c9 mg K [false] q8):=by have T:Txt K mg:=⟨N1 X G zabs,N1 X G zenumerate,N1 X G zint,N1 X G zisinstance,N1 X G zlen,N1 X G zlist,N1 X G zmax,N1 X G zmin,N1 X G zrange,N1 X G zsorted,N1 X G zsum,N1 X G ztuple,(let⟨C,h1,h2⟩:=xNoPlace;⟨C,mg_of X G h1,h2⟩),(let⟨C,h1,h2⟩:=xNoTree;⟨C,mg_of X G h1,h2⟩),kit,ykx,ykc,yexHailError,⟨h,X,G⟩⟩;obtain⟨fl,fdl,nl,Fl⟩:=qd16;have e:=hfa.symm.trans (mg_of X G nl);cases e;refine⟨fdl,?_,λbase _ _=>?_⟩;{obtain⟨_,_,_,_,_,_,_,_,_,rfl,_,_⟩:=Fl.ex;exact λs v=>.of_eq rfl};have Hd00:=uH (P:=l.prog) (w:=w) (base:=base) T qd00;have Hd01:=vB (P:=l.prog) (w:=w) (base:=base) T qd01;have Hd02:=vh (P:=l.prog) (w:=w) (base:=base) T qd02;have Hd03:=vD T Hd02 qd03;have Hd04:=uR T Hd03 qd04;have Hd05:=vC T Hd02 Hd04 qd05;have Hd06:=sE T Hd03 qd06;have Hd07:=vt T Hd06 Hd02 qd07;have Hd08:=yi (P:=l.prog) (w:=w) (base:=base) T qd08;have Hd09:=sA (P:=l.prog) (w:=w) (base:=base) T qd09;have Hd10:=ny T Hd08 qd10;have Hd11:=mh (P:=l.prog) (w:=w) (base:=base) T qd11;have Hd12:=lP (P:=l.prog) (w:=w) (base:=base) T qd12;have Hd13:=pB (P:=l.prog) (w:=w) (base:=base) T qd13;have Hd14:=ug T Hd10 Hd11 Hd12 Hd13 qd14;have Hd15:=q9 T Hd14 qd15;exact Gv T Hd00 Hd01 Hd05 Hd02 Hd08 Hd03 Hd09 Hd14 Hd15 Hd07 Fl
def walk{l:OpenLaw}{q:Program}{loose:QY}{XP:(QE)->Heap->Prop}{YP:World->Heap->Prop}{d:DefRec}{K:Params->Frag}(hn:l.most=some 63)(hdf:d.params.defaults=[])(hY:∀(w:World)(h:Heap),YP w h->(K w.params).In h)(F:∀(w:World)(mg:QE)(fa:Addr)(h:Heap),(K w.params).In h->h.Ns mainGlobals mg->mg d.name=some (.ref fa)-> ∃fd:FuncData,(∀(s:Shared)(u:Value),BindsTo s fd ⟨[u],[]⟩ [("script",u)])/\∀base:Heap,(K w.params).In base->base.Ns mainGlobals mg->eT l.prog w (K w.params) mg base (dP l.prog w) 5 fa fd ["script"] (c9 mg (K w.params) [false] q8)) : WalkO q loose XP YP l.row.toRowW d [] (λf vs=>PySem.call f vs):=yG hn hdf ⟨rfl,by decide,by decide⟩ hY F
end Io
open PySem PySem.W PyProof.Rows Dv
set_option maxRecDepth 100000 in
set_option maxHeartbeats 0 in
theorem PySem.Challenge.cw_farhail_k18_trees_and_pieces_holds : PySem.Challenge.rw_farhail_k18_trees_and_pieces.Holds := by
 w_on;o_law;k_head;(case hw=>w_witness2)
 k_fill
 refine Io.walk (l:=PySem.Challenge.rw_farhail_k18_trees_and_pieces) rfl rfl (λw h Qi=>PySem.W.kIn_of Qi) ?F
 case F=>
  intro w mg fa h KX G hmg
  refine' Io.all_mk KX G hmg ?_ ?_ ?_ ?_ ?_ ?_ ?_ ?_ ?_ ?_ ?_ ?_ ?_ ?_ ?_ ?_ ?_ ?_ ?_ ?_ ?_ ?_ ?_ ?_ ?_ ?_ ?_ ?_ ?_ ?_ ?_ ?_ ?_ ?_ ?_
  iterate 17
   apply IC
   iterate 4 (first|k_is|kernel_rfl)
  iterate 12
   first|k_is|kernel_rfl
  iterate 2
   apply EN
   iterate 2 (first|k_is|kernel_rfl)
  all_goals first|kernel_rfl|k_is
