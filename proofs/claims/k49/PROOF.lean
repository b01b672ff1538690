import PyProof.Rows.All
import PySem.PyData
import Wide.All
import OpenK.AllK
import Wide.FinOn
import Lean
import PyProof.EqAt
import PyProof.EqKinds
import PyProof.TupleCall
import PyProof.SetKind
import PyProof.TupleKey
import PyProof.IsRules
import PyProof.SetRoads
import PyProof.DictKinds
import PyProof.RaisesMany
import PyProof.RulesTry
import PyProof.ExcClass2
import KE.KTryMore
import PyProof.RulesAs
import PyProof.NsDelKeeps
import KE.KDictList
import PyProof.P3In
import PyProof.Rows.SortShellK
import PyProof.TupleOfSeq
import PyProof.WalkInts
import PyProof.SeqI3
import PyProof.SumAnyB
import PyProof.Rows.SeqWords
import PyProof.ListRange
import PyProof.DictValues
import PyProof.DictWalks
import PyProof.NeKinds
import PyProof.FactsAll.list_2
import PyProof.EvalArms
import PyProof.Rows.SetObj
import KE.KRevIter
import PyProof.Rows.IntMath
import PyProof.Draws
import PyProof.ZipIter
import PyProof.EnumMake
import PySem.Challenge.RW_farhail_k49_whole_shares_of_known_webs
set_option linter.all false
local macro_rules | `(tactic| ac_rfl) => `(tactic| exact⟨rfl,rfl,rfl,by decide +kernel,rfl,by decide +kernel,by decide +kernel⟩)
set_option genSizeOf false
set_option genInjectivity false
section
open PySem
abbrev Uo:=List (PyData×PyData)
abbrev Up:=Array (Option Value)
abbrev Uq:=Value->Shared->Prop
abbrev Ur:=List Comprehension
abbrev Us:=Str->Option Value
abbrev Ut:=List (Addr×Obj)
abbrev Uu:=Array DictEntry
abbrev Uv:=Int->Int->Bool
abbrev Uw:=List (Nat×Nat)
abbrev Ux:=List (Int×Int)
abbrev Uy:=PySem.W.Frag
abbrev Uz:=Option Value
abbrev VA:=Array Value
abbrev VB:=List PyData
abbrev VC:=Option Addr
abbrev VD:=List Value
abbrev VE:=List Addr
abbrev VF:=List Bool
abbrev VG:=List Expr
abbrev VH:=List Stmt
abbrev VI:=List Nat
abbrev VJ:=List Int
abbrev VL:=List Str
end
section
open PySem PySem.Spec PyProof.Rows PySem.W
def Q0:=@wpAny_bind
def Q2:=@wpS_bind
def Q3:=@wpS_pure
def Q4:=@List.mem_cons_self
def Q5:=@List.length_map
def Q6:=@wpAny_pure
def Q7:=@Nat.le_refl
def Q8:=@List.mem_singleton
def Q9:=@List.mem_map
def QA:=@Bool.and_eq_true
def QB:=@List.mem_cons_of_mem
def QC:=@List.length_range
def QD:=@Heap.lt_size
def QE:=@List.length_append
def QF:=@List.getElem?_map
def QG:=@List.mem_cons
def QH:=@List.all_cons
def QI:=@List.size_toArray
def QJ:=@List.length_cons
def QK:=@List.getElem?_range
def QL:=@List.mem_append
def QM:=@List.mem_range
def QN:=@List.map_map
def QO:=@List.getElem?_eq_getElem
def QS:=@List.getD_eq_getElem?_getD
def QT:=@List.map_cons
def QU:=@Heap.get?_push_of_some
def QV:=@Nat.ne_of_lt
def QW:=@Bool.false_ne_true
def QX:=@List.length_set
def QY:=@List.all_eq_true
def QZ:=@List.map_append
def Qc:=@List.getElem?_eq_none
def Qd:=@Nat.le_trans
def Qg:=@Nat.lt_of_lt_of_le
def Qh:=@List.append_assoc
def Qi:=@List.mem_of_getElem?
def Qj:=@List.mem_flatMap
def Qk:=@wpS_mono
def Ql:=@wpS_forRange
def Qm:=@decide_eq_false
def Qn:=@Heap.get?_push_size
def Qo:=@Int.mul_zero
def Qp:=@decide_eq_true
def Qq:=@List.map_congr_left
def Qs:=@Int.mul_comm
def Qt:=@Nat.zero_le
def Qu:=@List.length_nil
def Qv:=@Array.toList_append
def Qw:=@List.ext_getElem?
def Qx:=@Nat.lt_irrefl
def Qy:=@Nat.lt_or_ge
def Qz:=@List.append_nil
def R8:=@List.lookup_cons
def R9:=@List.not_mem_nil
def RA:=@wpS_modify
def RB:=@PassesOwn.leaving
def RC:=@wpAny_mono
def RD:=@List.mem_append_right
def RE:=@List.nodup_cons
def RG:=@Int.le_trans
def RH:=@PySem.W.kia_one
def RI:=@List.length_replicate
def RJ:=@wpAny_rule
def RK:=@of_decide_eq_true
def RL:=@Int.le_of_eq
def RM:=@List.sum_cons
def RN:=@mg_none_of
def RO:=@List.length_drop
def RP:=@Heap.get?_update_other
def RQ:=@List.range_succ
def RS:=@List.getElem?_set
def RT:=@List.getElem?_set_ne
def RU:=@wpAny_holding
def RV:=@True.intro
def RW:=@List.length_take
def RX:=@wpAny_newObj_type
def RY:=@Nat.min_eq_left
def RZ:=@if_false
def Ra:=@Nat.add_assoc
def Rb:=@or_false
def Rc:=@List.take_length
def Rf:=@decide_eq_true_eq
def Rg:=@List.nodup_range
def Rh:=@Int.mul_left_comm
def Ri:=@Int.mul_assoc
def Rj:=@PySem.F.slot_list_append
def Rk:=@PySem.F.type_list_append
def Rm:=@List.getElem?_of_mem
def Rn:=@Bool.eq_iff_iff
def Ro:=@List.getElem?_set_self
def Rq:=@Array.length_toList
def Rr:=@Int.mul_one
def Rt:=@wpAny_field
def Ru:=@wpAny_call_entry
def Rv:=@List.nodup_nil
def Rw:=@wpS_lift
def Rx:=@List.nil_append
def Ry:=@Int.not_lt
def Rz:=@Nat.not_lt_zero
def S3:=@Nat.le_total
def S4:=@Nat.min_eq_right
def S5:=@Nat.le_add_right
def S6:=@List.filterMap_cons
def S7:=@wpAny_passesOwn
def S8:=@eq_of_beq
def S9:=@List.replicate_succ
def SA:=@List.any_cons
def SD:=@Option.map_eq_some_iff
def SG:=@List.Perm.append_left
def SH:=@List.perm_append_comm
def SJ:=@List.take_of_length_le
def SK:=@Array.getElem?_toList
def SN:=@List.cons_append
def SO:=@Classical.byContradiction
def SQ:=@List.getElem?_eq_some_iff
def SR:=@wpAny_truthy_bool
def SV:=@Nat.ne_of_gt
def SW:=@PyProof.Rows.callWith_type1
def SX:=@List.getElem?_append_left
def SY:=@Heap.get?_update_self
def Sa:=@List.flatten_cons
def Sb:=@call_meets
def Sd:=@List.find?_cons
def Se:=@List.take_append_drop
def Sf:=@Nat.add_sub_cancel_left
def Sg:=@List.length_pos_iff
def Sh:=@List.map_take
def Si:=@List.cons.injEq
def Sj:=@Nat.mod_lt
def Sk:=@Int.mul_sub
def Sl:=@Int.le_refl
def Sm:=@Int.le_of_lt
def Sn:=@Int.zero_mul
def So:=@List.contains_eq_mem
def Ss:=@Int.natCast_nonneg
def Su:=@Int.ofNat_lt
def Sv:=@List.mem_filter
def Sw:=@PySem.mem_of_lookup
def Sx:=@List.getElem?_append_right
def Sy:=@wpAny_typeOf
def Sz:=@tupleKind_room_in1
def T5:=@wpAny_setField
def T7:=@Nat.le_of_eq
def T8:=@Array.getElem?_eq_getElem
def T9:=@List.Perm.append_right
def TF:=@List.drop_zero
def TH:=@Bool.false_eq_true
def TJ:=@Nat.lt_succ_of_lt
def TM:=@intItems_at
def TN:=@List.sum_append
def TQ:=@Nat.lt_succ_self
def TR:=@List.getElem_mem
def TU:=@Bool.and_false
def TX:=@Heap.SameBut.update
def TY:=@List.set_comm
def TZ:=@Nat.mul_le_mul
def Tc:=@List.eq_nil_of_length_eq_zero
def Td:=@wpAny_execs_nil
def Te:=@List.of_mem_zip
def Tf:=@List.getElem?_replicate
def Ti:=@Int.toNat_natCast
def Tj:=@wpAny_callSpecial?_slot
def Tn:=@PyProof.Rows.slot_tuple_getitem
def To:=@Obj.data_mapFields
def Tp:=@Array.getElem?_eq_some_iff
def Tq:=@List.drop_of_length_le
def Tr:=@List.take_succ
def Tt:=@Array.toList_push
def Tu:=@listItems_at
def Tv:=@Nat.sub_zero
def Tw:=@List.getElem?_zipIdx
def Tz:=@List.find?_cons_of_pos
def U0:=@List.find?_cons_of_neg
def U1:=@List.nodup_append
def U3:=@wpAny_dictEntries
def U4:=@F.slot_dict_valueiterator_next
def U5:=@wpAny_typeNameOfWhole_valiter
def U6:=@wpAny_typeNameOf_valiter
def U7:=@List.cons_ne_nil
def U8:=@List.set_set
def U9:=@List.mem_map_of_mem
def UA:=@Int.add_zero
def UB:=@Int.mul_nonpos_of_nonpos_of_nonneg
def UC:=@Nat.mod_eq_of_lt
def UD:=@Int.mul_le_mul_of_nonneg_left
def UE:=@List.mem_filterMap
def UG:=@List.filterMap_append
def UH:=@Nat.max_eq_right
def UI:=@List.pairwise_map
def UJ:=@Heap.get?_none_of_le
def UK:=@List.mem_append_left
def UL:=@Array.find?_toList
def UM:=@PySem.W.kitx_list
def UN:=@wpAny_Call_Name_kw
def UO:=@Nat.min_le_right
def UP:=@Calls.callWith_builtin
def UQ:=@Option.isSome_map
def UR:=@Obj.isFreed_of_fields
def US:=@Array.toList_extract
def UT:=@List.extract_eq_take_drop
def UU:=@Array.toList_reverse
def UW:=@List.reverse_perm
def UX:=@Array.perm_iff_toList_perm
def UY:=@PyProof.Rows.boot_list
def UZ:=@Bool.not_eq_true'
def Ua:=@PySem.F.plainAttrs_list
def Ub:=@PyProof.Rows.boot_min
def Uc:=@wpAny_isOneOf_valiter
def Ud:=@List.flatMap_cons
def Ue:=@Nat.add_mul_mod_self_left
def Ug:=@List.range_succ_eq_map
def Uh:=@List.getElem?_inj
def Ui:=@PyProof.Rows.slot_tuple_getitem.lookup
def Uj:=@F.entry_dict_valueiterator_next
def Uk:=@F.args_dict_valueiterator_next_1
def Ul:=@Int.mul_le_mul_of_nonneg_right
def Um:=@List.flatten_replicate_singleton
end
noncomputable section
namespace PySem.W.Fast
noncomputable def tw9805098102086363959:=Nat
noncomputable def tw3738839267155573056:=Nat
noncomputable def tw2465591658001825948:=Nat
noncomputable def tw17080589879541234568:=Nat
noncomputable def tw982364403214084484:=Nat
noncomputable def tw2508623265847272280:=Nat
noncomputable def tw8849998946659035989:=Nat
noncomputable def tw12930183340279386610:=Nat
noncomputable def tw16534919663337074085:=Nat
noncomputable def tw7667004915274511076:=Nat
noncomputable def tw7217951276982026154:=Nat
noncomputable def tw12866710027478755046:=Nat
noncomputable def tw14351031398838642920:=Nat
noncomputable def tw14698513302893205736:=Nat
noncomputable def tw3966082065792666433:=Nat
noncomputable def tw18125069777265226165:=Nat
noncomputable def tw11865951879556687821:=Nat
noncomputable def tw11462205868198884154:=Nat
noncomputable def tw14798829326938958710:=Nat
noncomputable def tw17142242687800212258:=Nat
noncomputable def tw17719311755760695157:=Nat
noncomputable def tw3253093814356963778:=Nat
noncomputable def tw11408939746965945217:=Nat
noncomputable def tw7894844913486377939:=Nat
noncomputable def tw9304674785835731397:=Nat
noncomputable def tw597007208820040697:=Nat
noncomputable def tw7027572893411302721:=Nat
noncomputable def tw1075410799485121430:=Nat
noncomputable def tw2340141727643445326:=Nat
noncomputable def tw10641488118750453985:=Nat
noncomputable def tw11886195058111365116:=Nat
noncomputable def tw8552110799211483243:=Nat
noncomputable def tw17475681764947612884:=Nat
noncomputable def tw15852217983116164780:=Nat
noncomputable def tw3238014634510835388:=Nat
noncomputable def tw8720944870486361294:=Nat
noncomputable def tw8925230624952717156:=Nat
noncomputable def tw10470402641771078230:=Nat
noncomputable def tw16282561777940952831:=Nat
noncomputable def tw2488940279334554494:=Nat
noncomputable def tw12863091092012383393:=Nat
noncomputable def tw13664328328795897870:=Nat
noncomputable def tw2511133099234626434:=Nat
noncomputable def tw17995537621938735495:=Nat
noncomputable def tw915610446110372564:=Nat
noncomputable def tw9798394186555705142:=Nat
noncomputable def tw16424229478823222976:=Nat
noncomputable def tw1044097375379211884:=Nat
noncomputable def tw9681609575482900665:=Nat
noncomputable def tw4524294393037641519:=Nat
noncomputable def tw13739077556739468342:=Nat
noncomputable def tw18181393902106485564:=Nat
noncomputable def tw14477930120020467276:=Nat
noncomputable def tw14486119698568082271:=Nat
noncomputable def tw7579494097532321467:=Nat
noncomputable def tw8969348789304166799:=Nat
noncomputable def tw17550992913958311431:=Nat
noncomputable def tw16664696680464539648:=Nat
noncomputable def tw4168908039923232873:=Nat
noncomputable def tw487540510963422692:=Nat
noncomputable def tw2280857264039460317:=Nat
noncomputable def tw4306611706413740186:=Nat
noncomputable def tw2956074560557613146:=Nat
noncomputable def tw2566115365431647329:=Nat
noncomputable def tw4399057184625263804:=Nat
noncomputable def tw11811763332874917843:=Nat
noncomputable def tw2114350570687105336:=Nat
noncomputable def tw2917515673898319180:=Nat
noncomputable def tw3301533562361592857:=Nat
noncomputable def tw15943871447748162966:=Nat
noncomputable def tw387466345832008784:=Nat
noncomputable def tw10640282154492701354:=Nat
noncomputable def tw10770699924326166202:=Nat
noncomputable def tw11655369070297339471:=Nat
noncomputable def tw4223848084087977483:=Nat
noncomputable def tw14850363509970857641:=Nat
noncomputable def tw9857064345931726073:=Nat
noncomputable def tw1630908749354590572:=Nat
noncomputable def tw16992810699579011516:=Nat
noncomputable def tw4426143609505487971:=Nat
noncomputable def tw18363608271171965502:=Nat
noncomputable def tw14431434729410082898:=Nat
noncomputable def tw7952348343841035686:=Nat
noncomputable def tw8967970741071633827:=Nat
noncomputable def tw5154678419532337420:=Nat
noncomputable def tw10857390444248136880:=Nat
noncomputable def tw3696082409750253814:=Nat
noncomputable def tw5408203114088317164:=Nat
noncomputable def tw13050855742219786415:=Nat
noncomputable def tw1767601902921608427:=Nat
noncomputable def tw485764530840436954:=Nat
noncomputable def tw3632430795197813889:=Nat
noncomputable def tw13466461758784188085:=Nat
noncomputable def tw12974192695633544938:=Nat
noncomputable def tw13279737516655295413:=Nat
noncomputable def tw3949373623738797946:=Nat
noncomputable def tw11732916782270665425:=Nat
noncomputable def tw15538060861828559592:=Nat
noncomputable def tw11479646403361133935:=Nat
noncomputable def tw2666522434715827240:=Nat
noncomputable def tw2004587403688659779:=Nat
noncomputable def tw4486677097643016799:=Nat
noncomputable def tw8941811115390280560:=Nat
noncomputable def tw17147810230498254543:=Nat
noncomputable def tw15016152822218427169:=Nat
noncomputable def tw15454951873706589148:=Nat
noncomputable def tw9023956609491496640:=Nat
noncomputable def tw11961544187361409397:=Nat
noncomputable def tw1947676960604535859:=Nat
noncomputable def tw6774270486572287279:=Nat
noncomputable def tw5501803081841602946:=Nat
noncomputable def tw9660827535644463905:=Nat
noncomputable def tw13749360415273113162:=Nat
noncomputable def tw12091332796416423410:=Nat
noncomputable def tw18000610476689023163:=Nat
noncomputable def tw5690090098407293817:=Nat
noncomputable def tw14392097405765577121:=Nat
noncomputable def tw17341047901217801376:=Nat
noncomputable def tw16112471953526519332:=Nat
noncomputable def tw2111169039654711456:=Nat
noncomputable def tw5353934871119241520:=Nat
noncomputable def tw9394350467800495818:=Nat
noncomputable def tw16534706156154705023:=Nat
noncomputable def tw2081421023107262535:=Nat
noncomputable def tw16801459585684858889:=Nat
noncomputable def tw6860163032984526133:=Nat
noncomputable def tw13068638114174553509:=Nat
noncomputable def tw14830611370457522658:=Nat
noncomputable def tw15051076613960003178:=Nat
noncomputable def tw16952287417286842103:=Nat
noncomputable def tw10552952889679847362:=Nat
noncomputable def tw4377047065158206983:=Nat
noncomputable def tw12310533241423020554:=Nat
noncomputable def tw8824773696914186281:=Nat
noncomputable def tw15310338624819442999:=Nat
noncomputable def tw10428703207360479597:=Nat
noncomputable def tw16585667717360719972:=Nat
noncomputable def tw13474872000673906130:=Nat
noncomputable def tw1680413841765330289:=Nat
noncomputable def tw8464660355217115961:=Nat
noncomputable def tw16648490012249091929:=Nat
noncomputable def tw16612264596653754039:=Nat
noncomputable def tw4461725395990374251:=Nat
noncomputable def tw6584385057308322685:=Nat
noncomputable def tw11351731926189799215:=Nat
noncomputable def tw15753157522706778732:=Nat
noncomputable def tw6040285502209926123:=Nat
noncomputable def tw10931587351571276613:=Nat
noncomputable def tw11947410074771396721:=Nat
noncomputable def tw7402187073600739009:=Nat
noncomputable def tw10587229589469166508:=Nat
noncomputable def tw108516197559845291:=Nat
noncomputable def tw10898331062291790978:=Nat
noncomputable def tw11058960739040235658:=Nat
noncomputable def tw11372493461036738723:=Nat
noncomputable def tw11676764844722701944:=Nat
noncomputable def tw12414439423044606899:=Nat
noncomputable def tw12600018768106066209:=Nat
noncomputable def tw12799028364776947584:=Nat
noncomputable def tw13741509640582366919:=Nat
end PySem.W.Fast
set_option Elab.async false
set_option linter.all false
set_option maxHeartbeats 4000000
set_option maxRecDepth 100000
namespace Gr
inductive R(E:Nat->Nat->Prop) (p:Nat):Nat->Nat->Prop
 |zero:R E p 0 p
 |step {d x y:Nat}:R E p d x->E x y->R E p (d+1) y
noncomputable def qR (E:Nat->Nat->Prop) (p x d:Nat):Prop:=R E p d x/\∀e,e<d->¬R E p e x
section
variable{E:Nat->Nat->Prop}{p:Nat}
def qR.eq{x d e:Nat}(h:qR E p x d)(g:qR E p x e):d=e:=by rcases Nat.lt_trichotomy d e with l|l|l;{exact absurd h.1 (g.2 d l)};{exact l};exact absurd g.1 (h.2 e l)
theorem CI:∀(n:Nat){x d:Nat},d<=n->R E p d x->∃e,e<=d/\qR E p x e
 |0,x,d,l,h=>by
  obtain rfl:d=0:=by lia
  exact⟨0,Q7 _,h,λe he=>absurd he (Rz e)⟩
 |n+1,x,d,l,h=>by by_cases c:∃e,e<d/\R E p e x;{obtain⟨e,he,hr⟩:=c;obtain⟨e',h1,h2⟩:=CI n (show e<=n by lia) hr;exact⟨e',by lia,h2⟩};exact⟨d,Q7 _,h,λe he hr=>c ⟨e,he,hr⟩⟩
open Classical in
noncomputable def dst (E:Nat->Nat->Prop) (p x:Nat):Nat:=if h:∃d,qR E p x d then Classical.choose h else 0
def rA{x d:Nat}(h:qR E p x d):dst E p x=d:=by have h':∃d,qR E p x d:=⟨d,h⟩;unfold dst;rw[dif_pos h'];exact(Classical.choose_spec h').eq h
def KR{x d:Nat}(h:R E p d x):qR E p x (dst E p x):=by obtain⟨e,_,g⟩:=CI d (Q7 _) h;rw[rA g];exact g
def R.trans{q:Nat}{d e x:Nat}(h:R E p d q)(g:R E q e x):R E p (d+e) x:=by
 induction g with
 |zero=>exact h
 |step _ s ih=>exact ih.step s
def R.head{q d x:Nat}(h:E p q)(g:R E q d x):R E p (1+d) x:=R.trans (R.step .zero h) g
def R.symm(sy:∀x y,E x y->E y x){d x:Nat}(h:R E p d x):R E x d p:=by
 induction h with
 |zero=>exact .zero
 |step _ s ih=>have:=R.head (sy _ _ s) ih;rwa[Nat.add_comm]at this
structure lE(E:Nat->Nat->Prop) (p r:Nat)(f:Nat->Option Nat)(dX:VI):Prop where
 sound:∀x d,f x=some d->qR E p x d
 upto:∀x d,d<=r->R E p d x->∃e,f x=some e
 low:∀x d,f x=some d->d<=r
 dX:∀x,x∈dX↔f x=some r
structure fh(E:Nat->Nat->Prop) (r:Nat)(f:Nat->Option Nat)(dX:VI)(g:Nat->Option Nat)(reached:VI):Prop where
 ext:∀x d,f x=some d->g x=some d
 new:∀x d,g x=some d->f x=some d\/(f x=none/\d=r+1/\∃h,h∈dX/\E h x)
 got:∀x,x∈reached↔(f x=none/\g x=some (r+1))
def lE.start:lE E p 0 (λx=>if x=p then some 0 else none) [p]:=by
 refine⟨λx d h=>?_,λx d l h=>?_,λx d h=>?_,λx=>?_⟩;{by_cases c:x=p;{rw[if_pos c]at h;cases h;rw[c];exact⟨.zero,λe he=>absurd he (Rz e)⟩};rw[if_neg c]at h;cases h}
 .obtain rfl:d=0:=by lia
  cases h;exact⟨0,if_pos rfl⟩
 .by_cases c:x=p;{rw[if_pos c]at h;cases h;exact Q7 _};rw[if_neg c]at h;cases h
 rw[Q8];constructor;{intro e;exact if_pos e};intro h;by_cases c:x=p;{exact c};rw[if_neg c]at h;cases h
def fh.start{r:Nat}{f:Nat->Option Nat}:fh E r f dX f []:=by refine⟨λx d h=>h,λx d h=>.inl h,λx=>?_⟩;constructor;{intro h;cases h};rintro⟨h1,h2⟩;rw[h1]at h2;cases h2
def fh.put{r:Nat}{f g:Nat->Option Nat}{h y:Nat}(B:fh E r f dX g reached)(he:h∈dX)(hy:E h y)(n:g y=none):fh E r f dX (λx=>if x=y then some (r+1)else g x) (reached++[y]):=by
 have fy:f y=none:=by
  cases e:f y with
  |none=>rfl
  |some d=>rw[B.ext y d e]at n;cases n
 refine⟨λx d e=>?_,λx d e=>?_,λx=>?_⟩;{by_cases c:x=y;{rw[c,fy]at e;cases e};show(if x=y then _ else _)=_;rw[if_neg c];exact B.ext x d e};{by_cases c:x=y;{rw[if_pos c]at e;cases e;rw[c];exact .inr ⟨fy,rfl,h,he,hy⟩};rw[if_neg c]at e;exact B.new x d e};rw[QL,Q8,B.got x];constructor;{rintro (⟨h1,h2⟩|rfl);{refine⟨h1,?_⟩;by_cases c:x=y;{exact if_pos c};show(if x=y then _ else _)=_;rw[if_neg c];exact h2};exact⟨fy,if_pos rfl⟩};rintro⟨h1,h2⟩;by_cases c:x=y;{exact .inr c};rw[if_neg c]at h2;exact .inl ⟨h1,h2⟩
theorem fh.none{r:Nat}{f g:Nat->Option Nat}(B:fh E r f dX g reached){x:Nat}(h:g x=.none):f x=.none:=by
 cases e:f x with
 |none=>rfl
 |some d=>rw[B.ext x d e]at h;cases h
def fh.at{r:Nat}{f g:Nat->Option Nat}(B:fh E r f dX g reached)(A:lE E p r f dX){h:Nat}(he:h∈dX):g h=some r:=B.ext h r ((A.dX h).mp he)
def lE.next{r:Nat}{f g:Nat->Option Nat}{dX reached:VI}(A:lE E p r f dX)(B:fh E r f dX g reached)(all:∀h,h∈dX->∀x,E h x->g x≠none):lE E p (r+1) g reached:=by
 refine⟨λx d e=>?_,λx d l h=>?_,λx d e=>?_,λx=>?_⟩;{rcases B.new x d e with h|⟨h1,rfl,h,he,hx⟩;{exact A.sound x d h};have rh:=(A.sound h r ((A.dX h).mp he)).1;refine⟨rh.step hx,λe he hr=>?_⟩;obtain⟨d,hd⟩:=A.upto x e (by lia) hr;rw[h1]at hd;cases hd}
 .by_cases c:d<=r;{obtain⟨e,he⟩:=A.upto x d c h;exact⟨e,B.ext x e he⟩};obtain rfl:d=r+1:=by lia
  cases h with
  |@step _ y _ hy hyx=>
   obtain⟨e,he⟩:=A.upto y r (Q7 _) hy;have el:=A.low y e he;by_cases ce:e=r
   .have:=all y ((A.dX y).mpr (ce▸he)) x hyx;cases e':g x with
    |none=>exact absurd e' this
    |some d=>exact⟨d,rfl⟩
   obtain⟨e',he'⟩:=A.upto x (e+1) (by lia) ((A.sound y e he).1.step hyx);exact⟨e',B.ext x e' he'⟩
 .rcases B.new x d e with h|⟨_,rfl,_⟩;{have:=A.low x d h;lia};exact Q7 _
 rw[B.got x];constructor;{exact λh=>h.2};intro h;refine⟨?_,h⟩;rcases B.new x (r+1) h with h'|⟨h',_⟩;{have:=A.low x _ h';lia};exact h'
def lE.done{r:Nat}{f:Nat->Option Nat}(A:lE E p r f []):∀{d x:Nat},R E p d x->∃e,f x=some e:=by
 intro d x h;induction h with
 |zero=>exact A.upto p 0 (Qt _) .zero
 |@step d x y _ hxy ih=>
  obtain⟨e,he⟩:=ih;have el:=A.low x e he;have ne:e≠r:=λc=>by have:=(A.dX x).mpr (c▸he);cases this
  exact A.upto y (e+1) (by lia) ((A.sound x e he).1.step hxy)
def lE.val{r:Nat}{f:Nat->Option Nat}(A:lE E p r f []){x d:Nat}(h:R E p d x):f x=some (dst E p x):=by obtain⟨e,he⟩:=A.done h;rw[he,rA (A.sound x e he)]
end
noncomputable def cnt (f:Nat->Option Nat):Nat->Nat
 |0=>0
 |m+1=>cnt f m+(if f m=none then 1 else 0)
theorem uM{f g:Nat->Option Nat}(h:∀x,g x=none->f x=none):∀m,cnt g m<=cnt f m
 |0=>Q7 _
 |m+1=>by have:=uM h m;unfold cnt;by_cases c:g m=none;{rw[if_pos c,if_pos (h m c)];lia};rw[if_neg c];lia
theorem BE{f g:Nat->Option Nat}(h:∀x,g x=none->f x=none){y:Nat}(fy:f y=none)(gy:g y≠none):∀m,y<m->cnt g m<cnt f m
 |0,l=>absurd l (Rz _)
 |m+1,l=>by unfold cnt;by_cases c:y=m;{have:=uM h m;rw[<-c,if_neg gy,if_pos fy,c];lia};have:=BE h fy gy m (by lia);by_cases c:g m=none;{rw[if_pos c,if_pos (h m c)];lia};rw[if_neg c];lia
noncomputable def cE (es:Uw) (x y:Nat):Prop:=(x,y)∈es\/(y,x)∈es
def mj(x y:Nat)(h:cE es x y):cE es y x:=h.elim .inr .inl
noncomputable def fE (m:Nat)(es:Uw):Prop:=∀p,p<m->∀x,x<m->∃d,R (cE es) p d x
def IU{m:Nat}(h:∀k,0<k->k<m->∃p,p<k/\(p,k)∈es):fE m es:=by
 have z:∀n x,x<n->x<m->∃d,R (cE es) x d 0:=by
  intro n;induction n with
  |zero=>exact λx h _=>absurd h (Rz _)
  |succ n ih=>intro x hx hm;by_cases c:x=0;{rw[c];exact⟨0,.zero⟩};obtain⟨q,hq,he⟩:=h x (by lia) hm;obtain⟨d,hd⟩:=ih q (by lia) (by lia);exact⟨1+d,R.head (.inr he) hd⟩
 intro p hp x hx;obtain⟨d,hd⟩:=z (p+1) p (by lia) hp;obtain⟨e,he⟩:=z (x+1) x (by lia) hx;exact⟨d+e,hd.trans (he.symm mj)⟩
def wO{m:Nat}{nm:Nat->Nat}(h:fE m es)(onto:∀x,x<m->∃a,a<m/\nm a=x)(e:∀a b,(a,b)∈es->cE fs (nm a) (nm b)):fE m fs:=by
 intro p hp x hx;obtain⟨a,ha,rfl⟩:=onto p hp;obtain⟨b,hb,rfl⟩:=onto x hx;obtain⟨d,hd⟩:=h a ha b hb;have go:∀{d b:Nat},R (cE es) a d b->R (cE fs) (nm a) d (nm b):=by
  intro d b hd;induction hd with
  |zero=>exact .zero
  |step _ s ih=>refine R.step ih ?_;rcases s with s|s;{exact e _ _ s};exact mj _ _ (e _ _ s)
 exact⟨d,go hd⟩
theorem kD:∀(m:Nat)(l:VI),l.Nodup->(∀x∈l,x<m)->l.length<=m
 |0,[],_,_=>Q7 _
 |0,x::_,_,h=>absurd (h x (Q4 ..)) (Rz _)
 |m+1,l,nd,h=>by
  have h1:(l.erase m).length<=m:=kD m (l.erase m) (nd.sublist (List.erase_sublist ..)) λx hx=>by have:=(nd.mem_erase_iff.mp hx);have:=h x this.2;lia
  have h2:l.length<=(l.erase m).length+1:=by rw[List.length_erase];split<;>lia
  lia
noncomputable def nb (x:Nat)(e:Nat×Nat):Option Nat:=if e.1=x then some e.2 else if e.2=x then some e.1 else none
noncomputable def fP (es:Uw) (x:Nat):VI:=es.filterMap (nb x)
def sG{x y:Nat}(h:nb x e=some y):e=(x,y)\/e=(y,x):=by obtain⟨a,b⟩:=e;unfold nb at h;by_cases c:a=x;{rw[if_pos c]at h;cases h;rw[c];exact .inl rfl};rw[if_neg c]at h;by_cases c2:b=x;{rw[if_pos c2]at h;cases h;rw[c2];exact .inr rfl};rw[if_neg c2]at h;cases h
def sO{x y:Nat}:y∈fP es x↔cE es x y:=by unfold fP;rw[UE];constructor;{rintro⟨e,he,h⟩;rcases sG h with rfl|rfl;{exact .inl he};exact .inr he};rintro (h|h);{exact⟨_,h,if_pos rfl⟩};refine⟨_,h,?_⟩;show(if y=x then some x else if x=x then some y else none)=some y;by_cases c:y=x;{rw[if_pos c,c]};rw[if_neg c,if_pos rfl]
def Hx{x:Nat}:fP (es++fs) x=fP es x++fP fs x:=UG ..
structure Good(m:Nat)(es:Uw):Prop where
 lt:∀e∈es,e.1<e.2/\e.2<m
 nd:es.Nodup
def Good.ND{m:Nat}(g:Good m es){x y:Nat}(h:cE es x y):x<m/\y<m:=by rcases h with h|h;{have:x<y/\y<m:=g.lt _ h;lia};have:y<x/\x<m:=g.lt _ h;lia
def Good.Dc{m:Nat}(g:Good m es) (x:Nat):(fP es x).Nodup:=by unfold fP List.Nodup;rw[List.pairwise_filterMap];refine List.Pairwise.imp_of_mem ?_ g.nd;intro a b ha hb ne y hy z hz e;subst e;rcases sG hy with rfl|rfl<;>rcases sG hz with rfl|rfl;{exact ne rfl};{have h1:x<y/\y<m:=g.lt _ ha;have h2:y<x/\x<m:=g.lt _ hb;lia};{have h1:y<x/\x<m:=g.lt _ ha;have h2:x<y/\y<m:=g.lt _ hb;lia};exact ne rfl
def Good.Hq{m:Nat}(g:Good m es) (x:Nat):(fP es x).length<=m:=kD m _ (g.Dc x) λy hy=>(g.ND (sO.mp hy)).2
def Good.perm{m:Nat}(p:fs.Perm es)(g:Good m es):Good m fs:=⟨λe h=>g.lt e (p.mem_iff.mp h),p.nodup_iff.mpr g.nd⟩
def Ci{m:Nat}(p:fs.Perm es)(h:fE m es):fE m fs:=wO (nm:=id) h (λx hx=>⟨x,hx,rfl⟩) λa b h=>.inl (p.mem_iff.mpr h)
noncomputable def jN (ms:VI)(e:Nat×Nat):Nat×Nat:=(min (ms.getD e.1 0) (ms.getD e.2 0),max (ms.getD e.1 0) (ms.getD e.2 0))
def getD_inj{ms:VI}(nd:ms.Nodup){a b:Nat}(ha:a<ms.length)(hb:b<ms.length)(e:ms.getD a 0=ms.getD b 0):a=b:=by rw[QS,QS,QO ha,QO hb]at e;have e':ms[a]=ms[b]:=e;rcases Nat.lt_trichotomy a b with l|l|l;{exact absurd e' (List.pairwise_iff_getElem.mp nd a b ha hb l)};{exact l};exact absurd e'.symm (List.pairwise_iff_getElem.mp nd b a hb ha l)
def z8{m:Nat}(pm:ms.Perm (List.range m))(h:fE m ps):fE m (ps.map (jN ms)):=by refine wO (nm:=λa=>ms.getD a 0) h (λx hx=>?_) λa b he=>?_;{obtain⟨i,hi⟩:=Rm (pm.mem_iff.mpr (QM.mpr hx));have li:=(SQ.mp hi).1;rw[pm.length_eq,QC]at li;refine⟨i,li,?_⟩;show ms.getD i 0=x;rw[QS,hi];rfl};have hm:jN ms (a,b)∈ps.map (jN ms):=Q9.mpr ⟨_,he,rfl⟩;show cE _ (ms.getD a 0) (ms.getD b 0);have e:jN ms (a,b)=(min (ms.getD a 0) (ms.getD b 0),max (ms.getD a 0) (ms.getD b 0)):=rfl;rw[e]at hm;rcases S3 (ms.getD a 0) (ms.getD b 0)with l|l;{rw[RY l,UH l]at hm;exact .inl hm};rw[S4 l,Nat.max_eq_left l]at hm;exact .inr hm
noncomputable def lN:Nat->Nat
 |0=>0
 |b+1=>lN b+b
def xq{a b:Nat}(h:a<=b):lN a<=lN b:=by
 induction b with
 |zero=>
  obtain rfl:a=0:=by lia
  exact Q7 _
 |succ b ih=>by_cases c:a=b+1;{rw[c];exact Q7 _};exact Qd (ih (by lia)) (S5 _ _)
theorem yK:∀m,2*lN m<=m*m
 |0=>Q7 _
 |m+1=>by have:=yK m;show 2*(lN m+m)<=(m+1)*(m+1);rw[Nat.mul_add,Nat.add_mul,Nat.mul_add];lia
noncomputable def ix (e:Nat×Nat):Nat:=lN e.2+e.1
def L6(he:e.1<e.2)(hf:f.1<f.2)(h:ix e=ix f):e=f:=by
 obtain⟨a,b⟩:=e;obtain⟨c,d⟩:=f;unfold ix at h;dsimp only at he hf h;have key:∀{a b c d:Nat},a<b->b<d->lN b+a<lN d+c:=λ{a b c d} h1 h2=>by have:=xq (a:=b+1) (b:=d) (by lia);have e:lN (b+1)=lN b+b:=rfl;lia
 rcases Nat.lt_trichotomy b d with l|l|l;{have:=key (c:=c) he l;lia};{subst l;rw[show a=c by lia]};have:=key (c:=a) hf l;lia
def pY{m:Nat}(g:Good m ps):2*ps.length<=m*m:=by have h:=kD (lN m) (ps.map ix) ?_ ?_;{rw[Q5]at h;have:=yK m;lia};{unfold List.Nodup;rw[UI];exact List.Pairwise.imp_of_mem (λ{e f} he hf ne h=>ne (L6 (g.lt e he).1 (g.lt f hf).1 h)) g.nd};intro x hx;obtain⟨e,he,rfl⟩:=Q9.mp hx;have l:=g.lt e he;have:=xq (a:=e.2+1) (b:=m) (by lia);have e2:lN (e.2+1)=lN e.2+e.2:=rfl;unfold ix;lia
end Gr
set_option synthInstance.maxSize 4000
set_option synthInstance.maxHeartbeats 400000
namespace Gr
structure KZ(m:Nat)(A:Nat->Nat->Bool)(f:Nat->Nat->Nat):Prop where
 z:∀a,a<m->f a a=0
 st:∀a,a<m->∀b,b<m->∀c,c<m->A b c=true->f a c<=f a b+1
 pr:∀a,a<m->∀b,b<m->b≠a->∃c,c<m/\A c b=true/\f a b=f a c+1
theorem KZ.dst{m:Nat}{A:Nat->Nat->Bool}{f:Nat->Nat->Nat}(T:KZ m A f){g:Nat->Nat}(inj:∀a,a<m->∀b,b<m->g a=g b->a=b)(h1:∀a,a<m->∀b,b<m->A a b=true->cE es (g a) (g b))(h2:∀x y,cE es x y->∃a b,a<m/\b<m/\A a b=true/\x=g a/\y=g b){a b:Nat}(ha:a<m)(hb:b<m):Gr.dst (cE es) (g a) (g b)=f a b:=by
 have up:∀n b,b<m->f a b=n->R (cE es) (g a) n (g b):=λn=>by
  induction n with
  |zero=>intro b hb e;by_cases c:b=a;{rw[c];exact .zero};obtain⟨c,_,_,h⟩:=T.pr a ha b hb c;lia
  |succ n ih=>
   intro b hb e;have ne:b≠a:=λc=>by rw[c,T.z a ha]at e;cases e
   obtain⟨c,hc,hA,h⟩:=T.pr a ha b hb ne;exact .step (ih c hc (by lia)) (h1 c hc b hb hA)
 have low:∀n y,R (cE es) (g a) n y->∃b,b<m/\y=g b/\f a b<=n:=λn y h=>by
  induction h with
  |zero=>exact⟨a,ha,rfl,by rw[T.z a ha];exact Q7 0⟩
  |step h e ih=>obtain⟨b,hb,rfl,le⟩:=ih;obtain⟨b2,c,hb2,hc,hA,e1,rfl⟩:=h2 _ _ e;have:=inj b hb b2 hb2 e1;subst this;exact⟨c,hc,rfl,Qd (T.st a ha b hb c hc hA) (by lia)⟩
 refine rA ⟨up _ b hb rfl,λe he h=>?_⟩;obtain⟨c,hc,e1,le⟩:=low e _ h;have:=inj b hb c hc e1;subst this;lia
noncomputable def ja (way m a b:Nat):Bool:=match way with
 |0=>a+1==b||b+1==a
 |1=>a+1==b||b+1==a||(a+1==m&&b==0&&decide (2<m))||(b+1==m&&a==0&&decide (2<m))
 |2=>(a==0&&b != 0)||(b==0&&a != 0)
 |_=>a != b
noncomputable def jb (way m a b:Nat):Nat:=match way with
 |0=>(a-b)+(b-a)
 |1=>min ((a-b)+(b-a)) (m-((a-b)+(b-a)))
 |2=>if a=b then 0 else if a=0\/b=0 then 1 else 2
 |_=>if a=b then 0 else 1
def OY:∀way,way<4->∀m,m<8->KZ m (ja way m) (jb way m):=by
 have h1:∀way,way<4->∀m,m<8->∀a,a<m->jb way m a a=0:=by decide+kernel
 have h2:∀way,way<4->∀m,m<8->∀a,a<m->∀b,b<m->∀c,c<m->ja way m b c=true->jb way m a c<=jb way m a b+1:=by decide+kernel
 have h3:∀way,way<4->∀m,m<8->∀a,a<m->∀b,b<m->b≠a->∃c,c<m/\ja way m c b=true/\jb way m a b=jb way m a c+1:=by decide+kernel
 exact λway hw m hm=>⟨h1 way hw m hm,h2 way hw m hm,h3 way hw m hm⟩
end Gr
set_option synthInstance.maxSize 4000
set_option synthInstance.maxHeartbeats 400000
namespace Gr
noncomputable def eF (n:Nat)(f:Nat->Nat):Nat:=match n with
 |0=>0
 |n+1=>eF n f+f n
noncomputable def iH (way m:Nat):Nat×Nat:=if m=1 then(0,1)else if m=2\/way=0\/way=2/\m=3 then(1,1)else if way=1 then(m,m-2+m%2)else if way=2 then(m-1,2)else(m,2)
noncomputable def NW (way m c:Nat):Nat:=if m=2\/way=0\/way=2/\m=3 then(if c=m-1 then 1 else 0)else if way=2 then(if c=0 then 0 else 1)else 1
noncomputable def K5 (way m a b:Nat):Nat:=if m=2\/way=0\/way=2/\m=3 then(if(a=0/\b=m-1)\/(b=0/\a=m-1)then 1 else 0)
 else if way=1 then(if m%2=1 then(if jb 1 m a b=1 then 1 else 0)else(if jb 1 m a b=2 then 1 else 0))
 else if way=2 then(if a=0\/b=0\/a=b then 0 else 1)else(if a=b then 0 else 1)
noncomputable def C6 (m c i:Nat):Nat:=min (jb 1 m c i) (jb 1 m c ((i+1)%m))
noncomputable def KP (m i j:Nat):Nat:=if(i+1)%m=j\/(j+1)%m=i then 1 else 0
def Hi:∀way,way<4->∀m,m<8->2<=m->eF m (NW way m)=(iH way m).1:=by decide+kernel
def HX:∀way,way<4->∀m,m<8->2<=m->∀a,a<m->∀b,b<m->a≠b->(iH way m).2<=eF m λc=>if jb way m c a≠jb way m c b then NW way m c else 0:=by decide+kernel
def M3:∀way,way<4->∀m,m<8->2<=m->∀a,a<m->K5 way m a a=0:=by decide+kernel
def LX:∀way,way<4->∀m,m<8->2<=m->∃k,k<8/\0<k/\k*(iH way m).1=(eF m λa=>eF m λb=>K5 way m a b)/\∀c,c<m->(eF m λa=>eF m λb=>if jb way m c a≠jb way m c b then K5 way m a b else 0)<=k*(iH way m).2:=by decide+kernel
def Hl:∀m,m<8->3<=m->(eF m λ_=>1)=(iH 1 m).1:=by decide+kernel
def Hw:∀m,m<8->3<=m->∀a,a<m->∀b,b<m->a≠b->(iH 1 m).2<=eF m λc=>if C6 m c a≠C6 m c b then 1 else 0:=by decide+kernel
def MQ:∀m,m<8->3<=m->∀a,a<m->KP m a a=0:=by decide+kernel
def Kc:∀m,m<8->3<=m->∃k,k<8/\0<k/\k*(iH 1 m).1=(eF m λa=>eF m λb=>KP m a b)/\∀c,c<m->(eF m λa=>eF m λb=>if C6 m c a≠C6 m c b then KP m a b else 0)<=k*(iH 1 m).2:=by decide+kernel
def G6:∀m,m<8->3<=m->∀a,a<m->∀b,b<m->ja 1 m a b=true->b=(a+1)%m\/a=(b+1)%m:=by decide+kernel
def Iq:∀m,m<8->3<=m->∀a,a<m->ja 1 m a ((a+1)%m)=true:=by decide+kernel
def Fc:∀m,m<8->3<=m->∀a,a<m->∀b,b<m->a=(b+1)%m->¬b=(a+1)%m:=by decide+kernel
end Gr
namespace Dv
open PySem
inductive Kd where
 |sh|ow (p:Bool)|dp (p:Bool)|dk (p:Bool)|dt (p:Bool)|st (p:Bool)
 deriving DecidableEq
noncomputable def jy (n:Nat) (i:Int):Option Nat:=if 0<=i then(if i<n then some i.toNat else none)else if-(n:Int)<=i then some (i+n).toNat else none
noncomputable def j4:PyData->Bool
 |.int _ | .str _=>true
 |_=>false
instance P9:DecidableEq PyData:=λa b=>Classical.propDecidable (a=b)
noncomputable def bV (kvs:Uo)(k:PyData):Option PyData:=(kvs.find? λkv=>decide (kv.1=k)).map (·.2)
noncomputable def putD (kvs:Uo)(k v:PyData):Uo:=if(kvs.any λkv=>decide (kv.1=k))=true then kvs.map (λkv=>if kv.1=k then(kv.1,v)else kv)else kvs++[(k,v)]
noncomputable def hi0:Nat:=0
noncomputable def hi1:Nat:=hi0
noncomputable def hi2:Nat:=hi1
noncomputable def PD:Nat:=hi2
noncomputable def Pn:Nat:=PD
noncomputable def PR:Nat:=Pn
noncomputable def Pw:Nat:=PR
noncomputable def PV:Nat:=Pw
noncomputable def Pe:Nat:=PV
noncomputable def Pu:Nat:=Pe
noncomputable def Oz:Nat:=Pu
noncomputable def OM:Nat:=Oz
noncomputable def i6:Nat:=OM
noncomputable abbrev En:=List (Option (Kd×PyData))
noncomputable abbrev XC:=Str->PyData->Prop
noncomputable abbrev xF:XC:=λ_ _=>False
noncomputable abbrev DE:=XC->En->(En->Kd->PyData->Prop)->Prop
noncomputable abbrev DT:=XC->En->(En->Bool->Prop)->Prop
noncomputable abbrev DI:=XC->En->(En->VB->Prop)->Prop
structure fT where
 nx:En->Prop
 rt:En->Kd->PyData->Prop
 xc:XC
noncomputable abbrev DS:=fT->En->Prop
noncomputable abbrev bF:=VB->(VB->Kd->PyData->Prop)->XC->Prop
noncomputable def lf:PyData->Bool
 |.none | .bool _ | .int _ | .str _=>true
 |.tuple ds=>lfs ds
 |.list _ | .dict _=>false
where lfs:VB->Bool
 |[]=>true
 |d::ds=>lf d&&lfs ds
theorem se:∀ds:VB,lf.lfs ds=ds.all lf
 |[]=>by rw[lf.lfs];rfl
 |d::ds=>by rw[lf.lfs,se ds];rfl
noncomputable def yj:PyData->Bool
 |.list _=>true
 |_=>false
noncomputable def flat:Kd->PyData->Bool
 |.sh,d=>lf d
 |.ow _,.list ds=>ds.all lf
 |.dp _,.list ds=>ds.all λd=>match d with | .list es=>es.all lf|d=>lf d
 |.dk _,.dict kvs=>kvs.all λkv=>lf kv.2
 |.dt _,.dict kvs=>kvs.all λkv=>lf kv.2
 |_,_=>false
noncomputable def Kd.fz:Kd->Bool
 |.sh | .ow false | .dp false | .dk false | .dt false=>true
 |_=>false
noncomputable def Kd.rd:Kd->Bool
 |.st _=>false
 |_=>true
noncomputable def Kd.pin:Kd->Bool
 |.ow p | .dp p | .dk p | .dt p | .st p=>p
 |.sh=>false
noncomputable def cM (E:En) (i:Nat):Option En:=match E[i]? with
 |some (some (k,d))=>if k.fz then some (E.set i (some (.sh,d)))else none
 |_=>none
noncomputable def c8:VI->En->Option En
 |[],E=>some E
 |i::r,E=>(cM E i).bind (c8 r)
inductive Arg where
 |pk (i:Nat)|ev (d:DE)
noncomputable def b5:List Arg->VI
 |[]=>[]
 |.pk i::r=>i::b5 r
 |.ev _::r=>b5 r
noncomputable def here (E:En) (i:Nat):Bool:=match E[i]? with
 |some (some _)=>true
 |_=>false
noncomputable def fill:List Arg->En->List (Option PyData)->Option (VB)
 |[],_,[]=>some []
 |.pk i::r,E,none::os=>match E[i]? with
  |some (some (k,d))=>if k.rd then(fill r E os).map (d::·)else none
  |_=>none
 |.ev _::r,E,some v::os=>(fill r E os).map (v::·)
 |_,_,_=>none
noncomputable def gH (E:En) (i:Nat):Bool:=match E[i]? with
 |some (some (.sh,_))=>true
 |_=>false
theorem wk{E:En}:∀{is:VI},is.all (gH E)=true->c8 is E=some E
 |[],_=>rfl
 |i::r,h=>by
  rw[QH,QA]at h;have e:cM E i=some E:=by
   have h1:=h.1;unfold gH at h1;unfold cM;split at h1
   .rename_i d e;rw[e];show some (E.set i (some (.sh,d)))=some E;congr 1;refine Qw λj=>?_;rw[RS];by_cases c:i=j
    .subst c;rw[if_pos rfl,e];have l:i<E.length:=by rcases Qy i E.length with z|z;{exact z};rw[Qc z]at e;cases e
     rw[if_pos l]
    rw[if_neg c]
   cases h1
  show(cM E i).bind (c8 r)=some E;rw[e];exact wk h.2
noncomputable def Nz (as:List Arg)(E:En)(k:Kd)(v:PyData):Option En:=if((b5 as).all (gH E)||flat k v)=true then some E else c8 (b5 as) E
def rV{is:VI}{E E2:En}{b:Bool}(h:(if(is.all (gH E)||b)=true then some E else c8 is E)=some E2):(if b=true then some E else c8 is E)=some E2:=by
 cases hs:is.all (gH E)with
 |true=>rw[hs,Bool.true_or,if_pos rfl]at h;rw[wk hs,h,ite_self]
 |false=>rw[hs,Bool.false_or]at h;exact h
noncomputable abbrev DR:=VB->(Kd->PyData->Prop)->Prop
noncomputable def dC (v:PyData):DE:=λ_ E Q=>(λ_:Nat=>Q E .sh v) i6
noncomputable def qj:VF->List Arg->VB->En->Option En
 |[],[],[],E=>some E
 |false::ms,_::r,us,E=>qj ms r us E
 |true::ms,.pk i::r,u::us,E=>match E[i]? with
  |some (some (.ow p,.list _))=>if yj u then qj ms r us (E.set i (some (.ow p,u)))else none
  |_=>none
 |_,_,_,_=>none
noncomputable def lent:VF->List Arg->VI
 |true::ms,.pk i::r=>i::lent ms r
 |_::ms,_::r=>lent ms r
 |_,_=>[]
noncomputable def kept:VF->List Arg->VI
 |false::ms,.pk i::r=>i::kept ms r
 |_::ms,_::r=>kept ms r
 |_,_=>[]
noncomputable def shape:VF->List Arg->Bool
 |[],[]=>true
 |true::ms,.pk _::r=>shape ms r
 |false::ms,_::r=>shape ms r
 |_,_=>false
noncomputable def wQ (ms:VF)(as:List Arg)(E:En):Bool:=shape ms as&&decide (lent ms as).Nodup&&(lent ms as).all (λi=>!(kept ms as).contains i&&(match E[i]? with|some (some (.ow _,.list _))=>true|_=>false))
noncomputable def LA (ms:VF)(as:List Arg)(us:VB)(E:En)(k:Kd)(v:PyData):Option En:=if((kept ms as).all (gH E)||(flat k v&&us.all (flat (.ow false))))=true then some E else c8 (kept ms as) E
noncomputable def k7:PyData->Option Bool
 |.bool b=>some b
 |.int i=>some (!decide (i=0))
 |.none=>some false
 |.str _=>none
 |.list ds=>some !ds.isEmpty
 |.tuple ds=>some !ds.isEmpty
 |.dict _=>none
noncomputable def Kv (d:DE):DT:=λx E Q=>d x E λE' _ v=>∃b,k7 v=some b/\Q E' b
noncomputable def KL (t:DT):DT:=λx E Q=>(λ_:Nat=>t x E λE' b=>Q E' (!b)) i6
noncomputable def I0 (a b:DE):DE:=λx E Q=>a x E λE1 _ v=>∃c,v=.bool c/\if c=true then b x E1 Q else Q E1 .sh (.bool false)
noncomputable def NU (a b:DE):DE:=λx E Q=>a x E λE1 _ v=>∃c,v=.bool c/\if c=true then Q E1 .sh (.bool true)else b x E1 Q
noncomputable def DY (f f':Uv)(a b c:DE):DE:=λx E Q=>a x E λE1 _ u=>∃i,u=.int i/\b x E1 λE2 _ v=>∃j,v=.int j/\if f i j=true then c x E2 λE3 _ w=>∃k,w=.int k/\Q E3 .sh (.bool (f' j k))else Q E2 .sh (.bool false)
noncomputable def N2 (c:DT)(a b:DE):DE:=λx E Q=>c x E λE1 t=>if t=true then a x E1 Q else b x E1 Q
noncomputable def dP:DS:=λD E=>(λ_:Nat=>D.nx E) i6
noncomputable def ao (a b:DS):DS:=λD E=>(λ_:Nat=>a { D with nx:=b D } E) i6
noncomputable def u9 (a b:DS):DS:=λD E=>∃J:En->Prop,a { D with nx:=J } E/\∀E',J E'->b D E'
noncomputable def Kf (c:DT)(a b:DS):DS:=λD E=>c D.xc E λE1 t=>if t=true then a D E1 else b D E1
noncomputable def bx (E:En) (i:Nat):Bool:=match E[i]? with
 |some (some (k,_))=>!k.pin
 |some none=>true
 |none=>false
noncomputable def Lf (i:Nat)(e:DE):DS:=λD E=>e D.xc E λE' k v=>bx E' i=true/\D.nx (E'.set i (some (k,v)))
inductive Tg where
 |nm (i:Nat)|tp (is:VI)|nt (i:Nat)(is:VI)
noncomputable def Tg.slots:Tg->VI
 |.nm i=>[i]
 |.tp is=>is
 |.nt i is=>i::is
noncomputable def bf:VI->VB->En->Option En
 |[],[],E=>some E
 |i::is,d::ds,E=>if bx E i then bf is ds (E.set i (some (.sh,d)))else none
 |_,_,_=>none
noncomputable def b6:Tg->PyData->En->Option En
 |.nm i,d,E=>bf [i] [d] E
 |.tp is,.tuple ds,E=>bf is ds E
 |.nt i is,.tuple [d,.tuple ds],E=>bf (i::is) (d::ds) E
 |_,_,_=>none
noncomputable def cz (e:DE):DS:=λD E=>(λ_:Nat=>e D.xc E D.rt) i6
noncomputable def ir (E:En) (i:Nat):Bool:=match E[i]? with
 |some (some (.ow _,.list _))=>true
 |_=>false
noncomputable abbrev DM:=VB->VB->(VB->PyData->Prop)->Prop
noncomputable def lz:Uo->Bool
 | (.none,_)::_=>false
 |_=>true
noncomputable def uQ (most:Nat) (i:Nat)(e:DE):DS:=λD E=>ir E i=true/\e D.xc E λE1 k v=>k.fz=true/\∃p ds es,E1[i]?=some (some (.ow p,.list ds))/\v=.list es/\ds.length+es.length<=most/\D.nx (E1.set i (some (.ow p,.list (ds++es))))
noncomputable def xr (f:DM) (i:Nat)(j:DE) (n:Nat):DE:=λx E Q=>here E i=true/\j x E λE1 _ w=>∃a p ds m es k d E2,w=.int a/\E1[i]?=some (some (.dp p,.list ds))/\jy ds.length a=some m/\ds[m]?=some (.list es)/\E1[n]?=some (some (k,d))/\i≠n/\cM E1 n=some E2/\f es [d] λnew v=>Q (E2.set i (some (.dp p,.list (ds.set m (.list new))))) .sh v
noncomputable def xu (c:Str):DS:=λD _=>(λ_:Nat=>D.xc c .none) i6
noncomputable def cO (e:DE):DS:=λD E=>(λ_:Nat=>e D.xc E λE' _ _=>D.nx E') i6
noncomputable def fG (it:DI)(tg:Tg)(b:DS):DS:=λD E=>(λ_:Nat=>it D.xc E λE1 xs=>∃I:Nat->En->Prop,I 0 E1/\(∀i d E,xs[i]?=some d->I i E->∃E2,b6 tg d E=some E2/\b { D with nx:=I (i+1) } E2)/\∀E,I xs.length E->D.nx E) i6
noncomputable def nY (c:DT)(b:DS):DS:=λD E=>∃W:Nat->En->Prop,(∃m,W m E)/\∀m E,W m E->c D.xc E λE1 t=>if t=true then b { D with nx:=λE'=>∃m',m'<m/\W m' E' } E1 else D.nx E1
noncomputable def items:PyData->Option (VB)
 |.list ds=>some ds
 |.tuple ds=>some ds
 |_=>none
noncomputable def oE (e:DE):DI:=λx E Q=>e x E λE' k v=>k.fz=true/\∃ds,items v=some ds/\Q E' ds
noncomputable def iG (ds:VB):VB:=ds.zipIdx.map λp=>.tuple [.int p.2,p.1]
noncomputable def NG (e:DE):DI:=λx E Q=>e x E λE' k v=>k.fz=true/\∃ds,v=.list ds/\Q E' (iG ds)
noncomputable def aZ:VI->En->Option En
 |[],E=>some E
 |i::r,E=>if bx E i then aZ r (E.set i none)else none
noncomputable abbrev DC:=XC->VB->En->(VB->En->Prop)->Prop
noncomputable def g9:DT:=λ_ E Q=>(λ_:Nat=>Q E true) i6
noncomputable def cW (most:Nat)(e:DE):DC:=λx ys E Q=>e x E λE1 k v=>k.fz=true/\ys.length<most/\Q (ys++[v]) E1
noncomputable def N3 (it:DI)(tg:Tg)(c:DT)(r:DC):DC:=λx ys E Q=>(λ_:Nat=>it x E λE1 xs=>∃I:Nat->VB->En->Prop,I 0 ys E1/\(∀i d ys E,xs[i]?=some d->I i ys E->∃E2,b6 tg d E=some E2/\c x E2 λE3 b=>if b=true then r x ys E3 (I (i+1))else I (i+1) ys E3)/\∀ys E,I xs.length ys E->Q ys E) i6
noncomputable def cV (cs:VI)(it:DI)(tg:Tg)(c:DT)(r:DC):DE:=λx E Q=>(λ_:Nat=>it x E λE1 xs=>∃(E0:En)(I:Nat->VB->En->Prop),aZ cs E1=some E0/\I 0 [] E0/\(∀i d ys E,xs[i]?=some d->I i ys E->∃E2,b6 tg d E=some E2/\c xF E2 λE3 b=>if b=true then r xF ys E3 (I (i+1))else I (i+1) ys E3)/\∀ys E,I xs.length ys E->∃E2,aZ cs E=some E2/\Q E2 (.ow false) (.list ys)) i6
noncomputable def nW (most:Nat)(cs:VI)(it:DI)(tg:Tg)(c:DT)(e:DE):DE:=λx E Q=>(λ_:Nat=>it x E λE1 xs=>∃(E0:En)(I:Nat->VB->En->Prop),aZ cs E1=some E0/\I 0 [] E0/\(∀i d ys E,xs[i]?=some d->I i ys E->∃E2,b6 tg d E=some E2/\c xF E2 λE3 b=>if b=true then e xF E3 (λE4 k v=>(∃p,k=.ow p)/\ys.length<most/\I (i+1) (ys++[v]) E4)else I (i+1) ys E3)/\∀ys E,I xs.length ys E->∃E2,aZ cs E=some E2/\Q E2 (.dp false) (.list ys)) i6
noncomputable def i8 (lo:Int) (n:Nat):VB:=(List.range n).map λi:Nat=>PyData.int (lo+i)
noncomputable def aq {α:Type}(o:Option α)(Q:α->Prop):Prop:=match o with
 |some a=>Q a
 |none=>False
noncomputable def cL {α:Sort u}(b:Bool)(x y:α):α:=match b with
 |true=>x
 |false=>y
noncomputable def b9:Option (Kd×PyData)->Bool
 |some (k,_)=>!k.pin
 |none=>true
noncomputable def qz (E:En) (i:Nat):Bool:=match E[i]? with
 |some o=>b9 o
 |none=>false
noncomputable def bK (b:Bool)(P:Prop):Prop:=match b with
 |true=>P
 |false=>False
noncomputable def gx:List Arg->XC->En->(En->List (Option PyData)->Prop)->Prop
 |[],_,E,Q=>Q E []
 |.pk i::r,x,E,Q=>bK (here E i) (gx r x E λE' os=>Q E' (none::os))
 |.ev d::r,x,E,Q=>d x E λE1 k v=>bK k.fz (gx r x E1 λE' os=>Q E' (some v::os))
noncomputable def qx (E:En) (i:Nat):Option En:=match E[i]? with
 |some (some (k,d))=>cL k.fz (some (E.set i (some (.sh,d)))) none
 |_=>none
noncomputable def fR:VI->En->Option En
 |[],E=>some E
 |i::r,E=>(qx E i).bind (fR r)
noncomputable def bT:List Arg->En->List (Option PyData)->Option (VB)
 |[],_,[]=>some []
 |.pk i::r,E,none::os=>match E[i]? with
  |some (some (k,d))=>cL k.rd ((bT r E os).map (d::·)) none
  |_=>none
 |.ev _::r,E,some v::os=>(bT r E os).map (v::·)
 |_,_,_=>none
noncomputable def qf (as:List Arg)(E:En)(k:Kd)(v:PyData):Option En:=cL ((b5 as).all (gH E)||flat k v) (some E) (fR (b5 as) E)
noncomputable def Cm (E:En) (i:Nat)(Q:En->Kd->PyData->Prop):Prop:=match E[i]? with
 |some (some (_,d))=>aq (qx E i) λE'=>Q E' .sh d
 |_=>False
noncomputable def uY (r:DR)(as:List Arg)(E:En)(os:List (Option PyData))(Q:En->Kd->PyData->Prop):Prop:=aq (bT as E os) λds=>r ds λk v=>aq (qf as E k v) λE2=>Q E2 k v
noncomputable def kJ (i:Nat):VI->Bool
 |[]=>false
 |j::r=>i==j||kJ i r
noncomputable def n9:VI->VI->En->Bool
 |[],_,_=>true
 |i::r,ks,E=>(!kJ i ks&&!kJ i r&&ir E i)&&n9 r ks E
noncomputable def qZ (ms:VF)(as:List Arg)(E:En):Bool:=shape ms as&&n9 (lent ms as) (kept ms as) E
noncomputable def iQ:VF->List Arg->VB->En->Option En
 |[],[],[],E=>some E
 |false::ms,_::r,us,E=>iQ ms r us E
 |true::ms,.pk i::r,u::us,E=>match E[i]? with
  |some (some (.ow p,.list _))=>cL (yj u) (iQ ms r us (E.set i (some (.ow p,u)))) none
  |_=>none
 |_,_,_,_=>none
noncomputable def rj (ms:VF)(as:List Arg)(us:VB)(E:En)(k:Kd)(v:PyData):Option En:=cL ((kept ms as).all (gH E)||(flat k v&&us.all (flat (.ow false)))) (some E) (fR (kept ms as) E)
noncomputable def De (ms:VF)(as:List Arg)(E:En)(us:VB)(k:Kd)(v:PyData)(Q:En->Kd->PyData->Prop):Prop:=aq (iQ ms as us E) λE2=>aq (rj ms as us E2 k v) λE3=>Q E3 k v
noncomputable def BW (sp:bF)(ms:VF)(as:List Arg)(x:XC)(E:En)(os:List (Option PyData))(Q:En->Kd->PyData->Prop):Prop:=aq (bT as E os) λds=>bK (qZ ms as E) (sp ds (λus k v=>De ms as E us k v Q) x)
noncomputable def rE (v:PyData)(Q:Bool->Prop):Prop:=aq (k7 v) Q
noncomputable def Br (E:En) (i:Nat)(Q:En->Bool->Prop):Prop:=match E[i]? with
 |some (some (k,d))=>bK k.rd (rE d (Q E))
 |_=>False
noncomputable def yz (v:PyData)(Q:Bool->Prop):Prop:=match v with
 |.bool b=>Q b
 |_=>False
noncomputable def pI (v:PyData)(Q:Int->Prop):Prop:=match v with
 |.int i=>Q i
 |_=>False
noncomputable def F9 (v:PyData)(Q:VB->Prop):Prop:=aq (items v) Q
noncomputable def uo (v:PyData)(Q:VB->Prop):Prop:=match v with
 |.list xs=>Q xs
 |_=>False
noncomputable def DB (E:En) (i:Nat)(Q:En->Kd->PyData->Prop):Prop:=match E[i]? with
 |some (some (k,d))=>bK (!k.pin) (Q (E.set i none) k d)
 |_=>False
noncomputable def Dm (f:DM) (i:Nat)(as:List Arg)(E:En)(os:List (Option PyData))(Q:En->Kd->PyData->Prop):Prop:=aq (bT as E os) λargs=>match E[i]? with
 |some (some (.ow p,.list ds))=>f ds args λnew v=>Q (E.set i (some (.ow p,.list new))) .sh v
 |_=>False
noncomputable def Ko (f:Int->Int->Int)(E:En) (i:Nat)(v:PyData)(Q:En->Prop):Prop:=match E[i]? with
 |some (some (_,.int a))=>pI v λb=>Q (E.set i (some (.sh,.int (f a b))))
 |_=>False
noncomputable def stK:VI->VB->En->Option En
 |[],[],E=>some E
 |i::is,d::ds,E=>cL (qz E i) (stK is ds (E.set i (some (.sh,d)))) none
 |_,_,_=>none
noncomputable def GQ (is:VI)(v:PyData)(E:En)(Q:En->Prop):Prop:=match v with
 |.tuple ds=>aq (stK is ds E) Q
 |_=>False
noncomputable def wz (n:Nat) (i:Int):Option Nat:=match i with
 |.ofNat k=>cL (Nat.blt k n) (some k) none
 |.negSucc k=>jy n (.negSucc k)
noncomputable def bJ (i:Nat):DE:=λ_ E Q=>Cm E i Q
noncomputable def aa (r:DR)(as:List Arg):DE:=λx E Q=>gx as x E λE1 os=>uY r as E1 os Q
noncomputable def aX (sp:bF)(ms:VF)(as:List Arg):DE:=λx E Q=>gx as x E λE1 os=>BW sp ms as x E1 os Q
noncomputable def bI (d:DE):DT:=λx E Q=>d x E λE' _ v=>rE v (Q E')
noncomputable def GD (i:Nat):DT:=λ_ E Q=>Br E i Q
noncomputable def kK (a b:DE):DE:=λx E Q=>a x E λE1 _ v=>yz v λc=>cL c (b x E1 Q) (Q E1 .sh (.bool false))
noncomputable def rT (a b:DE):DE:=λx E Q=>a x E λE1 _ v=>yz v λc=>cL c (Q E1 .sh (.bool true)) (b x E1 Q)
noncomputable def OS (a:DE):DE:=λx E Q=>a x E λE1 _ v=>rE v λc=>Q E1 .sh (.bool !c)
noncomputable def oq (f f':Uv)(a b c:DE):DE:=λx E Q=>a x E λE1 _ u=>pI u λi=>b x E1 λE2 _ v=>pI v λj=>cL (f i j) (c x E2 λE3 _ w=>pI w λk=>Q E3 .sh (.bool (f' j k))) (Q E2 .sh (.bool false))
noncomputable def t8 (c:DT)(a b:DE):DE:=λx E Q=>c x E λE1 t=>cL t (a x E1 Q) (b x E1 Q)
noncomputable def cJ (c:DT)(a b:DS):DS:=λD E=>c D.xc E λE1 t=>cL t (a D E1) (b D E1)
noncomputable def aG (i:Nat)(e:DE):DS:=λD E=>e D.xc E λE' k v=>bK (qz E' i) (D.nx (E'.set i (some (k,v))))
noncomputable def kN (is:VI)(e:DE):DS:=λD E=>e D.xc E λE' k v=>bK k.fz (GQ is v E' D.nx)
noncomputable def gP (i:Nat):DS:=λD E=>DB E i D.rt
noncomputable def jZ (f:DM) (i:Nat)(es:List DE):DE:=λx E Q=>bK (ir E i) (gx (es.map .ev) x E λE1 os=>Dm f i (es.map .ev) E1 os Q)
noncomputable def i7 (i:Nat)(j:DE)(e:DE):DS:=λD E=>e D.xc E λE1 k v=>bK k.fz (bK (here E1 i) (j D.xc E1 λE2 k2 w=>bK k2.fz (setI E2 i w v D.nx)))
where setI (E:En) (i:Nat)(w v:PyData)(Q:En->Prop):Prop:=match E[i]?,w with
 |some (some (.ow p,.list ds)),.int a=>aq (wz ds.length a) λn=>Q (E.set i (some (.ow p,.list (ds.set n v))))
 |some (some (.dk p,.dict kvs)),w=>(j4 w=true/\kvs.length<16777216)/\Q (E.set i (some (.dk p,.dict (putD kvs w v))))
 |some (some (.dt p,.dict (_::kvs))),.tuple ks=>(ks.all j4=true/\kvs.length<16777216)/\Q (E.set i (some (.dt p,.dict ((.none,.none)::putD kvs (.tuple ks) v))))
 |_,_=>False
noncomputable def OT (f:Int->Int->Int) (i:Nat)(e:DE):DS:=λD E=>bK (here E i) (e D.xc E λE1 _ v=>Ko f E1 i v D.nx)
noncomputable def iE (e:DE):DI:=λx E Q=>e x E λE' k v=>bK k.fz (F9 v λds=>Q E' ds)
noncomputable def jF (g:VB->Option (VB))(as:List Arg):DI:=λx E Q=>gx as x E λE1 os=>aq (bT as E1 os) λds=>aq (g ds) λxs=>Q E1 xs
noncomputable def qK (e:DE):DI:=λx E Q=>e x E λE' k v=>bK k.fz (uo v λds=>Q E' (iG ds))
noncomputable def B7 (a b:DE):DI:=λx E Q=>a x E λE1 k v=>bK k.fz (b x E1 λE2 k2 v2=>bK k2.fz (uo v λds=>uo v2 λes=>Q E2 ((ds.zip es).map λp=>.tuple [p.1,p.2])))
def aR{α:Type}{o:Option α}{Q:α->Prop}:(∃a,o=some a/\Q a)=aq o Q:=by
 cases o with
 |none=>exact propext ⟨λ⟨a,e,_⟩=>(by cases e),λh=>h.elim⟩
 |some a=>exact propext ⟨λ⟨b,e,q⟩=>by cases e;exact q,λh=>⟨a,rfl,h⟩⟩
def cZ{b:Bool}{P:Prop}:bK b P=(b=true/\P):=by
 cases b with
 |true=>exact propext ⟨λh=>⟨rfl,h⟩,λh=>h.2⟩
 |false=>exact propext ⟨λh=>h.elim,λh=>by cases h.1⟩
universe u
def bH{α:Sort u}{b:Bool}{x y:α}:cL b x y=if b=true then x else y:=by cases b<;>rfl
def yq{E:En}{i:Nat}:qx E i=cM E i:=by unfold qx cM;split;{rw[bH]};rfl
theorem mR:∀{is:VI}{E:En},fR is E=c8 is E
 |[],_=>rfl
 |i::r,E=>by rw[fR,c8,yq];congr 1;funext E1;exact mR
theorem dD:∀{as:List Arg}{E:En}{os:List (Option PyData)},bT as E os=fill as E os
 |[],_,[]=>rfl
 |[],_,_::_=>rfl
 |.pk i::r,E,none::os=>by rw[bT,fill,dD];split;{rw[bH]};rfl
 |.ev _::r,E,some v::os=>by rw[bT,fill,dD]
 |.pk _::_,_,[]=>rfl
 |.pk _::_,_,some _::_=>rfl
 |.ev _::_,_,[]=>rfl
 |.ev _::_,_,none::_=>rfl
def yr{as:List Arg}{E:En}{k:Kd}{v:PyData}:qf as E k v=Nz as E k v:=by unfold qf Nz;rw[bH,mR]
theorem rZ{i:Nat}:∀{l:VI},kJ i l=l.contains i
 |[]=>rfl
 |j::r=>by rw[kJ,List.contains_cons,rZ]
theorem zg{ks:VI}{E:En}:∀{l:VI},n9 l ks E=(decide l.Nodup&&l.all λi=>!ks.contains i&&ir E i)
 |[]=>rfl
 |i::r=>by
  rw[n9,zg,rZ,rZ,QH];have:decide (i::r).Nodup=(!r.contains i&&decide r.Nodup):=by rw[Rn];simp[So]
  rw[this];cases ks.contains i<;>cases r.contains i<;>cases ir E i<;>cases decide r.Nodup<;>rfl
def Fy{ms:VF}{as:List Arg}{E:En}:qZ ms as E=wQ ms as E:=by unfold qZ wQ;rw[zg,Bool.and_assoc];rfl
theorem sX:∀{ms:VF}{as:List Arg}{us:VB}{E:En},iQ ms as us E=qj ms as us E
 |[],[],[],E=>rfl
 |[],[],_::_,E=>rfl
 |[],_::_,_,E=>rfl
 |false::ms,_::r,us,E=>by rw[iQ,qj,sX]
 |false::ms,[],us,E=>rfl
 |true::ms,[],us,E=>rfl
 |true::ms,.ev _::_,us,E=>rfl
 |true::ms,.pk i::r,[],E=>rfl
 |true::ms,.pk i::r,u::us,E=>by rw[iQ,qj];split;{rw[bH,sX]};rfl
def EV{ms:VF}{as:List Arg}{us:VB}{E:En}{k:Kd}{v:PyData}:rj ms as us E k v=LA ms as us E k v:=by unfold rj LA;rw[bH,mR]
def Gp{v:PyData}{Q:Bool->Prop}:(∃b,k7 v=some b/\Q b)=rE v Q:=aR
def GL{v:PyData}{Q:Bool->Prop}:(∃b,v=.bool b/\Q b)=yz v Q:=by
 cases v with
 |bool b=>exact propext ⟨λ⟨c,e,q⟩=>by cases e;exact q,λh=>⟨b,rfl,h⟩⟩
 |_=>exact propext ⟨λ⟨c,e,_⟩=>(by cases e),λh=>h.elim⟩
def Nn{v:PyData}{Q:Int->Prop}:(∃b,v=.int b/\Q b)=pI v Q:=by
 cases v with
 |int b=>exact propext ⟨λ⟨c,e,q⟩=>by cases e;exact q,λh=>⟨b,rfl,h⟩⟩
 |_=>exact propext ⟨λ⟨c,e,_⟩=>(by cases e),λh=>h.elim⟩
def zS{v:PyData}{Q:VB->Prop}:(∃b,v=.list b/\Q b)=uo v Q:=by
 cases v with
 |list b=>exact propext ⟨λ⟨c,e,q⟩=>by cases e;exact q,λh=>⟨b,rfl,h⟩⟩
 |_=>exact propext ⟨λ⟨c,e,_⟩=>(by cases e),λh=>h.elim⟩
def x8{E:En}{i:Nat}:qz E i=bx E i:=by unfold bx qz b9;generalize E[i]?=z;rcases z with _|_|⟨k,d⟩<;>rfl
theorem CD:∀{is:VI}{ds:VB}{E:En},stK is ds E=bf is ds E
 |[],[],E=>rfl
 |[],_::_,E=>rfl
 |_::_,[],E=>rfl
 |i::is,d::ds,E=>by rw[stK,bf,bH,CD,x8]
def uS{n:Nat}{i:Int}:wz n i=jy n i:=by
 cases i with
 |ofNat k=>unfold wz jy;show cL (Nat.blt k n) (some k) none=_;rw[if_pos (show(0:Int)<=Int.ofNat k from Ss k),bH];have:(Nat.blt k n=true)=((Int.ofNat k)<(n:Int)):=propext ⟨λh=>Su.mpr (Nat.blt_eq.mp h),λh=>Nat.blt_eq.mpr (Su.mp h)⟩;simp only[this];rfl
 |negSucc k=>rfl
def Iz{d:DE}:bI d=Kv d:=by funext x E Q;unfold bI Kv;simp only[Gp]
def zw{a b:DE}:kK a b=I0 a b:=by funext x E Q;unfold kK I0;simp only[GL,bH]
def Dd{a b:DE}:rT a b=NU a b:=by funext x E Q;unfold rT NU;simp only[GL,bH]
def DX{f f':Uv}{a b c:DE}:oq f f' a b c=DY f f' a b c:=by funext x E Q;unfold oq DY;simp only[Nn,bH]
def JE{c:DT}{a b:DE}:t8 c a b=N2 c a b:=by funext x E Q;unfold t8 N2;simp only[bH]
def Il{c:DT}{a b:DS}:cJ c a b=Kf c a b:=by funext D E;unfold cJ Kf;simp only[bH]
def sW{i:Nat}{e:DE}:aG i e=Lf i e:=by funext D E;unfold aG Lf;simp only[cZ,x8]
def ML{e:DE}:iE e=oE e:=by funext x E Q;unfold iE oE;simp only[cZ,aR];rfl
def KG{e:DE}:qK e=NG e:=by funext x E Q;unfold qK NG;simp only[cZ,zS]
end Dv
namespace L2
open PySem PySem.Spec PyProof.Rows
noncomputable abbrev Key:=Sum Int Str
noncomputable def oN:Key->Value->Bool
 |.inl k,v=>Value.isInt k v
 |.inr x,v=>Value.isStrOf x v
noncomputable def OG (w:World):Key->Int
 |.inl k=>hashInt k
 |.inr x=>hashStr w x
def cj:∀{k:Key}{v:Value},oN k v=true->(∃i t,k=Sum.inl i/\v=Value.int i t)\/(∃x t,k=Sum.inr x/\v=Value.str x t)
 |.inl i,v,h=>by obtain⟨t,e⟩:=Value.isInt_shape (k:=i) (v:=v) h;exact .inl ⟨i,t,rfl,e⟩
 |.inr x,v,h=>by obtain⟨t,e⟩:=Value.isStrOf_shape (x:=x) (v:=v) h;exact .inr ⟨x,t,rfl,e⟩
def Dt(i:Int)(t:Tok):oN (.inl i) (.int i t)=true:=by simp[oN,Value.isInt]
def Ct(x:Str)(t:Tok):oN (.inr x) (.str x t)=true:=by simp[oN,Value.isStrOf]
def J4(a b:Int):decide ((Sum.inl a:Key)=Sum.inl b)=(a==b):=by by_cases e:a=b;{subst e;simp};have h:¬(Sum.inl a:Key)=Sum.inl b:=λq=>e (Sum.inl.inj q);rw[Qm h];exact(beq_eq_false_iff_ne.mpr e).symm
def J5(a b:Str):decide ((Sum.inr a:Key)=Sum.inr b)=decide (a=b):=by by_cases e:a=b;{subst e;simp};have h:¬(Sum.inr a:Key)=Sum.inr b:=λq=>e (Sum.inr.inj q);rw[Qm h,Qm e]
def Jw(a:Int) (b:Str):decide ((Sum.inl a:Key)=Sum.inr b)=false:=Qm (λq=>nomatch q)
def Lz(a:Str) (b:Int):decide ((Sum.inr a:Key)=Sum.inl b)=false:=Qm (λq=>nomatch q)
noncomputable def cG (prog:Program)(w:World):PySem.KeyKind prog w Key where
 is:=oN
 hash:=OG w
 inj:=λv a b ha hb=>by
  rcases cj ha with⟨i,t,rfl,rfl⟩|⟨x,t,rfl,rfl⟩
  .rcases cj hb with⟨j,u,rfl,e⟩|⟨y,u,rfl,e⟩
   .injection e with e1 _;rw[e1]
   .exact nomatch e
  .rcases cj hb with⟨j,u,rfl,e⟩|⟨y,u,rfl,e⟩
   .exact nomatch e
   .injection e with e1 _;rw[e1]
 byValue:=λk v h=>by
  rcases cj h with⟨i,t,rfl,rfl⟩|⟨x,t,rfl,rfl⟩<;>rfl
 pyHash:=λhv h=>by
  rcases cj hv with⟨i,t,rfl,rfl⟩|⟨x,t,rfl,rfl⟩
  .exact wpAny_pyHash_int h
  .exact wpAny_pyHash_str h
 eqBool:=λhu hv h=>by
  rcases cj hu with⟨i,t,rfl,rfl⟩|⟨x,t,rfl,rfl⟩
  .rcases cj hv with⟨j,u,rfl,rfl⟩|⟨y,u,rfl,rfl⟩
   .rw[J4]at h;exact wpAny_eqBool_int h
   .rw[Jw]at h;exact SeqAt.EqAt.int_str i t y u _ _ _ _ h
  .rcases cj hv with⟨j,u,rfl,rfl⟩|⟨y,u,rfl,rfl⟩
   .rw[Lz]at h;exact SeqAt.EqAt.str_int x t j u _ _ _ _ h
   .rw[J5]at h;exact wpAny_eqBool_str h
 «strs»:=λk x t v h=>by
  rcases cj h with⟨i,u,rfl,e⟩|⟨y,u,rfl,e⟩
  .exact nomatch e
  .injection e with e1 _
   subst e1;cases v<;>rfl
def xH(prog:Program)(w:World) (i:Int)(t:Tok):(cG prog w).is (.inl i) (.int i t)=true:=Dt i t
def xy(prog:Program)(w:World) (x:Str)(t:Tok):(cG prog w).is (.inr x) (.str x t)=true:=Ct x t
set_option genInjectivity true in
inductive V where
 |aU|bl (b:Bool)|int (i:Int)|str (x:Str)|lX (b:Array UInt8)|yS (b:UInt64)|ref (a:Addr)|ty (n:String)
 deriving DecidableEq
noncomputable def RelV:V->Value->Prop
 |.aU,u=>u=Value.none
 |.bl b,u=>u=Value.bool b
 |.int i,u=>∃t,u=Value.int i t
 |.str x,u=>∃t,u=Value.str x t
 |.lX b,u=>∃t,u=Value.bytes b t
 |.yS b,u=>∃t,u=Value.float b t
 |.ref a,u=>u=Value.ref a
 |.ty n,u=>u=Value.type n
noncomputable abbrev Vals:List V->VD->Prop:=Paired RelV
theorem Vals.length{xs:List V}{us:VD}(r:Vals xs us):xs.length=us.length:=Paired.length r
theorem Vals.get:∀{xs:List V}{us:VD}{i:Nat}{x:V},Vals xs us->xs[i]?=some x->∃u,us[i]?=some u/\RelV x u
 |_,_,_,_,.nil,e=>by simp at e
 |_,_,0,_,.cons r _,e=>by simp at e;subst e;exact⟨_,rfl,r⟩
 |_,_,i+1,x,.cons _ t,e=>by obtain⟨u,h1,h2⟩:=Vals.get (i:=i) (x:=x) t (by simpa using e);exact⟨u,by simpa using h1,h2⟩
theorem Vals.set{x:V}{u:Value}(r:RelV x u):∀{xs:List V}{us:VD} (i:Nat),Vals xs us->Vals (xs.set i x) (us.set i u)
 |_,_,_,.nil=>.nil
 |_,_,0,.cons _ t=>.cons r t
 |_,_,i+1,.cons q t=>.cons q (Vals.set r i t)
theorem Vals.append:∀{xs ys:List V}{us ws:VD},Vals xs us->Vals ys ws->Vals (xs++ys) (us++ws)
 |_,_,_,_,.nil,s=>s
 |_,_,_,_,.cons r t,s=>.cons r (Vals.append t s)
theorem Vals.take:∀{xs:List V}{us:VD} (n:Nat),Vals xs us->Vals (xs.take n) (us.take n)
 |_,_,0,_=>.nil
 |_,_,_+1,.nil=>.nil
 |_,_,n+1,.cons r t=>.cons r (Vals.take n t)
theorem Vals.drop:∀{xs:List V}{us:VD} (n:Nat),Vals xs us->Vals (xs.drop n) (us.drop n)
 |_,_,0,r=>r
 |_,_,_+1,.nil=>.nil
 |_,_,n+1,.cons _ t=>Vals.drop n t
noncomputable def iU:Option V->Uz->Prop
 |some v,some u=>RelV v u
 |none,none=>True
 |_,_=>False
noncomputable def KV {κ:Type}:List (κ×V)->List (κ×Value)->Prop:=Paired λ(p:κ×V)(q:κ×Value)=>p.1=q.1/\RelV p.2 q.2
noncomputable def kV:Key->V
 |.inl i=>.int i
 |.inr x=>.str x
inductive HO where
 |lst (xs:List V)
 |tup (xs:List V)
 |dK (kvs:List (Key×V))|dT (kvs:List (List Key×V))
 |set (S:Int->Bool) (n:Nat)
 |ins (C dx:Addr)(fs:List (Str×V))
 |own (x:Addr)
 |xd (fs:List (Str×V))
 |met (f x:Addr)
 |pP (lo hi:Int)
 |dI (o:Obj)(u:HO)
 |ue (ps:VA)
 |ext (φ:Heap->Prop)
noncomputable abbrev Hp:=Addr->Option HO
noncomputable def upd (H:Hp)(a:Addr)(o:HO):Hp:=λb=>if b=a then some o else H b
def ay{H:Hp}{a:Addr}{o:HO}:upd H a o a=some o:=by unfold upd;rw[if_pos rfl]
def ai{H:Hp}{a b:Addr}{o:HO}(h:b≠a):upd H a o b=H b:=by unfold upd;rw[if_neg h]
def GP{H:Hp}{a b:Addr}{o u:HO}(h:H a=some o)(h':H b=some u)(d:o≠u):a≠b:=by intro e;subst e;rw[h]at h';exact d (Option.some.inj h')
def fc{H:Hp}{a b:Addr}{o:HO}(h:H a=some o)(h':H b=none):a≠b:=by intro e;subst e;rw[h]at h';cases h'
section
variable(P:Program)(w:World)
noncomputable def bg (H:Hp)(h:Heap)(a:Addr):HO->Prop
 |.lst xs=>xs.length<=sizeLine/\∃(its:VD) (n:Nat),Vals xs its/\h.get? a=some { cls:=.type "list",data:=.seq its.toArray n }
 |.tup xs=>xs.length<=sizeLine/\∃its:VD,Vals xs its/\IsTup h a its.toArray
 |.dK kvs=>kvs.length<=sizeLine/\(a==sysModules)=false/\∃vs,KV kvs vs/\h.DictOf (cG P w) a vs
 |.dT kvs=>kvs.length<=sizeLine/\(a==sysModules)=false/\∃xs:List (List Key×Addr×Value),
   Paired (λ(p:List Key×V)(q:List Key×Addr×Value)=>p.1=q.1/\H q.2.1=some (.tup (p.1.map kV))/\RelV p.2 q.2.2) kvs xs /\
   ∃o es ep,h.get? a=some o/\o.ExactDict/\o.data=.dict es ep/\es.toList=xs.map (entryOfKey (tupleKind (cG P w)))/\(xs.map (·.1)).Nodup
 |.set S n=>h.SetOf (intKind P w) a S n
 |.ins C dx fs=>H dx=some (.own a)/\fs.length<=1000/\dx≠a/\h.get? a=some (PySem.W.instObj C dx) /\
   ∃mA,h.Ns1 dx mA/\(∀f,iU (fs.lookup f) (mA f))/\PySem.Within mA (fs.map (·.1))
 |.own _=>∃o,h.get? a=some o
 |.xd fs=>∃mA,h.Ns1 a mA/\∀f,iU (fs.lookup f) (mA f)
 |.pP lo hi=>∃t u v,h.get? a=some { cls:=.type "range",data:=.fields #[.int lo t,.int hi u,.int 1 v] }
 |.dI o u=>h.get? a=some o/\bg H h a u
 |.ue ps=>h.get? a=some { cls:=.none,data:=.fields ps }
 |.met f x=>h.get? a=some (PySem.W.methodObj (.ref f) (.ref x))
 |.ext φ=>φ h/\(∃o,h.get? a=some o)/\∀h1 h2:Heap,φ h1->(∀o,h1.get? a=some o->h2.get? a=some o)->φ h2
noncomputable def cK (H:Hp)(h:Heap):Prop:=∀a o,H a=some o->bg P w H h a o
end
section
variable{P:Program}{w:World}{H H':Hp}{h h':Heap}{a:Addr}{o:HO}
theorem bg.lt(x:bg P w H h a o):a<h.objs.size:=by
 cases o with
 |lst xs=>obtain⟨_,_,_,_,e⟩:=x;exact QD e
 |tup xs=>obtain⟨_,_,_,p⟩:=x;exact p.lt
 |dK kvs=>obtain⟨_,_,_,_,o,_,_,e,_⟩:=x;exact QD e
 |dT kvs=>obtain⟨_,_,_,_,o,_,_,e,_⟩:=x;exact QD e
 |set S n=>obtain⟨o,_,_,_,e,_⟩:=x;exact QD e
 |ins C dx fs=>obtain⟨_,_,_,e,_⟩:=x;exact QD e
 |own y=>obtain⟨_,e⟩:=x;exact QD e
 |xd fs=>obtain⟨_,⟨_,_,_,e,_⟩,_⟩:=x;exact QD e
 |pP lo hi=>obtain⟨_,_,_,e⟩:=x;exact QD e
 |dI ob u=>obtain⟨e,_⟩:=x;exact QD e
 |ue ps=>exact QD (show h.get? a=some _ from x)
 |met f y=>exact QD (show h.get? a=some _ from x)
 |ext φ=>obtain⟨_,⟨_,e⟩,_⟩:=x;exact QD e
theorem Paired.EW{α β:Type}{F G:α->β->Prop}:∀{l₁:List α}{l₂:List β},Paired F l₁ l₂->(∀a b,F a b->G a b)->Paired G l₁ l₂
 |_,_,.nil,_=>.nil
 |_,_,.cons r t,f=>.cons (f _ _ r) (Paired.EW t f)
def bg.stay(x:bg P w H h a o)(k:∀b u,(b=a\/H b=some (.own a))->h.get? b=some u->h'.get? b=some u)(ho:∀b,H b=some (.own a)->H' b=some (.own a))(ht:∀b xs,H b=some (.tup xs)->H' b=some (.tup xs)):bg P w H' h' a o:=by
 induction o with
 |lst xs=>obtain⟨z,its,n,r,e⟩:=x;exact⟨z,its,n,r,k _ _ (.inl rfl) e⟩
 |tup xs=>obtain⟨z,its,r,ob,e,c⟩:=x;exact⟨z,its,r,ob,k _ _ (.inl rfl) e,c⟩
 |dK kvs=>obtain⟨z,y,vs,r,ob,es,ep,e,c⟩:=x;exact⟨z,y,vs,r,ob,es,ep,k _ _ (.inl rfl) e,c⟩
 |dT kvs=>obtain⟨z,y,xs,r,ob,es,ep,e,c⟩:=x;exact⟨z,y,xs,Paired.EW r λp q z=>⟨z.1,ht _ _ z.2.1,z.2.2⟩,ob,es,ep,k _ _ (.inl rfl) e,c⟩
 |set S n=>obtain⟨ob,es,ep,t,e,c⟩:=x;exact⟨ob,es,ep,t,k _ _ (.inl rfl) e,c⟩
 |ins C dx fs=>obtain⟨d,z,ne,e,mA,⟨od,es,ep,e2,c⟩,r⟩:=x;exact⟨ho _ d,z,ne,k _ _ (.inl rfl) e,mA,⟨od,es,ep,k _ _ (.inr d) e2,c⟩,r⟩
 |own y=>obtain⟨ob,e⟩:=x;exact⟨ob,k _ _ (.inl rfl) e⟩
 |xd fs=>obtain⟨mA,⟨od,es,ep,e,c⟩,r⟩:=x;exact⟨mA,⟨od,es,ep,k _ _ (.inl rfl) e,c⟩,r⟩
 |pP lo hi=>obtain⟨t,u,v,e⟩:=x;exact⟨t,u,v,k _ _ (.inl rfl) e⟩
 |dI ob u ih=>obtain⟨e,q⟩:=x;exact⟨k _ _ (.inl rfl) e,ih q⟩
 |ue ps=>have e:h.get? a=some { cls:=.none,data:=.fields ps }:=x;show h'.get? a=some { cls:=.none,data:=.fields ps };exact k a _ (.inl rfl) e
 |met f y=>have e:h.get? a=some (PySem.W.methodObj (.ref f) (.ref y)):=x;show h'.get? a=some (PySem.W.methodObj (.ref f) (.ref y));exact k a _ (.inl rfl) e
 |ext φ=>obtain⟨p,⟨o,e⟩,st⟩:=x;exact⟨st _ _ p λo q=>k _ _ (.inl rfl) q,⟨o,k _ _ (.inl rfl) e⟩,st⟩
theorem cK.lt(x:cK P w H h)(e:H a=some o):a<h.objs.size:=(x a o e).lt
def cK.fresh(x:cK P w H h)(e:h.objs.size<=a):H a=none:=by
 cases q:H a with
 |none=>rfl
 |some u=>exact absurd (Qg (x.lt q) e) (Qx _)
def cK.kept(x:cK P w H h)(k:∀b u,h.get? b=some u->h'.get? b=some u):cK P w H h':=λa o e=>
 (x a o e).stay (λb u _ q=>k b u q) (λ_ q=>q) λ_ _ q=>q
def cK.laid(x:cK P w H h)(k:∀b u,h.get? b=some u->h'.get? b=some u)(hp:h.objs.size<=a)(new:bg P w (upd H a o) h' a o):cK P w (upd H a o) h':=λb u e=>by have hn:=x.fresh hp;by_cases hb:b=a;{subst hb;rw[ay]at e;cases e;exact new};rw[ai hb]at e;exact(x b u e).stay (λc v _ q=>k c v q) (λc q=>by rw[ai (fc q hn)];exact q) λc xs q=>by rw[ai (fc q hn)];exact q
end
noncomputable def Rd (H:Hp)(a:Addr)(u:HO):Prop:=H a=some u\/∃o,H a=some (.dI o u)
def Rd.ok{P:Program}{w:World}{H:Hp}{h:Heap}{a:Addr}{u:HO}(r:Rd H a u)(x:cK P w H h):bg P w H h a u:=by rcases r with r|⟨o,r⟩;{exact x a u r};obtain⟨_,q⟩:=x a _ r;exact q
noncomputable def CO:Option HO->Prop
 |some (.lst _)=>True
 |some (.dK _)=>True
 |some (.dT _)=>True
 |some (.set _ _)=>True
 |some (.ins _ _ _)=>True
 |some (.ext _)=>True
 |_=>False
section
variable{P:Program}{w:World}{H:Hp}{h h':Heap}{x e:Addr}{o':HO}
def cK.write(ok:cK P w H h)(mu:CO (H x))(he:e=x\/H e=some (.own x))(k:∀b u,b≠e->h.get? b=some u->h'.get? b=some u)(heo:∃u,h'.get? e=some u)(new:bg P w (upd H x o') h' x o'):cK P w (upd H x o') h':=λb u q=>by
 have nown:∀c y,H c=some (.own y)->c≠x:=λc y r z=>by subst z;rw[r]at mu;exact mu
 have ntup:∀c xs,H c=some (.tup xs)->c≠x:=λc xs r z=>by subst z;rw[r]at mu;exact mu
 by_cases hb:b=x;{subst hb;rw[ay]at q;cases q;exact new};rw[ai hb]at q;by_cases hbe:b=e
 .have q':H b=some (.own x):=by rcases he with z|z;{exact absurd (hbe.trans z) hb};rw[hbe];exact z
  rw[q]at q';cases q';obtain⟨v,hv⟩:=heo;exact⟨v,by rw[hbe];exact hv⟩
 refine(ok b u q).stay (λc v hc r=>k c v ?_ r) (λc r=>by rw[ai (nown c b r)];exact r) λc xs r=>by rw[ai (ntup c xs r)];exact r
 rcases hc with rfl|hc;{exact hbe};rintro rfl;rcases he with z|z;{exact nown c b hc z};rw[hc]at z;cases z;exact hb rfl
end
structure Un(fs ex:VE)(H H':Hp)(h h':Heap):Prop where
 keep:∀b o,h.get? b=some o->H b=none->b∉fs->b∉ex->h'.get? b=some o
 slot:∀b o,h.get? b=some o->H b=none->b∈fs->b∉ex->∃sl,h'.get? b=some { o with slots:=sl }
 free:∀b o,h.get? b=some o->H b=none->b∉ex->H' b=none
 there:∀b o,h.get? b=some o->b∉ex->∃o',h'.get? b=some o'
 tups:∀b xs,H b=some (.tup xs)->H' b=some (.tup xs)
 jG:∀b o u,H b=some (.dI o u)->H' b=some (.dI o u)
 kU:∀b ps,H b=some (.ue ps)->∃more,H' b=some (.ue (ps++more))
section
variable{fs fs' ex ex':VE}{H H1 H2:Hp}{h h1 h2 h':Heap}{a x e:Addr}{o:HO}
def Un.any(u:Un fs ex H H1 h h1){b:Addr}{ob:Obj}(q:h.get? b=some ob)(n:H b=none)(hx:b∉ex):∃sl,h1.get? b=some { ob with slots:=sl }:=by by_cases hb:b∈fs;{exact u.slot b ob q n hb hx};exact⟨ob.slots,u.keep b ob q n hb hx⟩
def Un.kept(k:∀b u,h.get? b=some u->h'.get? b=some u):Un fs ex H H h h':=
 ⟨λb ob q _ _ _=>k b ob q,λb ob q _ _ _=>⟨ob.slots,k b ob q⟩,λ_ _ _ n _=>n,λb ob q _=>⟨ob,k b ob q⟩,λ_ _ q=>q,λ_ _ _ q=>q,λ_ ps q=>⟨#[],by rw[q];simp⟩⟩
def Un.refl:Un fs ex H H h h:=Un.kept λ_ _ q=>q
def Un.laid(k:∀b u,h.get? b=some u->h'.get? b=some u)(hp:h.objs.size<=a)(hn:H a=none):Un fs ex H (upd H a o) h h' where
 keep:=λb u q _ _ _=>k b u q
 slot:=λb u q _ _ _=>⟨u.slots,k b u q⟩
 free:=λb u q n _=>by rw[ai (QV (Qg (QD q) hp))];exact n
 there:=λb u q _=>⟨u,k b u q⟩
 tups:=λb xs q=>by rw[ai (fc q hn)];exact q
 jG:=λb u xs q=>by rw[ai (fc q hn)];exact q
 kU:=λb ps q=>⟨#[],by rw[ai (fc q hn),q];simp⟩
def Un.write(mu:CO (H x))(he:e=x\/H e=some (.own x))(k:∀b u,b≠e->h.get? b=some u->h'.get? b=some u)(heo:∃u,h'.get? e=some u):Un fs ex H (upd H x o) h h':=by
 have hx:∀b,H b=none->b≠x:=λb n z=>by subst z;rw[n]at mu;exact mu
 have hb:∀b,H b=none->b≠e:=λb n z=>by subst z;rcases he with r|r;{exact hx b n r};rw[n]at r;cases r
 have hm:∀b u,H b=some u->¬CO (some u)->b≠x:=λb u q nm z=>by subst z;rw[q]at mu;exact nm mu
 refine⟨λb u q n _ _=>k b u (hb b n) q,λb u q n _ _=>⟨u.slots,k b u (hb b n) q⟩,λb u q n _=>by rw[ai (hx b n)];exact n,λb u q _=>?_,
  λb xs q=>by rw[ai (hm b _ q λz=>z)];exact q,λb u xs q=>by rw[ai (hm b _ q λz=>z)];exact q,λb ps q=>⟨#[],by rw[ai (hm b _ q λz=>z),q];simp⟩⟩
 by_cases hbe:b=e;{subst hbe;exact heo};exact⟨u,k b u hbe q⟩
end
noncomputable def FO (h:Heap)(H:Hp):VE:=(List.range h.objs.size).filter λa=>(H a).isSome
noncomputable def mD (h:Heap)(H:Hp):Heap:=PySem.W.hideAll h (FO h H)
def A8(h:Heap)(H:Hp):(mD h H).objs.size=h.objs.size:=PySem.W.hideAll_size _ _
def EB{h:Heap}{H:Hp}{b:Addr}{o:Obj}(e:h.get? b=some o)(n:H b=none):(mD h H).get? b=some o:=
 PySem.W.hideAll_get _ e λhm=>by have q:(H b).isSome=true:=(Sv.mp hm).2;rw[n]at q;simp at q
def IL{h:Heap}{H:Hp}{b:Addr}{o:Obj}(e:(mD h H).get? b=some o):h.get? b=some o/\H b=none:=by
 have e':h.get? b=some o:=PySem.W.of_hideAll (FO h H) e;refine⟨e',?_⟩;cases q:H b with
 |none=>rfl
 |some x=>have hm:b∈FO h H:=Sv.mpr ⟨QM.mpr (QD e'),by simp[q]⟩;have z:(mD h H).get? b=none:=PySem.W.hideAll_none (FO h H) hm;rw[z]at e;cases e
structure Mod(K:Uy)(mg:Us)(base:Heap):Prop where
 Gn:K.In base
 glob:base.Ns mainGlobals mg
 blt:∃mb,base.Ns builtinsNs mb/\∀x:Str,x≠"__name__"->mb x=bootBuiltins x
 nolimit:base.NoLimit
structure Cx where
 prog:Program
 w:World
 K:Uy
 mg:Us
 base:Heap
 A:Around
 N:VL
 s₀:Shared
 H₀:Hp
 env:Env
 outer:List Env
 stack:List Env
 ex:VE
 fn:Str->Bool
 calm:Bool
 pn:Ut
 xe:Uq
noncomputable def frs (l:List Env):VE:=l.filterMap (·.frame)
noncomputable abbrev Cx.fs (X:Cx):VE:=frs X.outer
noncomputable def jV (sc:Scope) (x:Str):Prop:=sc.names.lookup x=some .local\/sc.names.lookup x=some .cell\/sc.names.lookup x=some .free
noncomputable def Loc (sc:Scope) (x:Str):Prop:=sc.names.lookup x=some .local\/sc.names.lookup x=some .cell
noncomputable def Look (env:Env)(h:Heap)(m:Us) (x:Str)(u:Value):Prop:=
 (env.kindOf x=some .local/\m x=some u)\/((env.kindOf x=some .cell\/env.kindOf x=some .free)/\∃c,env.cells.lookup x=some c/\h.IsCell c (some u))
structure Cx.Ok(X:Cx):Prop where
 mod:Mod X.K X.mg X.base
 kind:X.env.scope.kind=.function
 glob:X.env.globals=mainGlobals
 blt:X.env.builtins=builtinsNs
 above:X.s₀.heap.objs.size<=X.env.locals
 inj:∀x y c,X.env.cells.lookup x=some c->X.env.cells.lookup y=some c->x=y
 has:∀x,(X.env.kindOf x=some .cell\/X.env.kindOf x=some .free)->∃c,X.env.cells.lookup x=some c
 GF:∀x c,X.fn x=true->X.env.cells.lookup x=some c->X.s₀.heap.objs.size<=c
 hd:X.calm=true->X.A.handled=none
 frames:X.A.frames=some X.stack
 stk:X.stack=X.outer\/(X.stack=X.env::X.outer/\X.env.frame=some X.env.locals)
 P1:∀b∈X.ex,b≠X.env.locals/\∀x c,X.env.cells.lookup x=some c->c≠b
 bs:∀b o,X.base.get? b=some o->X.s₀.heap.get? b=some o/\X.H₀ b=none
 yT:X.base.objs.size<=X.s₀.heap.objs.size
 Ax:∀b o,X.base.get? b=some o->b∉X.ex
 Fi:∀b∈X.ex,b∉X.fs
 kQ:X.s₀.heap.FunFrames X.base X.outer
 Cu:∀b∈X.fs,X.H₀ b=none
structure Inv(X:Cx)(pins:Ut)(U:List (Option V))(H:Hp)(s:Shared):Prop where
 ok:X.Ok
 os:s.os=X.s₀.os
 bare:AllBare s.gens
 base:Un X.fs X.ex X.H₀ H X.s₀.heap s.heap
 loc:∃m,s.heap.Ns X.env.locals m/\∀(i:Nat) (x:Str) (v:V),X.N[i]?=some x->U[i]?=some (some v)->jV X.env.scope x->∃u,RelV v u/\Look X.env s.heap m x u
 cell:∀x c,X.env.cells.lookup x=some c->∃v,s.heap.IsCell c v
 free:H X.env.locals=none
 jf:∀x c,X.env.cells.lookup x=some c->H c=none
 pin:∀p∈X.pn++pins,s.heap.get? p.1=some p.2/\H p.1=none/\p.1≠X.env.locals/\p.1∉X.fs/\∀v,p.2.data≠.cell v
 hok:cK X.prog X.w H s.heap
 len:U.length=X.N.length
section
variable{X:Cx}{pins:Ut}{U:List (Option V)}{H H':Hp}{s:Shared}{h':Heap}
def Cx.Ok.OP(ok:X.Ok){b:Addr}{o:Obj}(e:X.base.get? b=some o):b∉X.fs:=λhb=>by have:=(ok.kQ.mem hb).1;rw[e]at this;cases this
theorem Inv.bs(I:Inv X pins U H s):∀b o,X.base.get? b=some o->s.heap.get? b=some o/\H b=none:=λb o e=>
 ⟨I.base.keep b o (I.ok.bs b o e).1 (I.ok.bs b o e).2 (I.ok.OP e) (I.ok.Ax b o e),I.base.free b o (I.ok.bs b o e).1 (I.ok.bs b o e).2 (I.ok.Ax b o e)⟩
def Inv.bk(I:Inv X pins U H s):∀b o,X.base.get? b=some o->s.heap.get? b=some o:=λb o e=>(I.bs b o e).1
theorem Inv.mod(I:Inv X pins U H s):Mod X.K X.mg X.base:=I.ok.mod
def Inv.gc(I:Inv X pins U H s):X.K.In s.heap:=I.ok.mod.Gn.keeps I.bk
theorem Inv.lt(I:Inv X pins U H s):X.env.locals<s.heap.objs.size:=let⟨_,hn,_⟩:=I.loc;hn.lt
def Inv.sz(I:Inv X pins U H s):X.s₀.heap.objs.size<=s.heap.objs.size:=Qd I.ok.above (Nat.le_of_lt I.lt)
def Inv.Kq(I:Inv X pins U H s){a:Addr}(h:s.heap.objs.size<=a):a∉X.fs:=λhb=>by obtain⟨_,o,ho,_⟩:=I.ok.kQ.mem hb;exact absurd (Qg (QD ho) (Qd I.sz h)) (Qx _)
def Inv.wB(I:Inv X pins U H s):∀x c,X.env.cells.lookup x=some c->c≠X.env.locals:=λx c e z=>by obtain⟨v,o,ho,hd⟩:=I.cell x c e;obtain⟨m,⟨o',es,ep,ho',hd',_⟩,_⟩:=I.loc;rw[z,ho']at ho;cases ho;rw[hd']at hd;cases hd
theorem Inv.kQ(I:Inv X pins U H s):s.heap.FunFrames X.base X.outer:=by
 have all:∀(l:List Env),(∀b∈frs l,b∈X.fs)->X.s₀.heap.FunFrames X.base l->s.heap.FunFrames X.base l:=by
  intro l;induction l with
  |nil=>intro _ _;trivial
  |cons env r ih=>intro hs hl;obtain⟨hk,⟨L,o,hf,hn,ho,hd⟩,hr⟩:=hl;have hL:L∈X.fs:=hs L (by unfold frs;rw[S6,hf];exact Q4);obtain⟨sl,e⟩:=I.base.slot L o ho (I.ok.Cu L hL) hL λz=>I.ok.Fi L z hL;exact⟨hk,⟨L,_,hf,hn,e,hd⟩,ih (λb hb=>hs b (by unfold frs;rw[S6,hf];exact QB _ hb)) hr⟩
 exact all X.outer (λ_ hb=>hb) I.ok.kQ
theorem Inv.stack(I:Inv X pins U H s):s.heap.FunFrames X.base X.stack:=by rcases I.ok.stk with e|⟨e,hf⟩;{rw[e];exact I.kQ};rw[e];obtain⟨m,hn,_⟩:=I.loc;refine .cons (by rw[I.ok.kind];decide) hf hn ?_ I.kQ;exact UJ (Qd I.ok.yT I.ok.above)
def Inv.n6(I:Inv X pins U H s):∀b∈frs X.stack,b∈X.env.locals::X.fs:=λb hb=>by rcases I.ok.stk with e|⟨e,hf⟩;{rw[e]at hb;exact QB _ hb};rw[e]at hb;unfold frs at hb;rw[S6,hf]at hb;exact hb
def Inv.rY(I:Inv X pins U H s):∀b∈frs X.stack,H b=none:=λb hb=>by rcases QG.mp (I.n6 b hb)with e|hb;{rw[e];exact I.free};obtain⟨_,o,ho,_⟩:=I.ok.kQ.mem hb;exact I.base.free b o ho (I.ok.Cu b hb) λz=>I.ok.Fi b z hb
def Inv.step{g':Array GenState}{t':Nat}{d':Drawn}{ch:VE}(I:Inv X pins U H s)(hch:∀b∈ch,(b∈X.ex\/X.s₀.heap.objs.size<=b)/\b≠X.env.locals/\(∀x c,X.env.cells.lookup x=some c->c≠b)/\∀p∈X.pn++pins,p.1≠b)(keep:∀b o,b≠X.env.locals->b∉X.fs->b∉ch->s.heap.get? b=some o->H b=none->h'.get? b=some o)(slot:∀b o,b≠X.env.locals->b∈X.fs->b∉ch->s.heap.get? b=some o->H b=none->∃sl,h'.get? b=some { o with slots:=sl })(free:∀b o,b∉ch->s.heap.get? b=some o->H b=none->H' b=none)(there:∀b o,b∉ch->s.heap.get? b=some o->∃o',h'.get? b=some o')(tups:∀b xs,H b=some (.tup xs)->H' b=some (.tup xs))(jG:∀b o u,H b=some (.dI o u)->H' b=some (.dI o u))(kU:∀b ps,H b=some (.ue ps)->∃more,H' b=some (.ue (ps++more)))(ns:∀m,s.heap.Ns X.env.locals m->h'.Ns X.env.locals m)(hok:cK X.prog X.w H' h')(hg:AllBare g') : Inv X pins U H' { s with heap:=h',gens:=g',drawn:=d',toks:=t' }:=by
 have neL:∀b o,X.s₀.heap.get? b=some o->b≠X.env.locals:=λb o e=>QV (Qg (QD e) I.ok.above);have neC:∀b o,X.s₀.heap.get? b=some o->b∉X.ex->b∉ch:=λb o e hx hb=>by rcases(hch b hb).1 with z|z;{exact hx z};exact absurd (Qg (QD e) z) (Qx _)
 have cellK:∀x c,X.env.cells.lookup x=some c->∀v,s.heap.IsCell c v->h'.IsCell c v:=λx c e v ⟨o,ho,hd⟩=>by have nch:c∉ch:=λz=>(hch c z).2.2.1 x c e rfl;by_cases hc:c∈X.fs;{obtain⟨sl,q⟩:=slot c o (I.wB x c e) hc nch ho (I.jf x c e);exact⟨_,q,hd⟩};exact⟨o,keep c o (I.wB x c e) hc nch ho (I.jf x c e),hd⟩
 refine⟨I.ok,I.os,hg,⟨λb o e n hb hx=>?_,λb o e n hb hx=>?_,λb o e n hx=>?_,λb o e hx=>?_,λb xs e=>tups b xs (I.base.tups b xs e),λb o xs e=>jG b o xs (I.base.jG b o xs e),λb ps e=>?_⟩,?_,λx c e=>?_,?_,λx c e=>?_,λp hp=>?_,hok,I.len⟩;{exact keep b o (neL b o e) hb (neC b o e hx) (I.base.keep b o e n hb hx) (I.base.free b o e n hx)};{obtain⟨sl,e1⟩:=I.base.slot b o e n hb hx;obtain⟨sl',e2⟩:=slot b _ (neL b o e) hb (neC b o e hx) e1 (I.base.free b o e n hx);exact⟨sl',e2⟩};{obtain⟨o',e1⟩:=I.base.there b o e hx;exact free b o' (neC b o e hx) e1 (I.base.free b o e n hx)};{obtain⟨o',e1⟩:=I.base.there b o e hx;exact there b o' (neC b o e hx) e1};{obtain⟨m1,e1⟩:=I.base.kU b ps e;obtain⟨m2,e2⟩:=kU b _ e1;exact⟨m1++m2,by rw[e2,Array.append_assoc]⟩};{obtain⟨m,hn,hl⟩:=I.loc;refine⟨m,ns m hn,λi x v e1 e2 e3=>?_⟩;obtain⟨u,r,l⟩:=hl i x v e1 e2 e3;refine⟨u,r,?_⟩;rcases l with l|⟨k,c,e,z⟩;{exact .inl l};exact .inr ⟨k,c,e,cellK x c e _ z⟩};{obtain⟨v,z⟩:=I.cell x c e;exact⟨v,cellK x c e v z⟩};{obtain⟨m,⟨o,_,_,ho,_⟩,_⟩:=I.loc;exact free _ o (λz=>(hch _ z).2.1 rfl) ho I.free};{obtain⟨v,o,ho,hd⟩:=I.cell x c e;exact free c o (λz=>(hch c z).2.2.1 x c e rfl) ho (I.jf x c e)};obtain⟨e,n,ne,nf,d⟩:=I.pin p hp;have nch:p.1∉ch:=λz=>(hch p.1 z).2.2.2 p hp rfl;exact⟨keep p.1 p.2 ne nf nch e n,free p.1 p.2 nch e n,ne,nf,d⟩
def Inv.un{t':Nat}(I:Inv X pins U H s)(u:Un X.fs [] H H' s.heap h')(hok:cK X.prog X.w H' h'):Inv X pins U H' { s with heap:=h',toks:=t' }:=by
 obtain⟨m,⟨o,es,ep,ho,r⟩,_⟩:=id I.loc;obtain⟨sl,hL⟩:=u.any ho I.free (by simp);exact I.step (g':=s.gens) (d':=s.drawn) (ch:=[]) (λ_ z=>nomatch z) (λb o _ hb _ e n=>u.keep b o e n hb (by simp)) (λb o _ hb _ e n=>u.slot b o e n hb (by simp)) (λb o _ e n=>u.free b o e n (by simp)) (λb o _ e=>u.there b o e (by simp)) u.tups u.jG u.kU (λm' hm=>by
  obtain⟨o',es',ep',ho',r'⟩:=hm;rw[ho]at ho';cases ho';exact⟨_,es',ep',hL,r'⟩) hok I.bare
def Inv.call{g':Array GenState}{t':Nat}{d':Drawn}{ch:VE}(I:Inv X pins U H s)(u:Un (frs X.stack) ch H H' s.heap h')(hok:cK X.prog X.w H' h')(hg:AllBare g')(hch:∀b∈ch,(b∈X.ex\/X.s₀.heap.objs.size<=b)/\b≠X.env.locals/\(∀x c,X.env.cells.lookup x=some c->c≠b)/\∀p∈X.pn++pins,p.1≠b) : Inv X pins U H' { s with heap:=h',gens:=g',drawn:=d',toks:=t' }:=by
 obtain⟨m,⟨o,es,ep,ho,r⟩,_⟩:=id I.loc;obtain⟨sl,hL⟩:=u.any ho I.free λz=>(hch _ z).2.1 rfl;exact I.step (ch:=ch) hch (λb o hL hb hc e n=>u.keep b o e n (λz=>(QG.mp (I.n6 b z)).elim hL hb) hc) (λb o _ _ hc e n=>u.any e n hc) (λb o hc e n=>u.free b o e n hc) (λb o hc e=>u.there b o e hc) u.tups u.jG u.kU (λm' hm=>by
  obtain⟨o',es',ep',ho',r'⟩:=hm;rw[ho]at ho';cases ho';exact⟨_,es',ep',hL,r'⟩) hok hg
def Inv.turned{t':Nat}{it:Addr}(I:Inv X pins U H s)(k:∀b o,b≠it->s.heap.get? b=some o->h'.get? b=some o)(hn:H it=none)(hL:it≠X.env.locals)(h1:it∈X.ex\/X.s₀.heap.objs.size<=it)(h2:∀x c,X.env.cells.lookup x=some c->c≠it)(h3:∀p∈X.pn++pins,p.1≠it):Inv X pins U H { s with heap:=h',toks:=t' }:=by
 have nit:∀b u,H b=some u->b≠it:=λb u e z=>by rw[z,hn]at e;cases e
 refine I.step (g':=s.gens) (d':=s.drawn) (ch:=[it]) (λb hb=>?_) (λb o _ _ hc e _=>k b o (λz=>hc (by simp[z])) e) (λb o _ _ hc e _=>⟨o.slots,k b o (λz=>hc (by simp[z])) e⟩) (λ_ _ _ _ n=>n)
  (λb o hc e=>⟨o,k b o (λz=>hc (by simp[z])) e⟩) (λ_ _ e=>e) (λ_ _ _ e=>e) (λb ps e=>⟨#[],by rw[e];simp⟩) (λm hm=>?_) (λb u e=>?_) I.bare
 .have e:b=it:=by simpa using hb
  subst e;exact⟨h1,hL,h2,h3⟩
 .obtain⟨o,es,ep,ho,r⟩:=hm;exact⟨o,es,ep,k _ o (Ne.symm hL) ho,r⟩
 refine(I.hok b u e).stay (λc v hc q=>k c v ?_ q) (λ_ q=>q) λ_ _ q=>q;rcases hc with z|z;{rw[z];exact nit b u e};exact nit c _ z
def Inv.tok(I:Inv X pins U H s) (t:Nat):Inv X pins U H { s with toks:=t }:=I.un (h':=s.heap) (t':=t) Un.refl I.hok
theorem Inv.kept{t':Nat}(I:Inv X pins U H s)(k:∀b u,s.heap.get? b=some u->h'.get? b=some u):Inv X pins U H { s with heap:=h',toks:=t' }:=I.un (Un.kept k) (I.hok.kept k)
theorem Inv.laid{a:Addr}{o:HO}{t':Nat}(I:Inv X pins U H s)(k:∀b u,s.heap.get? b=some u->h'.get? b=some u)(hp:s.heap.objs.size<=a)(new:bg X.prog X.w (upd H a o) h' a o) : Inv X pins U (upd H a o) { s with heap:=h',toks:=t' }:=I.un (Un.laid k hp (I.hok.fresh hp)) (I.hok.laid k hp new)
theorem Inv.write{x e:Addr}{o:HO}{t':Nat}(I:Inv X pins U H s)(mu:CO (H x))(he:e=x\/H e=some (.own x))(k:∀b u,b≠e->s.heap.get? b=some u->h'.get? b=some u)(heo:∃u,h'.get? e=some u)(new:bg X.prog X.w (upd H x o) h' x o):Inv X pins U (upd H x o) { s with heap:=h',toks:=t' }:=I.un (Un.write mu he k heo) (I.hok.write mu he k heo new)
def Inv.k9{pins':Ut}(I:Inv X pins U H s)(h:∀p∈pins',s.heap.get? p.1=some p.2/\H p.1=none/\p.1≠X.env.locals/\p.1∉X.fs/\∀v,p.2.data≠.cell v):Inv X pins' U H s:=
 ⟨I.ok,I.os,I.bare,I.base,I.loc,I.cell,I.free,I.jf,λp hp=>(QL.mp hp).elim (λz=>I.pin p (UK _ z)) (h p),I.hok,I.len⟩
def uV{N:VL}(hN:N.Nodup){i j:Nat}{x:Str}(a:N[i]?=some x)(b:N[j]?=some x):i=j:=by obtain⟨h1,e1⟩:=SQ.mp a;obtain⟨h2,e2⟩:=SQ.mp b;exact(List.getElem_inj hN).mp (e1.trans e2.symm)
def tG{M:Model}{A:Around}{E:Uq}{i:Nat}{x:Str}{v:V}{u:Value}{Q:Unit->Shared->Prop}(I:Inv X pins U H s)(hN:X.N.Nodup)(hi:X.N[i]?=some x)(hx:Loc X.env.scope x)(r:RelV v u)(h:∀s',Inv X pins (U.set i (some v)) H s'->(∃a,Heap.SameBut a s.heap s'.heap/\(a=X.env.locals\/X.env.cells.lookup x=some a))->Q () s')(hf:X.fn x=true\/X.env.scope.names.lookup x=some .local:=by first|exact .inl rfl|exact .inr rfl|assumption):wpAny M A (storeName X.env x u) Q E s:=by
 obtain⟨m,hn,hl⟩:=id I.loc;have hcls:(X.env.scope.kind == .class||(X.env.scope.kind == .module&&X.env.locals != X.env.globals))=false:=by rw[I.ok.kind];rfl
 have hiσ:i<U.length:=by rw[I.len];exact(SQ.mp hi).1
 have wB:=I.wB;have tracked:∀{a:Addr}{h':Heap},(∃o,s.heap.get? a=some o/\H a=none)->Heap.SameBut a s.heap h'->cK X.prog X.w H h':=λ{a h'} ha hs b ob e=>by obtain⟨_,_,hfree⟩:=ha;refine(I.hok b ob e).stay (λc w' hc q=>(hs.2 c ?_).trans q) (λ_ q=>q) λ_ _ q=>q;rintro rfl;rcases hc with rfl|hc;{rw[hfree]at e;cases e};rw[hfree]at hc;cases hc
 rcases hx with hk|hk;{refine wpAny_storeName_local hk hn (λh' hn' hs=>?_) hcls;obtain⟨oL,_,_,hoL,_⟩:=id hn;refine h _ ⟨I.ok,I.os,I.bare,⟨λb o e n hb hx=>?_,λb o e n hb hx=>?_,I.base.free,λb o e hx=>?_,I.base.tups,I.base.jG,I.base.kU⟩,⟨_,hn',λj y v' e1 e2 e3=>?_⟩,λy c e=>?_,I.free,I.jf,λp hp=>?_,tracked ⟨oL,hoL,I.free⟩ hs,by simpa using I.len⟩ ⟨_,hs,.inl rfl⟩;{exact(hs.2 b (QV (Qg (QD e) I.ok.above))).trans (I.base.keep b o e n hb hx)};{obtain⟨sl,e1⟩:=I.base.slot b o e n hb hx;exact⟨sl,(hs.2 b (QV (Qg (QD e) I.ok.above))).trans e1⟩};{obtain⟨o',e1⟩:=I.base.there b o e hx;exact⟨o',(hs.2 b (QV (Qg (QD e) I.ok.above))).trans e1⟩};{by_cases hj:j=i;{subst hj;rw[hi]at e1;cases e1;rw[Ro hiσ]at e2;cases e2;exact⟨u,r,.inl ⟨hk,by simp⟩⟩};rw[RT (Ne.symm hj)]at e2;obtain⟨u',r',q⟩:=hl j y v' e1 e2 e3;refine⟨u',r',?_⟩;rcases q with⟨k,e⟩|⟨k,c,e,z⟩;{refine .inl ⟨k,?_⟩;have:y≠x:=λe=>hj (uV hN e1 (e▸hi));simp[this,e]};exact .inr ⟨k,c,e,z.sameBut hs (wB y c e)⟩};{obtain⟨w',z⟩:=I.cell y c e;exact⟨w',z.sameBut hs (wB y c e)⟩};obtain⟨e,n,ne,nf,d⟩:=I.pin p hp;exact⟨(hs.2 p.1 ne).trans e,n,ne,nf,d⟩};have hfn:X.fn x=true:=by rcases hf with z|z;{exact z};rw[z]at hk;cases hk
 obtain⟨c,hc⟩:=I.ok.has x (.inl hk);obtain⟨w',z⟩:=I.cell x c hc;refine wpAny_storeName_cell I.ok.kind hk hc z (λh' hc' hs=>?_);obtain⟨oc,hoc,hocd⟩:=id z;refine h { s with heap:=h' } ⟨I.ok,I.os,I.bare,⟨λb o e n hb hx=>?_,λb o e n hb hx=>?_,I.base.free,λb o e hx=>?_,I.base.tups,I.base.jG,I.base.kU⟩,⟨m,hn.sameBut hs (Ne.symm (wB x c hc)),λj y v' e1 e2 e3=>?_⟩,λy c' e=>?_,I.free,I.jf,λp hp=>?_,tracked ⟨oc,hoc,I.jf x c hc⟩ hs,by simpa using I.len⟩ ⟨c,hs,.inr hc⟩;{exact(hs.2 b (QV (Qg (QD e) (I.ok.GF x c hfn hc)))).trans (I.base.keep b o e n hb hx)};{obtain⟨sl,e1⟩:=I.base.slot b o e n hb hx;exact⟨sl,(hs.2 b (QV (Qg (QD e) (I.ok.GF x c hfn hc)))).trans e1⟩};{obtain⟨o',e1⟩:=I.base.there b o e hx;exact⟨o',(hs.2 b (QV (Qg (QD e) (I.ok.GF x c hfn hc)))).trans e1⟩};{by_cases hj:j=i;{subst hj;rw[hi]at e1;cases e1;rw[Ro hiσ]at e2;cases e2;exact⟨u,r,.inr ⟨.inl hk,c,hc,hc'⟩⟩};rw[RT (Ne.symm hj)]at e2;obtain⟨u',r',q⟩:=hl j y v' e1 e2 e3;refine⟨u',r',?_⟩;rcases q with q|⟨k,c',e,z'⟩;{exact .inl q};refine .inr ⟨k,c',e,z'.sameBut hs ?_⟩;rintro rfl;exact hj (uV hN e1 (I.ok.inj _ _ _ e hc▸hi))};{by_cases hcc:c'=c;{subst hcc;exact⟨_,hc'⟩};obtain⟨w2,z2⟩:=I.cell y c' e;exact⟨w2,z2.sameBut hs hcc⟩};obtain⟨e,n,ne,nf,d⟩:=I.pin p hp;refine⟨(hs.2 p.1 ?_).trans e,n,ne,nf,d⟩;intro q;rw[q,hoc]at e;have q':oc=p.2:=Option.some.inj e;exact d w' (by rw[<-q'];exact hocd)
def qc{M:Model}{A:Around}{E:Uq}{i:Nat}{x:Str}{v:V}{u:Value}{Q:Unit->Shared->Prop}(I:Inv X pins U H s)(hN:X.N.Nodup)(hi:X.N[i]?=some x)(hx:Loc X.env.scope x)(r:RelV v u)(h:∀s',Inv X pins (U.set i (some v)) H s'->Q () s')(hf:X.fn x=true\/X.env.scope.names.lookup x=some .local:=by first|exact .inl rfl|exact .inr rfl|assumption):wpAny M A (storeName X.env x u) Q E s:=
 tG I hN hi hx r (λs' I' _=>h s' I') hf
def Inv.FD{s':Shared}{ch:VE}(I:Inv X pins U H s)(ho:s'.os=s.os)(u:Un (frs X.stack) ch H H' s.heap s'.heap)(hok:cK X.prog X.w H' s'.heap)(hg:AllBare s'.gens)(hch:∀b∈ch,(b∈X.ex\/X.s₀.heap.objs.size<=b)/\b≠X.env.locals/\(∀x c,X.env.cells.lookup x=some c->c≠b)/\∀p∈X.pn++pins,p.1≠b):Inv X pins U H' s':=by obtain⟨h',g',d',t',o'⟩:=s';have e:o'=s.os:=ho;subst e;exact I.call (g':=g') (t':=t') (d':=d') u hok hg hch
end
noncomputable abbrev XK:=Value->VC->Hp->Prop
noncomputable abbrev St:=List (Option V)
noncomputable abbrev VK:=V->Hp->Prop
noncomputable abbrev TE:=St->Hp->VK->Prop
noncomputable abbrev TT:=St->Hp->(Bool->Hp->Prop)->Prop
noncomputable abbrev TA:=St->Hp->(List V->Hp->Prop)->Prop
structure Ends where
 nx:St->Hp->Prop
 rt:VK
 bk:St->Hp->Prop:=λ_ _=>False
 ct:St->Hp->Prop:=λ_ _=>False
noncomputable abbrev TS:=Ends->St->Hp->Prop
noncomputable def EP (X:Cx)(pins:Ut)(U:St)(Q:VK)(u:Value)(s':Shared):Prop:=∃v H',Inv X pins U H' s'/\RelV v u/\Q v H'
noncomputable def TP (X:Cx)(pins:Ut)(U:St)(Q:Bool->Hp->Prop)(b:Bool)(s':Shared):Prop:=∃H',Inv X pins U H' s'/\Q b H'
noncomputable def AP (X:Cx)(pins:Ut)(U:St)(Q:List V->Hp->Prop)(us:VD)(s':Shared):Prop:=∃vs H',Inv X pins U H' s'/\Vals vs us/\Q vs H'
noncomputable def SP (X:Cx)(pins:Ut)(D:Ends)(f:Flow)(s':Shared):Prop:=
 match f with
 |.next=>∃σ' H',Inv X pins σ' H' s'/\D.nx σ' H'
 |.brk=>∃σ' H',Inv X pins σ' H' s'/\D.bk σ' H'
 |.cont=>∃σ' H',Inv X pins σ' H' s'/\D.ct σ' H'
 |.ret u=>∃v σ' H',Inv X pins σ' H' s'/\RelV v u/\D.rt v H'
noncomputable def PE (X:Cx)(e:Expr)(t:TE):Prop:=
 ∀(pins:Ut)(s:Shared)(U:St)(H:Hp)(Q:VK),Inv X pins U H s->t U H Q->wpAny (model X.prog X.w) X.A (eval e X.env) (EP X pins U Q) X.xe s
noncomputable def PT (X:Cx)(e:Expr)(t:TT):Prop:=
 ∀(pins:Ut)(s:Shared)(U:St)(H:Hp)(Q:Bool->Hp->Prop),Inv X pins U H s->t U H Q->wpAny (model X.prog X.w) X.A (isTrue e X.env (eval e X.env)) (TP X pins U Q) X.xe s
noncomputable def PW (X:Cx)(e:Expr)(t:TT):Prop:=
 ∀(whole:Sem Value)(pins:Ut)(s:Shared)(U:St)(H:Hp)(Q:Bool->Hp->Prop),Inv X pins U H s->t U H Q->wpAny (model X.prog X.w) X.A (isTrue e X.env whole) (TP X pins U Q) X.xe s
def PW.pt{X:Cx}{e:Expr}{t:TT}(h:PW X e t):PT X e t:=h _
noncomputable def PA (X:Cx)(es:VG)(t:TA):Prop:=
 ∀(pos:Pos)(pins:Ut)(s:Shared)(U:St)(H:Hp)(Q:List V->Hp->Prop),Inv X pins U H s->t U H Q->wpAny (model X.prog X.w) X.A (spliced (backTo pos (starEach es X.env))) (AP X pins U Q) X.xe s
noncomputable def PS (X:Cx)(st:Stmt)(t:TS):Prop:=
 ∀(pins:Ut)(s:Shared)(U:St)(H:Hp)(D:Ends),Inv X pins U H s->t D U H->wpAny (model X.prog X.w) X.A (exec st X.env) (SP X pins D) X.xe s
noncomputable def mW (X:Cx)(st:VH)(t:TS):Prop:=
 ∀(pins:Ut)(s:Shared)(U:St)(H:Hp)(D:Ends),Inv X pins U H s->t D U H->wpAny (model X.prog X.w) X.A (execs st X.env) (SP X pins D) X.xe s
def aJ{α:Type}{t:Sem α}{Q Q':α->Shared->Prop}{M:Model}{A:Around}{E:Uq}{s:Shared}(h:wpAny M A t Q E s)(hQ:∀a s,Q a s->Q' a s):wpAny M A t Q' E s:=RC h hQ λ_ _ x=>x
section
variable{X:Cx}
inductive GN(i:Nat)(U:St)(H:Hp)(Q:VK):Prop
 |mk:∀v,(U[i]?=some (some v))->(Q v H)->GN i U H Q
noncomputable def jw (i:Nat):TE:=λU H Q=>GN i U H Q
noncomputable def tC (v:V):TE:=λ_ H Q=>Q v H
def eN{i:Nat}{x:Str}{pos:Pos}(hN:X.N[i]?=some x)(hv:jV X.env.scope x)(hd:(x==("__debug__":Str))=false:=by decide)(hcd:(x==("__classdict__":Str))=false:=by decide):PE X (.Name x pos) (jw i):=by intro pins s U H Q I h;obtain⟨v,e,h⟩:=h;obtain⟨m,hn,hl⟩:=I.loc;obtain⟨u,r,l⟩:=hl i x v hN e hv;have fin:EP X pins U Q u s:=⟨v,H,I,r,h⟩;rcases l with⟨hk,hm⟩|⟨hk,c,hc,hcell⟩;{exact wpAny_Name (wpAny_loadName_local I.ok.kind hk hn hm fin) hd};rcases hk with hk|hk;{exact wpAny_Name (wpAny_loadName_cell I.ok.kind hk hc hcell fin) hd};exact wpAny_Name (wpAny_loadName_free I.ok.kind hk hc hcell fin hcd) hd
def LM{i j pos}:PE X (.Constant (.int i) j pos) (tC (.int i)):=λ_ _ _ H _ I h=>wpAny_Constant_int ⟨.int i,H,I.tok _,⟨_,rfl⟩,h⟩
def Mm{b j pos}:PE X (.Constant (.bool b) j pos) (tC (.bl b)):=λ_ _ _ H _ I h=>Constant_bool ⟨.bl b,H,I,rfl,h⟩
def Lo{j pos}:PE X (.Constant .none j pos) (tC .aU):=λ_ _ _ H _ I h=>Constant_none ⟨.aU,H,I,rfl,h⟩
def Di{x j pos}:PE X (.Constant (.str x) j pos) (tC (.str x)):=λ_ _ _ H _ I h=>Calls.Constant_str ⟨.str x,H,I.tok _,⟨_,rfl⟩,h⟩
noncomputable def Gl (X:Cx) (x:Str):Prop:=X.env.kindOf x=some .globalImplicit
def sf{E:Uq}{pins:Ut}{s:Shared}{U:St}{H:Hp}{x:Str}{u:Value}{pos:Pos}{Q:Uq}(I:Inv X pins U H s)(hg:Gl X x)(hm:X.mg x=some u)(h:Q u s)(hd:(x==("__debug__":Str))=false:=by decide):wpAny (model X.prog X.w) X.A (eval (.Name x pos) X.env) Q E s:=
 Calls.Name_function_global I.ok.kind hg (Calls.loadGlobal_global (by rw[I.ok.glob];exact I.mod.glob.keeps I.bk) hm h) hd
def iJ{E:Uq}{pins:Ut}{s:Shared}{U:St}{H:Hp}{x:Str}{u:Value}{pos:Pos}{Q:Uq}(I:Inv X pins U H s)(hg:Gl X x)(hm:X.mg x=none)(hv:bootBuiltins x=some u)(h:Q u s)(hn:x≠"__name__":=by decide)(hd:(x==("__debug__":Str))=false:=by decide):wpAny (model X.prog X.w) X.A (eval (.Name x pos) X.env) Q E s:=by obtain⟨mb,h1,h2⟩:=I.mod.blt;exact Calls.Name_function_global I.ok.kind hg (Calls.loadGlobal_builtin (by rw[I.ok.glob];exact I.mod.glob.keeps I.bk) hm (by rw[I.ok.blt];exact h1.keeps I.bk) ((h2 x hn).trans hv) h) hd
def IC{x:Str}{v:V}{u:Value}{pos:Pos}(hg:Gl X x)(hm:X.mg x=some u)(r:RelV v u)(hd:(x==("__debug__":Str))=false:=by decide):PE X (.Name x pos) (tC v):=
 λ_ _ _ H _ I h=>sf I hg hm ⟨v,H,I,r,h⟩ hd
def HJ{x:Str}{v:V}{u:Value}{pos:Pos}(hg:Gl X x)(hm:X.mg x=none)(hv:bootBuiltins x=some u)(r:RelV v u)(hn:x≠"__name__":=by decide)(hd:(x==("__debug__":Str))=false:=by decide):PE X (.Name x pos) (tC v):=
 λ_ _ _ H _ I h=>iJ I hg hm hv ⟨v,H,I,r,h⟩ hn hd
variable{a b:Expr}{ta tb:TE}{pos:Pos}
variable{tA tB':TT}{rest:VG}
noncomputable def Ov (t u:TT):TT:=λU H Q=>t U H λc H1=>if c=true then u U H1 Q else Q false H1
noncomputable def PY (t u:TT):TT:=λU H Q=>t U H λc H1=>if c=true then Q true H1 else u U H1 Q
noncomputable def OB (t:TT):TT:=λU H Q=>t U H λc H1=>Q (!c) H1
def pw_and1(ha:PT X a tA):PW X (.BoolOp .And [a] pos) tA:=by
 intro wh pins s U H Q I h;refine isTrue_and (aJ (ha pins s U H Q I h) λc s1 e=>?_);cases c with
 |true=>exact isTrue_and_nil e
 |false=>exact e
def pw_or1(ha:PT X a tA):PW X (.BoolOp .Or [a] pos) tA:=by
 intro wh pins s U H Q I h;refine isTrue_or (aJ (ha pins s U H Q I h) λc s1 e=>?_);cases c with
 |false=>exact isTrue_or_nil e
 |true=>exact e
def pw_and(ha:PT X a tA)(hb:PW X (.BoolOp .And (b::rest) pos) tB'):PW X (.BoolOp .And (a::b::rest) pos) (Ov tA tB'):=by
 intro wh pins s U H Q I h;refine isTrue_and (aJ (ha pins s U H _ I h) λc s1 ⟨H1,I1,q1⟩=>?_);cases c with
 |true=>exact hb wh pins s1 U H1 Q I1 q1
 |false=>exact⟨H1,I1,q1⟩
def pw_or(ha:PT X a tA)(hb:PW X (.BoolOp .Or (b::rest) pos) tB'):PW X (.BoolOp .Or (a::b::rest) pos) (PY tA tB'):=by
 intro wh pins s U H Q I h;refine isTrue_or (aJ (ha pins s U H _ I h) λc s1 ⟨H1,I1,q1⟩=>?_);cases c with
 |true=>exact⟨H1,I1,q1⟩
 |false=>exact hb wh pins s1 U H1 Q I1 q1
def L3(ha:PT X a tA):PT X (.UnaryOp .Not a pos) (OB tA):=by intro pins s U H Q I h;exact isTrue_not (ha pins s U H (λc H1=>Q (!c) H1) I h)
inductive DK(tb:TE)(U:St)(Q:VK) (x:V)(H1:Hp):Prop
 |mk:∀c,(x=.bl c)->(if c=true then tb U H1 Q else Q (.bl false) H1)->DK tb U Q x H1
noncomputable def MA (ta tb:TE):TE:=λU H Q=>ta U H λx H1=>DK tb U Q x H1
inductive GA(tb:TE)(U:St)(Q:VK) (x:V)(H1:Hp):Prop
 |mk:∀c,(x=.bl c)->(if c=true then Q (.bl true) H1 else tb U H1 Q)->GA tb U Q x H1
noncomputable def Ow (ta tb:TE):TE:=λU H Q=>ta U H λx H1=>GA tb U Q x H1
def LR{op}{t:TE}(h:PE X a t):PE X (.BoolOp op [a] pos) t:=λpins s U H Q I hw=>BoolOp_one (h pins s U H Q I hw)
def Jc(ha:PE X a ta)(hb:PE X (.BoolOp .And (b::rest) pos) tb):PE X (.BoolOp .And (a::b::rest) pos) (MA ta tb):=by
 intro pins s U H Q I h;refine BoolOp_and (aJ (ha pins s U H _ I h) λv s1 ⟨x,H1,I1,r1,q1⟩=>?_);obtain⟨c,rfl,q1⟩:=q1;cases r1;refine SR ?_;cases c with
 |true=>exact hb pins s1 U H1 Q I1 q1
 |false=>exact⟨.bl false,H1,I1,rfl,q1⟩
def Nb(ha:PE X a ta)(hb:PE X (.BoolOp .Or (b::rest) pos) tb):PE X (.BoolOp .Or (a::b::rest) pos) (Ow ta tb):=by
 intro pins s U H Q I h;refine BoolOp_or (aJ (ha pins s U H _ I h) λv s1 ⟨x,H1,I1,r1,q1⟩=>?_);obtain⟨c,rfl,q1⟩:=q1;cases r1;refine SR ?_;cases c with
 |false=>exact hb pins s1 U H1 Q I1 q1
 |true=>exact⟨.bl true,H1,I1,rfl,q1⟩
noncomputable def O9 (t:TT)(ta tb:TE):TE:=λU H Q=>t U H λc H1=>if c=true then ta U H1 Q else tb U H1 Q
def EY{c:Expr}(hc:PT X c tA)(ha:PE X a ta)(hb:PE X b tb):PE X (.IfExp c a b pos) (O9 tA ta tb):=by
 intro pins s U H Q I h;refine wpAny_IfExp (aJ (hc pins s U H _ I h) λd s1 ⟨H1,I1,q1⟩=>?_);cases d with
 |true=>exact ha pins s1 U H1 Q I1 q1
 |false=>exact hb pins s1 U H1 Q I1 q1
end
noncomputable def bA (K:Uy)(H:Hp)(a:Addr)(xs:List V):Prop:=
 Rd H a (.lst xs) \/
  ∃(o:Obj)(its:VA) (n:Nat),K.lookup a=some o/\o.cls=.type "list"/\o.dict=none/\o.data=.seq its n/\its.size<=sizeLine/\Vals xs its.toList
noncomputable def bE (K:Uy)(H:Hp)(a:Addr)(xs:List V):Prop:=
 Rd H a (.tup xs) \/
  ∃(o:Obj)(its:VA) (n:Nat),K.lookup a=some o/\o.cls=.type "tuple"/\o.data=.seq its n/\its.size<=sizeLine/\Vals xs its.toList
noncomputable def ON:Value->Option V
 |.none=>some .aU
 |.bool b=>some (.bl b)
 |.int i _=>some (.int i)
 |.str x _=>some (.str x)
 |.bytes b _=>some (.lX b)
 |.float b _=>some (.yS b)
 |.ref a=>some (.ref a)
 |.type n=>some (.ty n)
 |_=>none
def RelV.abs{x:V}{u:Value}(r:RelV x u):ON u=some x:=by
 cases x with
 |aU=>cases r;rfl
 |bl _=>cases r;rfl
 |int _=>obtain⟨t,rfl⟩:=r;rfl
 |str _=>obtain⟨t,rfl⟩:=r;rfl
 |lX _=>obtain⟨t,rfl⟩:=r;rfl
 |yS _=>obtain⟨t,rfl⟩:=r;rfl
 |ref _=>cases r;rfl
 |ty _=>cases r;rfl
theorem RelV.inj{x y:V}{u:Value}(r:RelV x u)(q:RelV y u):x=y:=Option.some.inj (r.abs.symm.trans q.abs)
theorem Vals.inj{xs ys:List V}{us:VD}(h:Vals xs us)(h':Vals ys us):xs=ys:=by
 induction h generalizing ys with
 |nil=>cases h';rfl
 |cons r t ih=>cases h' with|cons r' t'=>rw[r.inj r',ih t']
section
variable{X:Cx}{pins:Ut}{U:St}{H:Hp}{s:Shared}{a:Addr}{xs ys:List V}
def bA.of{K:Uy}(h:H a=some (.lst xs)):bA K H a xs:=.inl (.inl h)
def bE.of{K:Uy}(h:H a=some (.tup xs)):bE K H a xs:=.inl (.inl h)
def Inv.list(I:Inv X pins U H s)(h:bA X.K H a xs):∃its:VD,Vals xs its/\PlainL s.heap a its.toArray/\xs.length<=sizeLine:=by rcases h with h|⟨o,its,n,hk,hc,hd,hs,hz,r⟩;{obtain⟨z,its,n,r,e⟩:=h.ok I.hok;exact⟨its,r,⟨_,n,e,rfl,rfl,rfl⟩,z⟩};refine⟨its.toList,r,⟨o,n,I.gc a o hk,hc,hd,by simpa using hs⟩,?_⟩;have e:=r.length;simp only[Rq]at e;lia
def Inv.tuple(I:Inv X pins U H s)(h:bE X.K H a xs):∃its:VD,Vals xs its/\IsTup s.heap a its.toArray/\xs.length<=sizeLine:=by rcases h with h|⟨o,its,n,hk,hc,hs,hz,r⟩;{obtain⟨z,its,r,p⟩:=h.ok I.hok;exact⟨its,r,p,z⟩};refine⟨its.toList,r,⟨o,I.gc a o hk,hc,n,by simpa using hs⟩,?_⟩;have e:=r.length;simp only[Rq]at e;lia
def Inv.mE(I:Inv X pins U H s)(h:bA X.K H a xs)(h':bA X.K H a ys):xs=ys:=by
 obtain⟨its,r,⟨o,n,e,_,_,d⟩,_⟩:=I.list h;obtain⟨its',r',⟨o',n',e',_,_,d'⟩,_⟩:=I.list h';rw[e]at e';cases e';rw[d]at d';injection d' with d1 _;have:its=its':=by simpa using congrArg Array.toList d1
 subst this;exact r.inj r'
def Inv.BP(I:Inv X pins U H s)(h:bE X.K H a xs)(h':bE X.K H a ys):xs=ys:=by
 obtain⟨its,r,⟨o,e,_,n,d⟩,_⟩:=I.tuple h;obtain⟨its',r',⟨o',e',_,n',d'⟩,_⟩:=I.tuple h';rw[e]at e';cases e';rw[d]at d';injection d' with d1 _;have:its=its':=by simpa using congrArg Array.toList d1
 subst this;exact r.inj r'
end
section
variable{X:Cx}{st:Stmt}{rest:VH}{t u:TS}{e:Expr}{te:TE}{pos:Pos}
noncomputable def M6:TS:=λD U H=>D.nx U H
noncomputable def OV (t u:TS):TS:=λD U H=>t { D with nx:=u D } U H
def IE:mW X [] M6:=λ_ _ U H _ I h=>Td ⟨U,H,I,h⟩
def wM(h1:PS X st t)(h2:mW X rest u):mW X (st::rest) (OV t u):=by
 intro pins s U H D I h;refine wpAny_execs_cons (aJ (h1 pins s U H { D with nx:=u D } I h) λf s1 q=>?_);cases f with
 |next=>obtain⟨σ',H',I',q⟩:=q;exact h2 pins s1 σ' H' D I' q
 |ret v=>exact q
 |brk=>exact q
 |cont=>exact q
def IQ(h1:PS X st t):mW X [st] t:=by
 intro pins s U H D I h;refine wpAny_execs_cons (aJ (h1 pins s U H D I h) λf s1 q=>?_);cases f with
 |next=>exact Td q
 |ret v=>exact q
 |brk=>exact q
 |cont=>exact q
def Inv.quiet{pins:Ut}{U:St}{H:Hp}{s:Shared}(I:Inv X pins U H s):interactive X.env=false:=by simp[interactive,I.ok.kind]
noncomputable def Nm (te:TE):TS:=λD U H=>te U H λ_ H1=>D.nx U H1
def Hj(he:PE X e te)(hs:swapsWith e none pos.line X.env=pure false:=by rfl):PS X (.Expr e pos) (Nm te):=by intro pins s U H D I h;exact wpAny_Expr_any (aJ (he pins s U H _ I h) λv s1 ⟨x,H1,I1,r1,q1⟩=>⟨U,H1,I1,q1⟩) I.quiet hs
noncomputable def Og (te:TE):TS:=λD U H=>te U H D.rt
def DV(he:PE X e te):PS X (.Return (some e) pos) (Og te):=by intro pins s U H D I h;exact wpAny_Return_some (aJ (he pins s U H _ I h) λv s1 ⟨x,H1,I1,r1,q1⟩=>⟨x,U,H1,I1,r1,q1⟩)
noncomputable def Oe (c:TT)(t u:TS):TS:=λD U H=>c U H λb H1=>if b=true then t D U H1 else u D U H1
def MY{c:Expr}{a b:VH}{tc:TT}(hc:PT X c tc)(ha:mW X a t)(hb:mW X b u):PS X (.If c a b pos) (Oe tc t u):=by
 intro pins s U H D I h;refine wpAny_If (aJ (hc pins s U H _ I h) λd s1 ⟨H1,I1,q1⟩=>?_);cases d with
 |true=>exact ha pins s1 U H1 D I1 q1
 |false=>exact hb pins s1 U H1 D I1 q1
end
noncomputable abbrev TG:=V->St->Hp->(St->Hp->Prop)->Prop
noncomputable abbrev pO:=List V->St->Hp->(St->Hp->Prop)->Prop
noncomputable def PG (X:Cx)(target:Expr)(t:TG):Prop:=
 ∀(pins:Ut)(s:Shared)(U:St)(H:Hp) (v:V)(u:Value)(Q:St->Hp->Prop),Inv X pins U H s->RelV v u->t v U H Q->
  wpAny (model X.prog X.w) X.A (assign target X.env u) (λ_ s'=>∃σ' H',Inv X pins σ' H' s'/\Q σ' H') X.xe s
noncomputable def BQ (X:Cx)(ts:VG)(t:pO):Prop:=
 ∀(pins:Ut)(s:Shared)(U:St)(H:Hp)(vs:List V)(us:VD)(Q:St->Hp->Prop),Inv X pins U H s->Vals vs us->t vs U H Q->
  wpAny (model X.prog X.w) X.A (assignInOrder ((assignEach ts X.env).map (·.2)) us) (λ_ s'=>∃σ' H',Inv X pins σ' H' s'/\Q σ' H') X.xe s
noncomputable abbrev zT:=V->V->V->Hp->(Hp->Prop)->Prop
noncomputable def Fj (X:Cx)(t:zT):Prop:=
 ∀(pins:Ut)(s:Shared)(U:St)(H:Hp) (o i v:V)(ov iv u:Value)(Q:Hp->Prop),Inv X pins U H s->RelV o ov->RelV i iv->RelV v u->t o i v H Q->
  wpAny (model X.prog X.w) X.A (setItem ov iv u) (λ_ s'=>∃H',Inv X pins U H' s'/\Q H') X.xe s
noncomputable abbrev Gg:=V->V->Hp->VK->Prop
noncomputable def Ob (X:Cx)(op:Operator)(t:Gg):Prop:=
 ∀(pins:Ut)(s:Shared)(U:St)(H:Hp) (x y:V)(v u:Value)(Q:VK),Inv X pins U H s->RelV x v->RelV y u->t x y H Q->
  wpAny (model X.prog X.w) X.A (inplaceOp op v u) (EP X pins U Q) X.xe s
section
variable{X:Cx}{pos:Pos}
noncomputable def oR (i:Nat):TG:=λv U H Q=>Q (U.set i (some v)) H
def sE{i:Nat}{x:Str}(hN:X.N.Nodup)(hi:X.N[i]?=some x)(hx:Loc X.env.scope x)(hf:X.fn x=true\/X.env.scope.names.lookup x=some .local:=by first|exact .inl rfl|exact .inr rfl|assumption):PG X (.Name x pos) (oR i):=by intro pins s U H v u Q I r h;exact wpAny_assign_Name (qc I hN hi hx r (λs' I'=>⟨_,H,I',h⟩) hf)
noncomputable def ES:pO:=λvs U H Q=>vs=[]/\Q U H
inductive Bj(t:TG)(u:pO)(vs:List V)(U:St)(H:Hp)(Q:(St->Hp->Prop)):Prop
 |mk:∀v r,(vs=v::r)->(t v U H λσ' H'=>u r σ' H' Q)->Bj t u vs U H Q
noncomputable def AB (t:TG)(u:pO):pO:=λvs U H Q=>Bj t u vs U H Q
def ye:BQ X [] ES:=by intro pins s U H vs us Q I r h;obtain⟨e,h⟩:=h;subst e;cases r;exact assignInOrder_nil ⟨U,H,I,h⟩
def pR{e:Expr}{es:VG}{t:TG}{u:pO}(h1:PG X e t)(h2:BQ X es u)(hs:(assignEach (e::es) X.env).map (·.2)=assign e X.env::(assignEach es X.env).map (·.2):=by rfl):BQ X (e::es) (AB t u):=by
 intro pins s U H vs us Q I r h;obtain⟨v,vr,e1,h⟩:=h;subst e1;cases r with
 |cons r rr=>rw[hs];refine assignInOrder_cons (aJ (h1 pins s U H _ _ _ I r h) λ_ s1 ⟨σ1,H1,I1,q1⟩=>?_);exact h2 pins s1 σ1 H1 _ _ Q I1 rr q1
inductive FT(K:Uy) (n:Nat)(t:pO) (v:V)(U:St)(H:Hp)(Q:(St->Hp->Prop)):Prop
 |mk:∀a xs,(v=.ref a)->(bE K H a xs)->(xs.length=n)->(t xs U H Q)->FT K n t v U H Q
noncomputable def cy (K:Uy) (n:Nat)(t:pO):TG:=λv U H Q=>FT K n t v U H Q
def vQ{es:VG}{k:Nat}{t:pO}{n:Nat}(hc:X.calm=true)(h:BQ X es t)(hn:(assignEach es X.env).length=n:=by rfl)(hst:(assignEach es X.env).findIdx? (·.1)=none:=by rfl):PG X (.Tuple es k pos) (cy X.K n t):=by intro pins s U H v u Q I r hw;obtain⟨a,xs,e1,hq,hl,hw⟩:=hw;subst e1;cases r;obtain⟨its,rv,ht,hz⟩:=I.tuple hq;refine assign_Tuple_tuple (I.ok.hd hc) ht (by simp[hn,<-hl,rv.length]) hst λh' hx=>?_;have I1:Inv X pins U H { s with heap:=h' }:=I.kept (t':=s.toks) λb o e=>hx b o (QV (QD e)) e;exact h pins _ U H xs _ Q I1 (by simpa using rv) hw
noncomputable def kT (to ti:TE)(t:zT):TG:=λv U H Q=>to U H λo H1=>ti U H1 λi H2=>t o i v H2 λH3=>Q U H3
def LP{o i:Expr}{to ti:TE}{t:zT}(ho:PE X o to)(hi:PE X i ti)(hs:Fj X t)
  (ha:∀v,assign (.Subscript o i pos) X.env v=(do
   let ov <-holding [v] (eval o X.env)
   let iv <-holding [v,ov] (eval i X.env)
   standAt pos
   holding [v,ov,iv] (setItem ov iv v)
   release [v,ov,iv] []):=by intro _;rfl):PG X (.Subscript o i pos) (kT to ti t):=by
 intro pins s U H v u Q I r h;rw[ha];refine Q0 (RU (aJ (ho pins s U H _ I h) λov s1 ⟨x,H1,I1,r1,q1⟩=>?_))
 refine Q0 (RU (aJ (hi pins s1 U H1 _ I1 q1) λiv s2 ⟨y,H2,I2,r2,q2⟩=>?_))
 refine Q0 (wpAny_standAt (Q0 (RU (aJ (hs pins s2 U H2 x y v ov iv u _ I2 r1 r2 r q2) λ_ s3 ⟨H3,I3,q3⟩=>?_))))
 exact wpAny_release ⟨U,H3,I3,q3⟩
noncomputable def D6 (te:TE)(g:TG):TS:=λD U H=>te U H λx H1=>g x U H1 D.nx
def BK{tg e:Expr}{te:TE}{g:TG}(he:PE X e te)(hg:PG X tg g)(hs:swapsWithSole [tg] e pos.line X.env=pure false:=by rfl)(hw:swappedStores [tg] e X.env=pure none:=by rfl)(h1:(assignEach [tg] X.env).map (·.2)=[assign tg X.env]:=by rfl):PS X (.Assign [tg] e pos) (D6 te g):=by intro pins s U H D I h;refine wpAny_Assign_stores (aJ (he pins s U H _ I h) λv s1 ⟨x,H1,I1,r1,q1⟩=>?_) hs hw;rw[h1];exact aJ (hg pins s1 U H1 x v _ I1 r1 q1) λ_ s2 q=>q
def Kn{i:Nat}{x:Str}{e:Expr}{te:TE}{pos':Pos}(hN:X.N.Nodup)(hi:X.N[i]?=some x)(hx:Loc X.env.scope x)(he:PE X e te)(hs:swapsWith e (some (.Name x pos')) pos.line X.env=pure false:=by rfl)(hf:X.fn x=true\/X.env.scope.names.lookup x=some .local:=by first|exact .inl rfl|exact .inr rfl|assumption) : PS X (.Assign [.Name x pos'] e pos) (D6 te (oR i)):=by intro pins s U H D I h;refine wpAny_Assign_Name (aJ (he pins s U H _ I h) λv s1 ⟨y,H1,I1,r1,q1⟩=>?_) hs;exact qc I1 hN hi hx r1 (λs2 I2=>⟨_,H1,I2,q1⟩) hf
noncomputable def OC (i:Nat)(te:TE)(ti:Gg):TS:=λD U H=>∃x,U[i]?=some (some x)/\te U H λy H1=>ti x y H1 λz H2=>D.nx (U.set i (some z)) H2
def Jr{i:Nat}{x:Str}{e:Expr}{te:TE}{op:Operator}{ti:Gg}{pos':Pos}(hN:X.N.Nodup)(hi:X.N[i]?=some x)(hx:Loc X.env.scope x)(he:PE X e te)(ho:Ob X op ti)(hf:X.fn x=true\/X.env.scope.names.lookup x=some .local:=by first|exact .inl rfl|exact .inr rfl|assumption) : PS X (.AugAssign (.Name x pos') op e pos) (OC i te ti):=by
 intro pins s U H D I h;obtain⟨v,e1,h⟩:=h;obtain⟨m,hn,hl⟩:=I.loc;have vis:jV X.env.scope x:=by rcases hx with k|k;exact .inl k;exact .inr (.inl k)
 obtain⟨u,r,l⟩:=hl i x v hi e1 vis;refine wpAny_AugAssign_Name ?_;have go:wpAny (model X.prog X.w) X.A (eval e X.env) (λw s₂=>wpAny (model X.prog X.w) X.A (inplaceOp op u w) (λr s₃=>wpAny (model X.prog X.w) X.A (storeName X.env x r) (λ_=>SP X pins D .next) X.xe s₃) X.xe s₂) X.xe s:=by refine aJ (he pins s U H _ I h) λw s1 ⟨y,H1,I1,r1,q1⟩=>?_;refine aJ (ho pins s1 U H1 v y u w _ I1 r r1 q1) λz s2 ⟨zv,H2,I2,r2,q2⟩=>?_;exact qc I2 hN hi hx r2 (λs3 I3=>⟨_,H2,I3,q2⟩) hf
 rcases l with⟨hk,hm⟩|⟨hk,c,hc,hcell⟩;{exact wpAny_loadName_local I.ok.kind hk hn hm go};rcases hk with hk|hk;{exact wpAny_loadName_cell I.ok.kind hk hc hcell go};rcases hx with k|k;{have:X.env.scope.names.lookup x=some .free:=hk;rw[k]at this;cases this};have:X.env.scope.names.lookup x=some .free:=hk;rw[k]at this;cases this
end
section
variable{X:Cx}{pos:Pos}
noncomputable def LY (c:TT)(tb:TS):TS:=λD U H=>∃W:Nat->St->Hp->Prop,(∃m,W m U H)/\∀m U H,W m U H->
 c U H λb H1=>if b=true then ∃N:St->Hp->Prop,(∀σ' H',N σ' H'->∃m',m'<m/\W m' σ' H')/\tb { D with nx:=N,ct:=N,bk:=D.nx } U H1 else D.nx U H1
def Fe{c:Expr}{body:VH}{tc:TT}{tb:TS}(hp:PassesOwn (model X.prog X.w) X.A X.env X.xe)(hc:PT X c tc)(hb:mW X body tb):PS X (.While c body [] pos) (LY tc tb):=by
 intro pins s U H D I h;obtain⟨W,⟨m0,w0⟩,turn⟩:=h;refine wpAny_While (codeAny_whileLoop (λn s'=>∃σ' H',Inv X pins σ' H' s'/\W n σ' H') ?_ m0 ⟨U,H,I,w0⟩);rintro n s1⟨σ1,H1,I1,w1⟩;refine S7 hp (aJ (hc pins s1 σ1 H1 _ I1 (turn n σ1 H1 w1)) λb s2 ⟨H2,I2,q2⟩=>?_);cases b with
 |true=>
  obtain⟨N,hN,q2⟩:=q2;rw[if_pos rfl];refine S7 hp (aJ (hb pins s2 σ1 H2 _ I2 q2) λf s3 q3=>?_);cases f with
  |next=>obtain⟨σ3,H3,I3,n3⟩:=q3;obtain⟨m',hm,w3⟩:=hN σ3 H3 n3;exact⟨m',hm,σ3,H3,I3,w3⟩
  |cont=>obtain⟨σ3,H3,I3,n3⟩:=q3;obtain⟨m',hm,w3⟩:=hN σ3 H3 n3;exact⟨m',hm,σ3,H3,I3,w3⟩
  |brk=>exact q3
  |ret v=>exact q3
 |false=>rw[if_neg QW];exact Td ⟨σ1,H2,I2,q2⟩
end
structure It where
 go:Nat->Hp->Prop
 oZ:Nat->Hp->V->Hp->Prop
 stop:Nat->Hp->Prop
noncomputable def iB (X:Cx)(pins:Ut)(H:Hp)(b:Addr):Prop:=
 H b=none/\b≠X.env.locals/\b∉X.fs/\(b∈X.ex\/X.s₀.heap.objs.size<=b)/\(∀x c,X.env.cells.lookup x=some c->c≠b)/\∀p∈X.pn++pins,p.1≠b
def Inv.tB{X:Cx}{pins:Ut}{U:St}{H H':Hp}{s:Shared}{b:Addr}(I:Inv X pins U H s)(hb:s.heap.objs.size<=b)(hn:H' b=none):iB X pins H' b:=by refine⟨hn,SV (Qg I.lt hb),I.Kq hb,.inr (Qd I.sz hb),λx c e z=>?_,λp hp z=>?_⟩;{obtain⟨v,q⟩:=I.cell x c e;exact absurd (Qg q.lt (by rw[z];exact hb)) (Qx _)};exact absurd (Qg (QD (I.pin p hp).1) (by rw[z];exact hb)) (Qx _)
structure Turn(P:Program)(w:World)(K:Uy)(tg:Expr)(J:It)(fp:VE)(it:Addr)(tn:Nat->Heap->Prop):Prop where
 mem:it∈fp
 obj:∀i h,tn i h->∀b∈fp,∃o,h.get? b=some o/\∀v,o.data≠.cell v
 keep:∀i h h',tn i h->(∀b∈fp,∀o,h.get? b=some o->h'.get? b=some o)->tn i h'
 item:∀(X:Cx),X.prog=P->X.w=w->X.K=K->X.calm=true->∀(i:Nat)(pins:Ut)(s:Shared)(U:St)(H:Hp)(E:Uq),Inv X pins U H s->(∀b∈fp,iB X pins H b)->tn i s.heap->J.go i H->
  wpAny (model P w) X.A (pyNext (.ref it)) (λr s1=>∃u,r=some u /\
   wpAny (model P w) X.A (letOwnedTupleGo tg (.ref it) u) (λ_ s2=>∃x H',Inv X pins U H' s2/\RelV x u/\J.oZ i H x H'/\tn (i+1) s2.heap/\∀b∈fp,H' b=none) E s1) E s
 done:∀(X:Cx),X.prog=P->X.w=w->X.K=K->X.calm=true->∀(i:Nat)(pins:Ut)(s:Shared)(U:St)(H:Hp)(E:Uq),Inv X pins U H s->(∀b∈fp,iB X pins H b)->tn i s.heap->J.stop i H->
  wpAny (model P w) X.A (pyNext (.ref it)) (λr s1=>r=none/\Inv X pins U H s1) E s
 self:∀(A:Around) (i:Nat)(s:Shared)(Q:Uq)(E:Uq),tn i s.heap->Q (.ref it) s->wpAny (model P w) A (pyIter (.ref it)) Q E s
noncomputable abbrev TI:=St->Hp->(It->Hp->Prop)->Prop
noncomputable def FP (X:Cx)(pins:Ut)(U:St)(tg:Expr)(R:It->Hp->Prop)(itv:Value)(s2:Shared):Prop:=
 ∃(it:Addr)(fp:VE)(tn:Nat->Heap->Prop)(J:It)(H':Hp),itv=.ref it/\Inv X pins U H' s2/\Turn X.prog X.w X.K tg J fp it tn/\tn 0 s2.heap/\(∀b∈fp,iB X pins H' b)/\R J H'
noncomputable def PI (X:Cx)(tg iter:Expr)(wi:TI):Prop:=
 ∀(pins:Ut)(s:Shared)(U:St)(H:Hp)(R:It->Hp->Prop),Inv X pins U H s->wi U H R->
  wpAny (model X.prog X.w) X.A (eval iter X.env) (λv s1=>wpAny (model X.prog X.w) X.A (pyIter v) (FP X pins U tg R) X.xe s1) X.xe s
def zJ{M:Model}{A:Around}{E:Uq}{s:Shared}{tg:Expr}{it:Addr}{u:Value}{o:Obj}{n:String}{vs:VA}{Q:Unit->Shared->Prop}(ho:s.heap.get? it=some o)(hc:o.cls=.type n)(hd:o.data=.fields vs)(hn:["enumerate","zip","dict_itemiterator","dict_reverseitemiterator","odict_iterator","itertools.zip_longest","itertools.pairwise"].contains n=false)(hQ:Q () s):wpAny M A (letOwnedTupleGo tg (.ref it) u) Q E s:=by
 unfold letOwnedTupleGo;cases tg<;>first
  |exact Q6 hQ
  | (cases u<;>first
    |exact Q6 hQ
    | (refine Q0 (wpAny_load ho ?_)
       rw[hc,hd];show wpAny M A (if(["enumerate","zip","dict_itemiterator","dict_reverseitemiterator","odict_iterator","itertools.zip_longest","itertools.pairwise"].contains n&&vs[0]? == some (rawInt _))=true then _ else _) Q E s
       rw[if_neg (by intro h;rw[hn,Bool.false_and]at h;cases h)]
       exact Q6 hQ))
noncomputable def GY (K:Uy)(a:Addr):It:=
 ⟨λi H=>∃xs x,bA K H a xs/\xs[i]?=some x,λi H x H'=>H'=H/\∀xs,bA K H a xs->xs[i]?=some x,λi H=>∃xs,bA K H a xs/\xs.length<=i⟩
noncomputable def Ge (K:Uy)(a:Addr):It:=
 ⟨λi H=>∃xs x,bE K H a xs/\xs[i]?=some x,λi H x H'=>H'=H/\∀xs,bE K H a xs->xs[i]?=some x,λi H=>∃xs,bE K H a xs/\xs.length<=i⟩
noncomputable def Bc (lo:Int) (n:Nat):It:=⟨λi _=>i<n,λi H x H'=>H'=H/\x=.int (lo+i),λi _=>n<=i⟩
def CV{P:Program}{w:World}{K:Uy}{tg:Expr}(a it:Addr):Turn P w K tg (GY K a) [it] it (λi h=>h.IsListIter it a i) where
 mem:=by simp
 obj:=λi h st b hb=>by
  have e:b=it:=by simpa using hb
  subst e;obtain⟨o,e,c,d⟩:=st;exact⟨o,e,λv z=>by rw[d]at z;cases z⟩
 keep:=λi h h' st k=>st.at λo e=>k it (by simp) o e
 item:=by
  intro X hP hw hK hc i pins s U H E I hf st hg;subst hP hw hK;obtain⟨xs,x,hq,hx⟩:=hg;obtain⟨its,rv,p,hz⟩:=I.list hq;obtain⟨u,hu,ru⟩:=rv.get hx;obtain⟨f0,f1,f2,f3,f4,f5⟩:=hf it (by simp)
  refine wpAny_pyNext_list_item st p.isList (x:=u) (by simpa using hu) λh' st' sb=>?_
  have I1:Inv X pins U H { s with heap:=h' }:=I.turned (t':=s.toks) (λb o hb e=>(sb.2 b hb).trans e) f0 f1 f3 f4 f5
  obtain⟨o,e,c,d⟩:=id st';exact⟨u,rfl,zJ (s:={ s with heap:=h' }) e c d (by decide) ⟨x,H,I1,ru,⟨rfl,λys hy=>by rw[I.mE hy hq];exact hx⟩,st',λb hb=>(hf b hb).1⟩⟩
 done:=by
  intro X hP hw hK hc i pins s U H E I hf st hg;subst hP hw hK;obtain⟨xs,hq,hx⟩:=hg;obtain⟨its,rv,p,hz⟩:=I.list hq;obtain⟨f0,f1,f2,f3,f4,f5⟩:=hf it (by simp)
  have hl:=rv.length;exact wpAny_pyNext_list_end (I.ok.hd hc) st p.isList (by simp;lia) λh' eb=>⟨rfl,I.turned (t':=s.toks) (λb o hb e=>eb b o hb e) f0 f1 f3 f4 f5⟩
 self:=λ_ _ _ _ _ st h=>wpAny_pyIter_listiter st h
def zH{P:Program}{w:World}{K:Uy}{tg:Expr}(a it:Addr):Turn P w K tg (Ge K a) [it] it (λi h=>h.IsTupleIter it a i) where
 mem:=by simp
 obj:=λi h st b hb=>by
  have e:b=it:=by simpa using hb
  subst e;obtain⟨o,e,c,d⟩:=st;exact⟨o,e,λv z=>by rw[d]at z;cases z⟩
 keep:=λi h h' st k=>st.at λo e=>k it (by simp) o e
 item:=by
  intro X hP hw hK hc i pins s U H E I hf st hg;subst hP hw hK;obtain⟨xs,x,hq,hx⟩:=hg;obtain⟨its,rv,p,hz⟩:=I.tuple hq;obtain⟨u,hu,ru⟩:=rv.get hx;obtain⟨f0,f1,f2,f3,f4,f5⟩:=hf it (by simp)
  refine wpAny_pyNext_tuple_item st (show s.heap.IsTuple a its.toArray from p) (x:=u) (by simpa using hu) λh' st' sb=>?_
  have I1:Inv X pins U H { s with heap:=h' }:=I.turned (t':=s.toks) (λb o hb e=>(sb.2 b hb).trans e) f0 f1 f3 f4 f5
  obtain⟨o,e,c,d⟩:=id st';exact⟨u,rfl,zJ (s:={ s with heap:=h' }) e c d (by decide) ⟨x,H,I1,ru,⟨rfl,λys hy=>by rw[I.BP hy hq];exact hx⟩,st',λb hb=>(hf b hb).1⟩⟩
 done:=by
  intro X hP hw hK hc i pins s U H E I hf st hg;subst hP hw hK;obtain⟨xs,hq,hx⟩:=hg;obtain⟨its,rv,p,hz⟩:=I.tuple hq;obtain⟨f0,f1,f2,f3,f4,f5⟩:=hf it (by simp)
  have hl:=rv.length;exact wpAny_pyNext_tuple_end (I.ok.hd hc) st (show s.heap.IsTuple a its.toArray from p) (by simp;lia) λh' eb=>⟨rfl,I.turned (t':=s.toks) (λb o hb e=>eb b o hb e) f0 f1 f3 f4 f5⟩
 self:=λ_ _ _ _ _ st h=>wpAny_pyIter_tupleiter st h
def zZ{P:Program}{w:World}{K:Uy}{tg:Expr}(it:Addr) (lo:Int) (n:Nat):Turn P w K tg (Bc lo n) [it] it (λi h=>IsRangeIter h it (lo+(i:Nat)*1) ((n:Int)-(i:Nat)) 1) where
 mem:=by simp
 obj:=λi h st b hb=>by
  have e:b=it:=by simpa using hb
  subst e;exact⟨_,st,λv z=>by
   have z':Data.fields _=Data.cell v:=z;cases z'⟩
 keep:=λi h h' st k=>k it (by simp) _ st
 item:=by
  intro X hP hw hK hc i pins s U H E I hf st hg;subst hP hw hK;obtain⟨f0,f1,f2,f3,f4,f5⟩:=hf it (by simp)
  have W:=Walks.range (prog:=X.prog) (w:=X.w) (I.ok.hd hc) it lo 1 n;refine W.item i s _ _ hg st λv h' tk hv st' kk=>?_
  obtain⟨t,rfl⟩:=hv;have I1:Inv X pins U H { s with heap:=h',toks:=tk }:=I.turned (λb o hb e=>kk b o (by simpa using hb) e) f0 f1 f3 f4 f5
  refine⟨_,rfl,zJ (s:={ s with heap:=h',toks:=tk }) (n:="range_iterator") st' rfl rfl (by decide) ⟨.int (lo+i),H,I1,⟨t,?_⟩,⟨rfl,rfl⟩,st',λb hb=>(hf b hb).1⟩⟩
  rw[Rr]
 done:=by
  intro X hP hw hK hc i pins s U H E I hf st hg;subst hP hw hK;obtain⟨f0,f1,f2,f3,f4,f5⟩:=hf it (by simp)
  exact wpAny_pyNext_range_end (I.ok.hd hc) st (by have:n<=i:=hg;lia) λh' eb=>⟨rfl,I.turned (t':=s.toks) (λb o hb e=>eb b o hb e) f0 f1 f3 f4 f5⟩
 self:=λ_ _ _ _ _ st h=>wpAny_pyIter_rangeiter st h
section
variable{X:Cx}{tg:Expr}
def u7{pins:Ut}{U:St}{H:Hp}{s:Shared}{R:It->Hp->Prop}{E:Uq}{lo hi:Int}{t u v:Tok}{tk:Nat}(I:Inv X pins U H s)(h1:-(2^62)<=lo)(h2:lo<2^62)(h3:-(2^62)<=hi)(h4:hi<2^62)(q:R (Bc lo (hi-lo).toNat) H):wpAny (model X.prog X.w) X.A (pyIter (.ref s.heap.objs.size)) (FP X pins U tg R) E { s with heap:=s.heap.push { cls:=.type "range",data:=.fields #[.int lo t,.int hi u,.int 1 v] },toks:=tk }:=by
 refine wpAny_pyIter_range (IsRange.new ..) (small_one h1 h2 h3 h4) ?_;have I1:Inv X pins U H { s with heap:=s.heap.push { cls:=.type "range",data:=.fields #[.int lo t,.int hi u,.int 1 v] },toks:=tk }:=I.kept λb o e=>QU _ e;refine⟨(s.heap.push { cls:=.type "range",data:=.fields #[.int lo t,.int hi u,.int 1 v] }).objs.size,[(s.heap.push { cls:=.type "range",data:=.fields #[.int lo t,.int hi u,.int 1 v] }).objs.size],_,_,H,rfl,
  I1.kept (t':=tk) λb o e=>QU _ e,zZ _ lo (hi-lo).toNat,?_,λb hb=>?_,q⟩
 .have e1:lo+((0:Nat):Int)*1=lo:=by simp
  have e2:(((hi-lo).toNat:Nat):Int)-((0:Nat):Int)=Builtin.Range.rangeSize lo hi 1:=by rw[rangeSize_one];split<;>lia
  show IsRangeIter _ _ (lo+((0:Nat):Int)*1) ((((hi-lo).toNat:Nat):Int)-((0:Nat):Int)) 1;rw[e1,e2];exact Qn _ rfl
 have e:b=(s.heap.push { cls:=.type "range",data:=.fields #[.int lo t,.int hi u,.int 1 v] }).objs.size:=by simpa using hb
 subst e;exact I1.tB (Q7 _) (I1.hok.fresh (Q7 _))
inductive DG(R:(It->Hp->Prop))(vs:List V)(H1:Hp):Prop
 |mk:∀j:Int,(vs=[.int j])->(-(2^62)<=j)->(j<2^62)->(R (Bc 0 j.toNat) H1)->DG R vs H1
noncomputable def MB (ta:TA):TI:=λU H R=>ta U H λvs H1=>DG R vs H1
inductive CF(R:(It->Hp->Prop))(vs:List V)(H1:Hp):Prop
 |mk:∀i j:Int,(vs=[.int i,.int j])->((-(2^62)<=i/\i<2^62/\-(2^62)<=j/\j<2^62))->(R (Bc i (j-i).toNat) H1)->CF R vs H1
noncomputable def ME (ta:TA):TI:=λU H R=>ta U H λvs H1=>CF R vs H1
def CZ{a:Expr}{ta:TA}{p pos:Pos}(hg:Gl X "range")(hm:X.mg "range"=none)(ha:PA X [a] ta)(hs:starEach [a] X.env=[(false,eval a X.env)]:=by rfl):PI X tg (.Call (.Name "range" p) [a] [] pos) (MB ta):=by
 intro pins s U H R I h;refine Call_ (iJ I hg hm boot_range (SW (aJ (ha pos pins s U H _ I h) λus s1 ⟨vs,H1,I1,r1,q1⟩=>?_) hs rfl));obtain⟨j,e,q1,q2,q⟩:=q1;subst e;cases r1 with
 |cons r rr=>cases rr;obtain⟨t,rfl⟩:=r;exact call_range_1 (u7 I1 (by lia) (by lia) q1 q2 (by simpa using q))
def Bv{a b:Expr}{ta:TA}{p pos:Pos}(hg:Gl X "range")(hm:X.mg "range"=none)(ha:PA X [a,b] ta)(hs:starEach [a,b] X.env=[(false,eval a X.env),(false,eval b X.env)]:=by rfl)(hs2:starEach [b] X.env=[(false,eval b X.env)]:=by rfl) : PI X tg (.Call (.Name "range" p) [a,b] [] pos) (ME ta):=by
 intro pins s U H R I h;refine Call_ (iJ I hg hm boot_range (SW (aJ (ha pos pins s U H _ I h) λus s1 ⟨vs,H1,I1,r1,q1⟩=>?_) (by rw[hs,hs2]) (by rw[hs2];rfl)));obtain⟨i,j,e,⟨q1,q2,q3,q4⟩,q⟩:=q1;subst e;cases r1 with
 |cons r rr=>
  cases rr with
  |cons r' rr=>cases rr;obtain⟨t,rfl⟩:=r;obtain⟨t',rfl⟩:=r';exact call_range_2 (u7 I1 q1 q2 q3 q4 q)
noncomputable def O3 (wi:TI)(g:TG)(tb:TS):TS:=λD U H=>wi U H λJ H1=>∃W:Nat->Nat->St->Hp->Prop,(∃m,W 0 m U H1)/\∀i m U H,W i m U H->
 (J.stop i H/\D.nx U H)\/(J.go i H/\∃N:St->Hp->Prop,(∀σ' H',N σ' H'->∃m',m'<m/\W (i+1) m' σ' H')/\∀x H',J.oZ i H x H'->g x U H' λσ2 H2=>tb { D with nx:=N,ct:=N,bk:=D.nx } σ2 H2)
noncomputable def jD (fp:VE)(h:Heap):Ut:=fp.filterMap λb=>(h.get? b).map λo=>(b,o)
def jg{fp:VE}{h:Heap}{b:Addr}{o:Obj}(hb:b∈fp)(e:h.get? b=some o):(b,o)∈jD fp h:=UE.mpr ⟨b,hb,by rw[e];rfl⟩
def tQ{fp:VE}{h:Heap}{p:Addr×Obj}(hp:p∈jD fp h):p.1∈fp/\h.get? p.1=some p.2:=by
 obtain⟨b,hb,e⟩:=UE.mp hp;cases q:h.get? b with
 |none=>rw[q]at e;cases e
 |some o=>rw[q]at e;have e':(b,o)=p:=Option.some.inj e;subst e';exact⟨hb,q⟩
def Inv.pinned{pins:Ut}{U:St}{H:Hp}{s:Shared}{fp:VE}(I:Inv X pins U H s)(hf:∀b∈fp,iB X pins H b)(ho:∀b∈fp,∃o,s.heap.get? b=some o/\∀v,o.data≠.cell v):Inv X (pins++jD fp s.heap) U H s:=
 I.k9 λp hp=>(QL.mp hp).elim (λz=>I.pin p (RD _ z)) λz=>by obtain⟨hb,e⟩:=tQ z;obtain⟨f0,f1,f2,_⟩:=hf p.1 hb;obtain⟨o,e',d⟩:=ho p.1 hb;rw[e]at e';cases e';exact⟨e,f0,f1,f2,d⟩
def Inv.pV{pins pl:Ut}{U:St}{H:Hp}{s:Shared}(I:Inv X (pins++pl) U H s):Inv X pins U H s:=I.k9 λp hp=>I.pin p (RD _ (UK _ hp))
def Lq{iter:Expr}{body:VH}{wi:TI}{g:TG}{tb:TS}{pos:Pos}(hp:PassesOwn (model X.prog X.w) X.A X.env X.xe)(hc:X.calm=true)(hi:PI X tg iter wi)(hg:PG X tg g)(hb:mW X body tb)(hs:∀x,foldedSetIterable iter X.env x=pure x:=by intro _;rfl):PS X (.For tg iter body [] pos) (O3 wi g tb):=by
 intro pins s U H D I h;refine wpAny_For (aJ (hi pins s U H _ I h) λv s1 h1=>aJ h1 λitv s2 h2=>?_) hs
 obtain⟨it,fp,tn,J,H2,e,I2,T,st2,f2,W,⟨m0,w0⟩,turn⟩:=h2;subst e
 -- what stays true of the iterator's objects through the loop
 have stat:∀{H':Hp},(∀b∈fp,H' b=none)->∀b∈fp,iB X pins H' b:=λhn b hb=>⟨hn b hb,(f2 b hb).2⟩
 refine codeAny_forLoop_any (λn s'=>∃i σ' H',Inv X pins σ' H' s'/\tn i s'.heap/\(∀b∈fp,H' b=none)/\W i n σ' H') ?_ m0 ⟨0,U,H2,I2,st2,λb hb=>(f2 b hb).1,w0⟩
 rintro n s3⟨i,σ3,H3,I3,st3,fr3,w3⟩;rcases turn i n σ3 H3 w3 with⟨stop,qn⟩|⟨go,N,hN,step⟩
 .refine S7 hp (aJ (T.done X rfl rfl rfl hc i pins s3 σ3 H3 X.xe I3 (stat fr3) st3 stop) λr s4 ⟨hr,I4⟩=>?_)
  subst hr;exact Td ⟨σ3,H3,I4,qn⟩
 .refine S7 hp (aJ (T.item X rfl rfl rfl hc i pins s3 σ3 H3 X.xe I3 (stat fr3) st3 go) λr s4 ⟨u,hr,h4⟩=>?_)
  subst hr;refine S7 hp (aJ h4 λ_ s5 ⟨x,H5,I5,r5,y5,st5,fr5⟩=>?_)
  have I5':=I5.pinned (stat fr5) (T.obj _ _ st5);refine S7 hp (aJ (hg _ s5 σ3 H5 x u _ I5' r5 (step x H5 y5)) λ_ s6 ⟨σ6,H6,I6,q6⟩=>?_)
  refine S7 hp (aJ (hb _ s6 σ6 H6 _ I6 q6) λf s7 q7=>?_)
  have again:∀{σ7:St}{H7:Hp},Inv X (pins++jD fp s5.heap) σ7 H7 s7->N σ7 H7->∃m,m<n/\∃i σ' H',Inv X pins σ' H' s7/\tn i s7.heap/\(∀b∈fp,H' b=none)/\W i m σ' H':=λ{σ7 H7} I7 n7=>by
   obtain⟨m',hm,w7⟩:=hN σ7 H7 n7;refine⟨m',hm,i+1,σ7,H7,I7.pV,T.keep _ _ _ st5 λb hb o e=>(I7.pin (b,o) (RD _ (RD _ (jg hb e)))).1,λb hb=>?_,w7⟩
   obtain⟨o,e,d⟩:=T.obj _ _ st5 b hb;exact(I7.pin (b,o) (RD _ (RD _ (jg hb e)))).2.1
  cases f with
  |next=>obtain⟨σ7,H7,I7,n7⟩:=q7;exact again I7 n7
  |cont=>obtain⟨σ7,H7,I7,n7⟩:=q7;exact again I7 n7
  |brk=>obtain⟨σ7,H7,I7,q7⟩:=q7;exact⟨σ7,H7,I7.pV,q7⟩
  |ret v=>obtain⟨x7,σ7,H7,I7,r7,q7⟩:=q7;exact⟨x7,σ7,H7,I7.pV,r7,q7⟩
end
noncomputable abbrev R2:=V->V->Hp->VK->Prop
noncomputable def bq (X:Cx)(f:Value->Value->Sem Value)(r:R2):Prop:=
 ∀(pins:Ut)(s:Shared)(U:St)(H:Hp) (x y:V)(v u:Value)(Q:VK),Inv X pins U H s->RelV x v->RelV y u->r x y H Q->
  wpAny (model X.prog X.w) X.A (f v u) (EP X pins U Q) X.xe s
noncomputable def GG (X:Cx)(f:Value->Sem Value)(r:V->Hp->VK->Prop):Prop:=
 ∀(pins:Ut)(s:Shared)(U:St)(H:Hp) (x:V)(v:Value)(Q:VK),Inv X pins U H s->RelV x v->r x H Q->
  wpAny (model X.prog X.w) X.A (f v) (EP X pins U Q) X.xe s
noncomputable def bZ (X:Cx)(f:Value)(r:List V->Hp->VK->Prop):Prop:=
 ∀(pins:Ut)(s:Shared)(U:St)(H:Hp)(xs:List V)(us:VD)(Q:VK),Inv X pins U H s->Vals xs us->r xs H Q->
  wpAny (model X.prog X.w) X.A (call f us) (EP X pins U Q) X.xe s
noncomputable def Oj (X:Cx)(r:V->Hp->(Bool->Hp->Prop)->Prop):Prop:=
 ∀(pins:Ut)(s:Shared)(U:St)(H:Hp) (x:V)(v:Value)(Q:Bool->Hp->Prop),Inv X pins U H s->RelV x v->r x H Q->
  wpAny (model X.prog X.w) X.A (truthy v) (TP X pins U Q) X.xe s
noncomputable def J8 (r:R2)(ta tb:TE):TE:=λU H Q=>ta U H λx H1=>tb U H1 λy H2=>r x y H2 Q
noncomputable def P6 (r:V->Hp->VK->Prop)(ta:TE):TE:=λU H Q=>ta U H λx H1=>r x H1 Q
inductive N5(C:Int->Int->Prop)(g:Int->Int->V) (x:V) (y:V)(H:Hp)(Q:VK):Prop
 |mk:∀i j,(x=.int i)->(y=.int j)->(C i j)->(Q (g i j) H)->N5 C g x y H Q
noncomputable def rI (C:Int->Int->Prop)(g:Int->Int->V):R2:=λx y H Q=>N5 C g x y H Q
inductive JU(g:Int->Int->V) (x:V) (y:V)(H:Hp)(Q:VK):Prop
 |mk:∀i j,(x=.int i)->(y=.int j)->(Q (g i j) H)->JU g x y H Q
noncomputable def mZ (g:Int->Int->V):R2:=λx y H Q=>JU g x y H Q
inductive NT(g:Int->V) (x:V)(H:Hp)(Q:VK):Prop
 |mk:∀i,(x=.int i)->(Q (g i) H)->NT g x H Q
noncomputable def rU (g:Int->V):V->Hp->VK->Prop:=λx H Q=>NT g x H Q
section
variable{X:Cx}{a b c:Expr}{ta tb tc:TE}{pos:Pos}
def Et(ha:PE X a ta)(hb:PE X b tb){pins:Ut}{s:Shared}{U:St}{H:Hp}{R:V->V->Hp->Prop}(I:Inv X pins U H s)(h:ta U H λx H1=>tb U H1 λy H2=>R x y H2){Q:Uq}{f:Value->Value->Sem Value}(hf:∀v u s2 x y H2,Inv X pins U H2 s2->RelV x v->RelV y u->R x y H2->wpAny (model X.prog X.w) X.A (f v u) Q X.xe s2) : wpAny (model X.prog X.w) X.A (eval a X.env) (λv s₁=>wpAny (model X.prog X.w) X.A (eval b X.env) (λu s₂=>wpAny (model X.prog X.w) X.A (f v u) Q X.xe s₂) X.xe s₁) X.xe s:=by refine aJ (ha pins s U H _ I h) λv s1 ⟨x,H1,I1,r1,q1⟩=>?_;refine aJ (hb pins s1 U H1 _ I1 q1) λu s2 ⟨y,H2,I2,r2,q2⟩=>?_;exact hf v u s2 x y H2 I2 r1 r2 q2
def MT{op:Operator}{r:R2}(ho:bq X (binaryOp op) r)(ha:PE X a ta)(hb:PE X b tb):PE X (.BinOp a op b pos) (J8 r ta tb):=by intro pins s U H Q I h;exact wpAny_BinOp (Et ha hb I h λv u s2 x y H2 I2 rx ry q=>ho pins s2 U H2 x y v u Q I2 rx ry q)
def Nt{op:UnaryOp}{r:V->Hp->VK->Prop}(ho:GG X (unaryOp op) r)(ha:PE X a ta):PE X (.UnaryOp op a pos) (P6 r ta):=by intro pins s U H Q I h;exact UnaryOp_ (aJ (ha pins s U H _ I h) λv s1 ⟨x,H1,I1,r1,q1⟩=>ho pins s1 U H1 x v Q I1 r1 q1)
def zj{f:Value->Value->Sem Value}{C:Int->Int->Prop}{g:Int->Int->Int}(rule:∀(i j:Int)(t u:Tok)(s:Shared)(Q:Uq)(E:Uq),C i j->Q (.int (g i j) s.toks) { s with toks:=s.toks+1 }->wpAny (model X.prog X.w) X.A (f (.int i t) (.int j u)) Q E s) : bq X f (rI C λi j=>.int (g i j)):=by intro pins s U H x y v u Q I rx ry h;obtain⟨i,j,rfl,rfl,hc,q⟩:=h;obtain⟨t,rfl⟩:=rx;obtain⟨t',rfl⟩:=ry;exact rule i j t t' s _ _ hc ⟨.int (g i j),H,I.tok _,⟨_,rfl⟩,q⟩
def JK{f:Value->Value->Sem Value}{g:Int->Int->Int}(rule:∀(i j:Int)(t u:Tok)(s:Shared)(Q:Uq)(E:Uq),Q (.int (g i j) s.toks) { s with toks:=s.toks+1 }->wpAny (model X.prog X.w) X.A (f (.int i t) (.int j u)) Q E s) : bq X f (mZ λi j=>.int (g i j)):=by intro pins s U H x y v u Q I rx ry h;obtain⟨i,j,rfl,rfl,q⟩:=h;obtain⟨t,rfl⟩:=rx;obtain⟨t',rfl⟩:=ry;exact rule i j t t' s _ _ ⟨.int (g i j),H,I.tok _,⟨_,rfl⟩,q⟩
def Ak{f:Value->Value->Sem Value}{g:Uv}(rule:∀(i j:Int)(t u:Tok)(s:Shared)(Q:Uq)(E:Uq),Q (.bool (g i j)) s->wpAny (model X.prog X.w) X.A (f (.int i t) (.int j u)) Q E s) : bq X f (mZ λi j=>.bl (g i j)):=by intro pins s U H x y v u Q I rx ry h;obtain⟨i,j,rfl,rfl,q⟩:=h;obtain⟨t,rfl⟩:=rx;obtain⟨t',rfl⟩:=ry;exact rule i j t t' s _ _ ⟨.bl (g i j),H,I,rfl,q⟩
noncomputable def wm (i j:Int):Prop:=0<=j/\j<=1000000/\i.natAbs<2^64
noncomputable def sV (i j:Int):Prop:=(-(2^64)<i/\i<2^64)\/(-(2^64)<j/\j<2^64)
def sV.ok{i j:Int}(h:sV i j):IntMulOk i j:=by rcases h with⟨h1,h2⟩|⟨h1,h2⟩;{exact .of_left (intBits_le_64 h1 h2)};exact .of_right (intBits_le_64 h1 h2)
def K8:bq X (binaryOp .Add) (mZ λi j=>.int (i+j)):=JK λ_ _ _ _ _ _ _ q=>add_int q
def KJ:bq X (binaryOp .Sub) (mZ λi j=>.int (i-j)):=JK λ_ _ _ _ _ _ _ q=>sub_int q
def Mh:bq X (binaryOp .Mult) (rI sV λi j=>.int (i*j)):=zj λ_ _ _ _ _ _ _ hc q=>mul_int q hc.ok
def JP:bq X (binaryOp .Mod) (rI (λ_ j=>0<j) λi j=>.int (i%j)):=zj λi j _ _ _ _ _ hc q=>by have h1:(0:Int)<j:=hc;exact mod_int' (by lia) (by rw[Int.fmod_eq_emod_of_nonneg i (by lia)];exact q)
def La:bq X (binaryOp .Pow) (rI wm λi j=>.int (i^j.toNat)):=zj λ_ _ _ _ _ _ _ hc q=>pow_int_small hc.1 hc.2.1 hc.2.2 q
def PN{f:Value->Sem Value}{g:Int->Int}(rule:∀(i:Int)(t:Tok)(s:Shared)(Q:Uq)(E:Uq),Q (.int (g i) s.toks) { s with toks:=s.toks+1 }->wpAny (model X.prog X.w) X.A (f (.int i t)) Q E s) : GG X f (rU λi=>.int (g i)):=by intro pins s U H x v Q I rx h;obtain⟨i,rfl,q⟩:=h;obtain⟨t,rfl⟩:=rx;exact rule i t s _ _ ⟨.int (g i),H,I.tok _,⟨_,rfl⟩,q⟩
def JS:GG X (unaryOp .USub) (rU λi=>.int (-i)):=PN λ_ _ _ _ _ q=>neg_int q
end
noncomputable def E7:V->V->Bool
 |.aU,.aU=>true | .aU,.int _=>true | .int _,.aU=>true | .aU,.bl _=>true | .bl _,.aU=>true | .aU,.str _=>true | .str _,.aU=>true
 |.int _,.int _=>true | .bl _,.bl _=>true | .str _,.str _=>true | .lX _,.lX _=>true
 |.int _,.str _=>true | .str _,.int _=>true | .bl _,.str _=>true | .str _,.bl _=>true
 |_,_=>false
noncomputable def NN:R2:=λx y H Q=>E7 x y=true/\Q (.bl (decide (x=y))) H
noncomputable def NV:R2:=λx y H Q=>E7 x y=true/\Q (.bl (!decide (x=y))) H
def yw{i j:Int}:decide (V.int i=V.int j)=(i==j):=by rw[Rn];simp
def DO{i j:Bool}:decide (V.bl i=V.bl j)=(i==j):=by rw[Rn];simp
def yD{i j:Str}:decide (V.str i=V.str j)=(i==j):=by rw[Rn];simp
def za{i j:Array UInt8}:decide (V.lX i=V.lX j)=(i.toList==j.toList):=by rw[Rn];cases i;cases j;simp
section
variable{X:Cx}{a b c:Expr}{ta tb tc:TE}{pos:Pos}
def aQ{pins:Ut}{U:St}{H:Hp}{s:Shared}{Q:VK}{k k':Bool}(I:Inv X pins U H s)(q:Q (.bl k) H)(e:k=k'):EP X pins U Q (.bool k') s:=by subst e;exact⟨.bl k,H,I,rfl,q⟩
def Nq:bq X (compareOp .Eq) NN:=by
 intro pins s U H x y v u Q I rx ry h;obtain⟨hs,q⟩:=h;cases x with
 |aU=>
  cases rx;cases y with
  |aU=>cases ry;exact PySem.EqNone.eq_none_none (aQ I q (by simp))
  |bl j=>cases ry;exact PySem.EqNone.eq_none_bool (aQ I q (by simp))
  |int j=>obtain⟨t',rfl⟩:=ry;exact PySem.EqNone.eq_none_int (aQ I q (by simp))
  |str j=>obtain⟨t',rfl⟩:=ry;exact PySem.EqNone.eq_none_str (aQ I q (by simp))
  |_=>exact absurd (show false=true from hs) QW
 |bl i=>
  cases rx;cases y with
  |aU=>cases ry;exact PySem.EqNone.eq_bool_none (aQ I q (by simp))
  |bl j=>cases ry;exact eq_bool (aQ I q DO)
  |str j=>obtain⟨t',rfl⟩:=ry;exact PySem.EqMixed.eq_bool_str (aQ I q (by simp))
  |_=>exact absurd (show false=true from hs) QW
 |int i=>
  obtain⟨t,rfl⟩:=rx;cases y with
  |aU=>cases ry;exact PySem.EqNone.eq_int_none (aQ I q (by simp))
  |int j=>obtain⟨t',rfl⟩:=ry;exact eq_int (aQ I q yw)
  |str j=>obtain⟨t',rfl⟩:=ry;exact PySem.EqMixed.eq_int_str (aQ I q (by simp))
  |_=>exact absurd (show false=true from hs) QW
 |str i=>
  obtain⟨t,rfl⟩:=rx;cases y with
  |aU=>cases ry;exact PySem.EqNone.eq_str_none (aQ I q (by simp))
  |bl j=>cases ry;exact PySem.EqMixed.eq_str_bool (aQ I q (by simp))
  |int j=>obtain⟨t',rfl⟩:=ry;exact PySem.EqMixed.eq_str_int (aQ I q (by simp))
  |str j=>obtain⟨t',rfl⟩:=ry;exact eq_str (aQ I q yD)
  |_=>exact absurd (show false=true from hs) QW
 |lX i=>
  obtain⟨t,rfl⟩:=rx;cases y with
  |lX j=>obtain⟨t',rfl⟩:=ry;exact PySem.W.eq_bytes (aQ I q za)
  |_=>exact absurd (show false=true from hs) QW
 |_=>cases y<;>exact absurd (show false=true from hs) QW
def M1:bq X (compareOp .NotEq) NV:=by
 intro pins s U H x y v u Q I rx ry h;obtain⟨hs,q⟩:=h;cases x with
 |aU=>
  cases rx;cases y with
  |aU=>cases ry;exact PySem.EqNone.ne_none_none (aQ I q (by simp))
  |bl j=>cases ry;exact PySem.EqNone.ne_none_bool (aQ I q (by simp))
  |int j=>obtain⟨t',rfl⟩:=ry;exact PySem.EqNone.ne_none_int (aQ I q (by simp))
  |str j=>obtain⟨t',rfl⟩:=ry;exact PySem.EqNone.ne_none_str (aQ I q (by simp))
  |_=>exact absurd (show false=true from hs) QW
 |bl i=>
  cases rx;cases y with
  |aU=>cases ry;exact PySem.EqNone.ne_bool_none (aQ I q (by simp))
  |bl j=>cases ry;exact ne_bool (aQ I q (congrArg not DO))
  |str j=>obtain⟨t',rfl⟩:=ry;exact PySem.EqMixed.ne_bool_str (aQ I q (by simp))
  |_=>exact absurd (show false=true from hs) QW
 |int i=>
  obtain⟨t,rfl⟩:=rx;cases y with
  |aU=>cases ry;exact PySem.EqNone.ne_int_none (aQ I q (by simp))
  |int j=>obtain⟨t',rfl⟩:=ry;exact ne_int (aQ I q (congrArg not yw))
  |str j=>obtain⟨t',rfl⟩:=ry;exact PySem.EqMixed.ne_int_str (aQ I q (by simp))
  |_=>exact absurd (show false=true from hs) QW
 |str i=>
  obtain⟨t,rfl⟩:=rx;cases y with
  |aU=>cases ry;exact PySem.EqNone.ne_str_none (aQ I q (by simp))
  |bl j=>cases ry;exact PySem.EqMixed.ne_str_bool (aQ I q (by simp))
  |int j=>obtain⟨t',rfl⟩:=ry;exact PySem.EqMixed.ne_str_int (aQ I q (by simp))
  |str j=>obtain⟨t',rfl⟩:=ry;exact ne_str (aQ I q (congrArg not yD))
  |_=>exact absurd (show false=true from hs) QW
 |lX i=>
  obtain⟨t,rfl⟩:=rx;cases y with
  |lX j=>obtain⟨t',rfl⟩:=ry;exact PySem.W.ne_bytes (aQ I q (congrArg not za))
  |_=>exact absurd (show false=true from hs) QW
 |_=>cases y<;>exact absurd (show false=true from hs) QW
def AN:bq X (compareOp .Lt) (mZ λi j=>.bl (decide (i<j))):=Ak λ_ _ _ _ _ _ _ q=>lt_int q
def Nv:bq X (compareOp .LtE) (mZ λi j=>.bl (decide (i<=j))):=Ak λ_ _ _ _ _ _ _ q=>le_int q
def Mw:bq X (compareOp .Gt) (mZ λi j=>.bl (decide (j<i))):=Ak λ_ _ _ _ _ _ _ q=>gt_int q
def Nd:bq X (compareOp .GtE) (mZ λi j=>.bl (decide (j<=i))):=Ak λ_ _ _ _ _ _ _ q=>ge_int q
def Mc:bq X (compareOp .Is) (λx y H Q=>y=.aU/\Q (.bl (decide (x=.aU))) H):=by
 intro pins s U H x y v u Q I rx ry h;obtain⟨rfl,q⟩:=h;cases ry;refine is_none_gen (aQ I q ?_);cases x<;>first
  | (cases rx;rfl)
  | (obtain⟨t,rfl⟩:=rx;rfl)
def bq.or{f:Value->Value->Sem Value}{r r':R2}(h:bq X f r)(h':bq X f r'):bq X f (λx y H Q=>r x y H Q\/r' x y H Q):=by intro pins s U H x y v u Q I rx ry q;rcases q with q|q;{exact h pins s U H x y v u Q I rx ry q};exact h' pins s U H x y v u Q I rx ry q
def gG(b:Expr){op:CmpOp}(h:op≠.In:=by decide)(h2:op≠.NotIn:=by decide):behindInMarks op b=false:=by
 have e1:(op==CmpOp.In)=false:=by cases op<;>first|rfl|exact absurd rfl h
 have e2:(op==CmpOp.NotIn)=false:=by cases op<;>first|rfl|exact absurd rfl h2
 cases b<;>simp[behindInMarks,e1,e2]
def Ic{op:CmpOp}{r:R2}(ho:bq X (compareOp op) r)(ha:PE X a ta)(hb:PE X b tb)(hm:behindInMarks op b=false):PE X (.Compare a [op] [b] pos) (J8 r ta tb):=by intro pins s U H Q I h;exact wpAny_Compare1 (Et ha hb I h λv u s2 x y H2 I2 rx ry q=>ho pins s2 U H2 x y v u Q I2 rx ry q) hm
inductive Cq(Q:(Bool->Hp->Prop)) (x:V)(H':Hp):Prop
 |mk:∀k,(x=.bl k)->(Q k H')->Cq Q x H'
noncomputable def M7 (t:TE):TT:=λU H Q=>t U H λx H'=>Cq Q x H'
noncomputable def LG (r r':R2)(ta tb tc:TE):TE:=λU H Q=>ta U H λx H1=>tb U H1 λy H2=>r x y H2 λz H3=>∃k,z=.bl k /\
 (if k=true then tc U H3 λw' H4=>r' y w' H4 Q else Q (.bl false) H3)
def Ey{op op':CmpOp}{r r':R2}(ho:bq X (compareOp op) r)(ho':bq X (compareOp op') r')(ha:PE X a ta)(hb:PE X b tb)(hc:PE X c tc)(hm:lastMarks [op,op'] [b,c]=false:=by with_unfolding_all rfl):PT X (.Compare a [op,op'] [b,c] pos) (M7 (LG r r' ta tb tc)):=by
 intro pins s U H Q I h;refine isTrue_chain (aJ (ha pins s U H _ I h) λv s1 ⟨x,H1,I1,r1,q1⟩=>test_link (aJ (hb pins s1 U H1 _ I1 q1) λu s2 ⟨y,H2,I2,r2,q2⟩=>
  aJ (ho pins s2 U H2 x y v u _ I2 r1 r2 q2) λd s3 ⟨z,H3,I3,r3,k,e,q3⟩=>?_)) hm
 subst e;cases r3;refine SR ?_;cases k with
 |false=>obtain⟨k',e',q'⟩:=q3;cases e';exact ite_ff ⟨H3,I3,q'⟩
 |true=>refine ite_tt (test_last (aJ (hc pins s3 U H3 _ I3 q3) λw' s4 ⟨z',H4,I4,r4,q4⟩=>aJ (ho' pins s4 U H4 y z' u w' _ I4 r2 r4 q4) λd' s5 ⟨z2,H5,I5,r5,k2,e2,q5⟩=>?_));subst e2;cases r5;exact SR ⟨H5,I5,q5⟩
noncomputable def sj (K:Uy) (x:V)(H:Hp)(k:Bool):Prop:=
 match x with
 |.aU=>k=false
 |.bl b=>k=b
 |.int i=>k=(i != 0)
 |.str y=>y.length<=sizeLine/\k=((y.length:Int) != 0)
 |.lX y=>y.size<=sizeLine/\k=((y.size:Int) != 0)
 |.ref p=>(∃xs,bA K H p xs/\k=!xs.isEmpty)\/(∃xs,bE K H p xs/\k=!xs.isEmpty)\/∃kvs,H p=some (.dK kvs)/\k=!kvs.isEmpty
 |_=>False
def AI{κ:Type}{kvs:List (κ×V)}{vs:List (κ×Value)}(r:KV kvs vs):(!vs.isEmpty)=!kvs.isEmpty:=by cases r<;>rfl
def rX{xs:List V}{its:VD}(r:Vals xs its):(!its.toArray.isEmpty)=!xs.isEmpty:=by cases r<;>simp
def kZ:(sizeLine:Nat)<2^63:=by rw[sizeLine_eq];decide
def BU:Oj X (λx H Q=>∃k,sj X.K x H k/\Q k H):=by
 intro pins s U H x v Q I rx h;obtain⟨k,e,q⟩:=h;have hl:=kZ;have hs:sizeLine=16777216:=sizeLine_eq;cases x with
 |aU=>cases rx;have e':k=false:=e;subst e';exact truthy_none ⟨H,I,q⟩
 |bl b=>cases rx;have e':k=b:=e;subst e';exact SR ⟨H,I,q⟩
 |int i=>obtain⟨t,rfl⟩:=rx;have e':k=(i != 0):=e;subst e';exact PySem.P.truthy_int ⟨H,I,q⟩
 |str y=>obtain⟨t,rfl⟩:=rx;obtain⟨hy,e'⟩:y.length<=sizeLine/\k=((y.length:Int) != 0):=e;subst e';exact PySem.P.truthy_str (by lia) ⟨H,I.tok _,q⟩
 |lX y=>obtain⟨t,rfl⟩:=rx;obtain⟨hy,e'⟩:y.size<=sizeLine/\k=((y.size:Int) != 0):=e;subst e';exact PySem.W.truthy_bytes (by lia) ⟨H,I.tok _,q⟩
 |ref p=>cases rx;have e':(∃xs,bA X.K H p xs/\k=!xs.isEmpty)\/(∃xs,bE X.K H p xs/\k=!xs.isEmpty)\/∃kvs,H p=some (.dK kvs)/\k=!kvs.isEmpty:=e;rcases e' with⟨xs,hx,e'⟩|⟨xs,hx,e'⟩|⟨kvs,hx,e'⟩;{subst e';obtain⟨its,r,pl,hz⟩:=I.list hx;have hlen:=r.length;exact wpAny_truthy_list pl.isList (by simp only[QI];lia) ⟨H,I.tok _,by rw[rX r];exact q⟩};{subst e';obtain⟨its,r,pl,hz⟩:=I.tuple hx;have hlen:=r.length;exact truthy_tuple pl (by simp only[QI];lia) ⟨H,I.tok _,by rw[rX r];exact q⟩};subst e';obtain⟨hz,hS,vs,r,m⟩:kvs.length<=sizeLine/\(p==sysModules)=false/\∃vs,KV kvs vs/\s.heap.DictOf (cG X.prog X.w) p vs:=I.hok p _ hx;have hlen:kvs.length=vs.length:=Paired.length r;exact wpAny_truthy_dict hS m (by lia) ⟨H,I.tok _,by rw[AI r];exact q⟩
 |_=>exact(show False from e).elim
def v7(ha:PE X a ta)(he:∀whole,isTrue a X.env whole=(do let v <-whole;standAt a.pos;holding [v] (truthy v))) :
  PT X a (λU H Q=>ta U H λx H'=>∃k,sj X.K x H' k/\Q k H'):=by
 intro pins s U H Q I h;exact isTrue_plain (aJ (ha pins s U H _ I h) λv s1 ⟨x,H1,I1,r1,q1⟩=>BU pins s1 U H1 x v Q I1 r1 q1) (he _)
def zY:bq X (binaryOp .Add) (λx y H Q=>∃i j,x=.str i/\y=.str j/\i.length+j.length<=sizeLine/\Q (.str (i++j)) H):=by intro pins s U H x y v u Q I rx ry h;obtain⟨i,j,rfl,rfl,hz,q⟩:=h;obtain⟨t,rfl⟩:=rx;obtain⟨t',rfl⟩:=ry;exact add_str (λt' tk=>⟨.str (i++j),H,I.tok _,⟨_,rfl⟩,q⟩) hz
def vals1{x:V}{us:VD}(r:Vals [x] us):∃u,us=[u]/\RelV x u:=by
 cases r with
 |cons r1 r2=>cases r2;exact⟨_,rfl,r1⟩
def vals2{x y:V}{us:VD}(r:Vals [x,y] us):∃u w',us=[u,w']/\RelV x u/\RelV y w':=by
 cases r with
 |cons r1 r2=>
  cases r2 with
  |cons r3 r4=>cases r4;exact⟨_,_,rfl,r1,r3⟩
def BV(hc:X.calm=true):bZ X (.builtin "min") (λxs H Q=>∃i j,xs=[.int i,.int j]/\Q (.int (if j<i then j else i)) H):=by intro pins s U H xs us Q I r h;obtain⟨i,j,rfl,q⟩:=h;obtain⟨u,w',rfl,⟨t,rfl⟩,⟨t',rfl⟩⟩:=vals2 r;refine min_two_ints (I.ok.hd hc) λh' tk k=>⟨_,H,I.kept k,?_,q⟩;by_cases hj:j<i;{rw[if_pos hj,if_pos hj];exact⟨_,rfl⟩};rw[if_neg hj,if_neg hj];exact⟨_,rfl⟩
def C0:bZ X (.type "int") (λxs H Q=>(∃i,xs=[.int i]/\Q (.int i) H)\/∃k,xs=[.bl k]/\Q (.int (if k then 1 else 0)) H):=by intro pins s U H xs us Q I r h;rcases h with⟨i,rfl,q⟩|⟨k,rfl,q⟩;{obtain⟨u,rfl,t,rfl⟩:=vals1 r;exact call_int_int ⟨.int i,H,I,⟨_,rfl⟩,q⟩};obtain⟨u,rfl,r1⟩:=vals1 r;cases r1;exact call_int_bool ⟨.int (if k then 1 else 0),H,I.tok _,⟨_,rfl⟩,q⟩
end
structure Eg(h:Heap)(x dx C:Addr)(mA:Us):Prop where
 obj:h.get? x=some (PySem.W.instObj C dx)
 ns:h.Ns1 dx mA
 ne:dx≠x
def Ce{h:Heap}{dx:Addr}{mA:Us}(n:h.Ns1 dx mA):∃od,h.get? dx=some od/\∀name,PySem.W.lookIn name od=some (mA name):=by
 obtain⟨o,es,ep,ho,hd,hk,_,hm⟩:=n;refine⟨o,ho,λname=>?_⟩;have e:=hm name;unfold nsFind findBy at e;rw[<-UL]at e;unfold PySem.W.lookIn;rw[hd];dsimp only;split;{rename_i y q;rw[q]at e;exact congrArg some e};rename_i q;rw[q]at e;have a:es.toList.any (·.refKey)=false:=by rw[List.any_eq_false];intro y hy;obtain⟨z,t,hkey⟩:=hk y (Array.mem_toList_iff.mp hy);simp[DictEntry.refKey,hkey]
 have a':¬es.toList.any (·.refKey)=true:=by rw[a];exact QW
 rw[if_neg a'];exact congrArg some e
def Eg.look{h:Heap}{x dx C:Addr}{mA:Us}(I:Eg h x dx C mA):∃od,PySem.W.InstAt h x (PySem.W.instObj C dx) C (some od)/\∀name,PySem.W.lookIn name od=some (mA name):=
 let⟨od,ho,hl⟩:=Ce I.ns
 ⟨od,⟨I.obj,rfl,rfl,ho⟩,hl⟩
def iU.some_of{v:V}{o:Uz}(r:iU (some v) o):∃u,o=some u/\RelV v u:=by
 cases o with
 |none=>exact(show False from r).elim
 |some u=>exact⟨u,rfl,r⟩
section
variable{P:Program}{w:World}{H H':Hp}{h h':Heap}{a C dx:Addr}{fs fs':List (Str×V)}
def HU(hok:cK P w H h)(e:H a=some (.ins C dx fs)):∃mA,Eg h a dx C mA/\(∀f,iU (fs.lookup f) (mA f))/\PySem.Within mA (fs.map (·.1))/\fs.length<=1000/\H dx=some (.own a):=by obtain⟨d,z,ne,ob,mA,n,r,q⟩:=(show bg P w H h a (.ins C dx fs)from hok a _ e);exact⟨mA,⟨ob,n,ne⟩,r,q,z,d⟩
end
structure JN(K:Uy)(C:Addr):Prop where
 pg:PySem.W.plainGet K C Str.empty=true
 hd:PySem.W.hasDictIn K C=true
 po:PySem.W.plainOver K C=true
 sa:PySem.W.findIn K (.ref C) "__setattr__"=some (some (.builtin "object.__setattr__"))
def JN.get{K:Uy}{C:Addr}(c:JN K C) (f:Str):PySem.W.plainGet K C f=true:=c.pg
section
variable{X:Cx}{pins:Ut}{U:St}{H:Hp}{s:Shared}{A:Around}{E:Uq}{Q:Uq}{c:Value}{b:Bool}
inductive fK(K:Uy)(H:Hp):V->Value->Prop where
 |aU:fK K H .aU (.type "NoneType")
 |bl (x:Bool):fK K H (.bl x) (.type "bool")
 |int (i:Int):fK K H (.int i) (.type "int")
 |str (x:Str):fK K H (.str x) (.type "str")
 |yS (x:UInt64):fK K H (.yS x) (.type "float")
 |lst {a:Addr}{xs:List V}(e:H a=some (.lst xs)):fK K H (.ref a) (.type "list")
 |dI {a:Addr}{o:Obj}{xs:List V}(e:H a=some (.dI o (.lst xs))):fK K H (.ref a) (.type "list")
 |kl {a:Addr}{its:VA}{n:Nat}(e:K.lookup a=some { cls:=.type "list",data:=.seq its n }):fK K H (.ref a) (.type "list")
 |tup {a:Addr}{xs:List V}(e:H a=some (.tup xs)):fK K H (.ref a) (.type "tuple")
 |dK {a:Addr}{kvs:List (Key×V)}(e:H a=some (.dK kvs)):fK K H (.ref a) (.type "dict")
 |dT {a:Addr}{kvs:List (List Key×V)}(e:H a=some (.dT kvs)):fK K H (.ref a) (.type "dict")
 |ins {a C dx:Addr}{fs:List (Str×V)}(e:H a=some (.ins C dx fs))(cl:JN K C)(ha:PySem.W.findIn K (.ref C) "__class__"=some (some (.builtin "object.__class__")))
   (hn:PySem.W.specialIn K (.builtin "object.__class__") "__get__"=some (some (.builtin "getset_descriptor.__get__")))(htk:PySem.W.takesIn K (.builtin "object.__class__")=some true)
   (hm:PySem.W.mroIn K C (.type "object")=some true):fK K H (.ref a) (.ref C)
def Ca{x:V}{u t:Value}(I:Inv X pins U H s)(rx:RelV x u)(ty:fK X.K H x t)(e:PySem.W.kitOne X.K t c=some b)(h:∀tk,Q (.bool b) { s with toks:=tk }) : wpAny (model X.prog X.w) A (call (.builtin "isinstance") [u,c]) Q E s:=by
 cases ty with
 |aU=>cases (show u=Value.none from rx);exact RH PySem.W.kitx_none I.gc RV e (λz=>nomatch z) h
 |bl y=>cases (show u=Value.bool y from rx);exact RH PySem.W.kitx_bool I.gc RV e (λz=>nomatch z) h
 |int i=>obtain⟨t,q⟩:=(show ∃t,u=Value.int i t from rx);cases q;exact RH PySem.W.kitx_int I.gc RV e (λz=>nomatch z) h
 |str y=>obtain⟨t,q⟩:=(show ∃t,u=Value.str y t from rx);cases q;exact RH PySem.W.kitx_str I.gc RV e (λz=>nomatch z) h
 |yS y=>obtain⟨t,q⟩:=(show ∃t,u=Value.float y t from rx);cases q;exact RH PySem.W.kitx_float I.gc RV e (λz=>nomatch z) h
 |@lst a xs ea=>cases (show u=Value.ref a from rx);obtain⟨_,_,n,_,h1⟩:=(show bg X.prog X.w H s.heap a (.lst xs)from I.hok a _ ea);exact RH UM I.gc ⟨_,h1,rfl⟩ e (λz=>nomatch z) h
 |@dI a ob xs ea=>cases (show u=Value.ref a from rx);obtain⟨_,_,_,n,_,h1⟩:=(show bg X.prog X.w H s.heap a (.dI ob (.lst xs))from I.hok a _ ea);exact RH UM I.gc ⟨_,h1,rfl⟩ e (λz=>nomatch z) h
 |@kl a its n ea=>cases (show u=Value.ref a from rx);exact RH UM I.gc ⟨_,I.gc a _ ea,rfl⟩ e (λz=>nomatch z) h
 |@tup a xs ea=>cases (show u=Value.ref a from rx);obtain⟨_,_,_,p⟩:=(show bg X.prog X.w H s.heap a (.tup xs)from I.hok a _ ea);obtain⟨o,h1,h2,_⟩:=p;exact RH PySem.W.kitx_tuple I.gc ⟨o,h1,h2⟩ e (λz=>nomatch z) h
 |@dK a kvs ea=>cases (show u=Value.ref a from rx);obtain⟨_,_,vs,_,p⟩:=(show bg X.prog X.w H s.heap a (.dK kvs)from I.hok a _ ea);obtain⟨o,es,ep,h1,h2,_⟩:=p;exact RH PySem.W.kitx_dict I.gc ⟨o,h1,h2.1⟩ e (λz=>nomatch z) h
 |@dT a kvs ea=>cases (show u=Value.ref a from rx);obtain⟨_,_,xs,_,o,es,ep,h1,h2,_⟩:=(show bg X.prog X.w H s.heap a (.dT kvs)from I.hok a _ ea);exact RH PySem.W.kitx_dict I.gc ⟨o,h1,h2.1⟩ e (λz=>nomatch z) h
 |@ins a C dx fs ea cl ha hn htk hm=>cases (show u=Value.ref a from rx);obtain⟨mA,O,_⟩:=HU I.hok ea;obtain⟨od,J,_⟩:=O.look;exact RH (PySem.W.kitx_own (cl.get _) cl.hd ha hn htk hm) I.gc J e (λz=>nomatch z) h
end
structure cQ(k:Nat)(A:Around):Prop where
 hd:A.handled=none
 dp:A.depth+3*k+5<recursionLimit
 un:A.units+16*k+200<cLine
def cQ.mono{j k:Nat}{A:Around}(r:cQ k A)(h:j<=k):cQ j A:=⟨r.hd,by have:=r.dp;lia,by have:=r.un;lia⟩
theorem cQ.deeper{k:Nat}{A:Around}(r:cQ (k+1) A)(env:Env):cQ k (A.deeper env):=
 ⟨r.hd,by have:=r.dp;show A.depth+1+3*k+5<_;lia,by have:=r.un;show A.units+3+16*k+200<_;lia⟩
theorem cQ.depth{k:Nat}{A:Around}(r:cQ k A):A.depth<recursionLimit:=by have:=r.dp;lia
theorem cQ.units{k:Nat}{A:Around}(r:cQ k A):A.units+64<cLine:=by have:=r.un;lia
noncomputable def O1:TA:=λ_ H Q=>Q [] H
noncomputable def Ms (ta:TE)(tr:TA):TA:=λU H Q=>ta U H λx H1=>tr U H1 λxs H2=>Q (x::xs) H2
section
variable{X:Cx}{e:Expr}{es:VG}{te:TE}{t:TA}{pos:Pos}
def lU:PA X [] O1:=λ_ _ _ _ H Q I h=>Calls.spliced_nil ⟨[],H,I,.nil,h⟩
def gh(ha:PE X e te)(hr:PA X es t)(hs:starEach (e::es) X.env=(false,eval e X.env)::starEach es X.env:=by rfl):PA X (e::es) (Ms te t):=by intro pos pins s U H Q I h;rw[hs];show wpAny _ _ (spliced ((false,eval e X.env)::backTo pos (starEach es X.env))) _ _ s;refine Calls.spliced_cons (aJ (ha pins s U H _ I h) λu s1 ⟨x,H1,I1,r1,q1⟩=>?_);exact aJ (hr pos pins s1 U H1 _ I1 q1) λus s2 ⟨xs,H2,I2,r2,q2⟩=>⟨x::xs,H2,I2,.cons r1 r2,q2⟩
noncomputable def OZ (t:TA):TE:=λU H Q=>t U H λxs H1=>xs.length<=sizeLine/\∀p,H1 p=none->Q (.ref p) (upd H1 p (.tup xs))
noncomputable def OI (t:TA):TE:=λU H Q=>t U H λxs H1=>xs.length<=sizeLine/\∀p,H1 p=none->Q (.ref p) (upd H1 p (.lst xs))
def Je{x1}(h:PA X es t):PE X (.Tuple es x1 pos) (OZ t):=by intro pins s U H Q I hq;refine wpAny_Tuple_spliced (aJ (h pos pins s U H _ I hq) λus s1 ⟨xs,H1,I1,r,z,q⟩=>⟨by rw[<-r.length];exact z,?_⟩);have hf:H1 s1.heap.objs.size=none:=I1.hok.fresh (Q7 _);refine⟨.ref s1.heap.objs.size,upd H1 s1.heap.objs.size (.tup xs),I1.laid (t':=s1.toks) (λb u e=>QU _ e) (Q7 _) ?_,rfl,q _ hf⟩;exact⟨z,us,r,⟨_,Qn _ rfl,rfl,_,rfl⟩⟩
def J1(h:PA X es t):PE X (.List es pos) (OI t):=by intro pins s U H Q I hq;refine wpAny_List_spliced (aJ (h pos pins s U H _ I hq) λus s1 ⟨xs,H1,I1,r,z,q⟩=>⟨by rw[<-r.length];exact z,?_⟩);have hf:H1 s1.heap.objs.size=none:=I1.hok.fresh (Q7 _);refine⟨.ref s1.heap.objs.size,upd H1 s1.heap.objs.size (.lst xs),I1.laid (t':=s1.toks) (λb u e=>QU _ e) (Q7 _) ?_,rfl,q _ hf⟩;exact⟨z,us,0,r,Qn _ rfl⟩
end
noncomputable abbrev Sp:=List V->Hp->VK->XK->Prop
noncomputable abbrev kF:=List Env->Hp->Shared->XK->Value->Shared->Prop
structure AG(P:Program)(w:World)(K:Uy)(mg:Us)(base:Heap)(A:Around)(outer:List Env)(s:Shared)(H:Hp):Prop where
 frames:A.frames=some outer
 mod:Mod K mg base
 bs:∀b o,base.get? b=some o->s.heap.get? b=some o/\H b=none
 yT:base.objs.size<=s.heap.objs.size
 kQ:s.heap.FunFrames base outer
 Cu:∀b∈frs outer,H b=none
 hok:cK P w H s.heap
 bare:AllBare s.gens
noncomputable def CE (outer:List Env)(P:Program)(w:World)(H:Hp)(s:Shared)(Q:VK)(u:Value)(s':Shared):Prop:=
 ∃v H',s'.os=s.os/\AllBare s'.gens/\Un (frs outer) [] H H' s.heap s'.heap/\cK P w H' s'.heap/\RelV v u/\Q v H'
noncomputable def CR (CX:kF)(outer:List Env)(P:Program)(w:World)(H:Hp)(s:Shared)(Q:VK)(E:XK)(r:Result)(s':Shared):Prop:=
 match r with
 |.ok (.ret u)=>CE outer P w H s Q u s'
 |.ok _=>False
 |.error e=>CX outer H s E e s'
structure fH(P:Program)(w:World)(K:Uy)(mg:Us)(base:Heap)(CX:kF) (k:Nat)(f:Addr)(fd:FuncData)(ps:VL)(sp:Sp):Prop where
 len:∀vs H Q E,sp vs H Q E->vs.length=ps.length
 run:∀(A:Around)(outer:List Env)(s:Shared)(H:Hp)(args:Args)(us:VD)(vs:List V)(Q:VK)(E:XK),cQ k A->AG P w K mg base A outer s H->BindsTo s fd args (ps.zip us)->Vals vs us->sp vs H Q E->
  codeAny (model P w) A (.call (.ref f) args) (CR CX outer P w H s Q E) s
def fH.imp{P:Program}{w:World}{K:Uy}{mg:Us}{base:Heap}{CX:kF}{k:Nat}{f:Addr}{fd:FuncData}{ps:VL}{sp sp':Sp}(F:fH P w K mg base CX k f fd ps sp)(h:∀vs H Q E,sp' vs H Q E->sp vs H Q E):fH P w K mg base CX k f fd ps sp':=
 ⟨λvs H Q E q=>F.len vs H Q E (h _ _ _ _ q),λA outer s H args us vs Q E hr he hb hv hs=>F.run A outer s H args us vs Q E hr he hb hv (h _ _ _ _ hs)⟩
section
variable{X:Cx}{pins:Ut}{U:St}{H:Hp}{s s':Shared}
def Inv.OF(I:Inv X pins U H s):AG X.prog X.w X.K X.mg X.base X.A X.stack s H:=
 ⟨I.ok.frames,I.ok.mod,I.bs,Qd I.ok.yT I.sz,I.stack,I.rY,I.hok,I.bare⟩
def Inv.after{Q:VK}{u:Value}(I:Inv X pins U H s)(h:CE X.stack X.prog X.w H s Q u s'):EP X pins U Q u s':=by obtain⟨v,H',os,bare,un,hok,r,q⟩:=h;obtain⟨hh,g,d,t,os'⟩:=s';obtain rfl:os'=s.os:=os;exact⟨v,H',I.call (h':=hh) (g':=g) (d':=d) (t':=t) (ch:=[]) un hok bare (λb z=>absurd z (by simp)),r,q⟩
end
noncomputable def Ny (sp:Sp)(dvs:List V)(E:XK)(t:TA):TE:=λU H Q=>t U H λvs H1=>sp (vs++dvs) H1 Q E
noncomputable def Binds (K:Uy)(fd:FuncData)(ps:VL)(ds:VD):Prop:=
 ∀(s:Shared)(us:VD),K.In s.heap->(us++ds).length=ps.length->BindsTo s fd ⟨us,[]⟩ (ps.zip (us++ds))
def Binds.all{K:Uy}{fd:FuncData}{ps:VL}(h:∀us:VD,us.length=ps.length->bindArgs fd ⟨us,[]⟩=pure (ps.zip us)):Binds K fd ps []:=λs us _ hl=>by rw[Qz]at hl⊢;exact .of_eq (h us hl)
noncomputable def Passes (CX:kF)(X:Cx)(E:XK):Prop:=∀(pins:Ut)(U:St)(H:Hp)(s:Shared)(e:Value)(s':Shared),Inv X pins U H s->CX X.stack H s E e s'->X.xe e s'
section
variable{X:Cx}{CX:kF}{k:Nat}{f C:Addr}{fd:FuncData}{ps:VL}{sp:Sp}{dvs:List V}{ds:VD}{E:XK}{x m:Str}{p pos apos:Pos}{e o:Expr}{es:VG}{ta:TE}{t:TA}
def KO{pins:Ut}{U:St}{H:Hp}{s:Shared}{Q:VK}{us:VD}{vs:List V}(F:fH X.prog X.w X.K X.mg X.base CX k f fd ps sp)(hr:cQ k X.A)(hb:Binds X.K fd ps ds)(hd:Vals dvs ds)(hx:Passes CX X E)(I:Inv X pins U H s)(r:Vals vs us)(h:sp (vs++dvs) H Q E):wpAny (model X.prog X.w) X.A (call (.ref f) us) (EP X pins U Q) X.xe s:=by
 have r2:Vals (vs++dvs) (us++ds):=r.append hd;have hl:(us++ds).length=ps.length:=by rw[<-r2.length];exact F.len _ _ _ _ h
 refine wpAny_call (codeAny_mono (F.run X.A X.stack s H ⟨us,[]⟩ (us++ds) (vs++dvs) Q E hr I.OF (hb s us I.gc hl) r2 h) λr s' hq=>?_);cases r with
 |error e=>exact hx pins U H s e s' I hq
 |ok fl=>
  cases fl with
  |ret u=>exact I.after hq
  |next=>exact False.elim hq
  |brk=>exact False.elim hq
  |cont=>exact False.elim hq
def zh(F:fH X.prog X.w X.K X.mg X.base CX k f fd ps sp)(hr:cQ k X.A)(hg:Gl X x)(hm:X.mg x=some (.ref f))(hk:PySem.W.keepIn X.K (.ref f)=true)(hb:Binds X.K fd ps ds)(hd:Vals dvs ds)(hx:Passes CX X E)(ha:PA X (e::es) t)(hdb:(x==("__debug__":Str))=false:=by decide)(he:starEach (e::es) X.env=(false,eval e X.env)::starEach es X.env:=by rfl)(hpl:(backTo pos (starEach es X.env)).any (·.1)=false:=by rfl) : PE X (.Call (.Name x p) (e::es) [] pos) (Ny sp dvs E t):=by intro pins s U H Q I h;refine UN (sf I hg hm ?_ hdb);refine PySem.W.callWith_K (h₀:=X.base) I.ok.mod.Gn hk (aJ (ha pos pins s U H _ I h) λus s1 ⟨vs,H1,I1,r,q⟩=>⟨I1.gc,?_⟩) he hpl;exact KO F hr hb hd hx I1 r q
end
structure aN(N P:VL)(sc:Scope):Prop where
 kind:sc.kind=.function
 co:sc.isCoroutine=false
 gen:sc.isGenerator=false
 nd:N.Nodup
 pre:N.take P.length=P
 par:∀x∈P,sc.names.lookup x=some .local\/sc.names.lookup x=some .cell
 K9:∀y∈sc.names,y.2≠.free
theorem tX{kindOf:Str->Option NameKind}{x:Str}:∀{binds:List (Str×Value)}{m:Us},(∀v,(x,v)∉binds)->bindL kindOf binds m x=m x
 |[],_,_=>rfl
 | (n,v)::r,m,h=>by
  unfold bindL;rw[tX λw hw=>h w (QB _ hw)];split
  .have:x≠n:=by rintro rfl;exact h v Q4
   simp[this]
  rfl
theorem uh{kindOf:Str->Option NameKind}{x:Str}:∀{binds:List (Str×Value)}{m:Us},(∀v,(x,v)∉binds)->bindC kindOf binds m x=m x
 |[],_,_=>rfl
 | (n,v)::r,m,h=>by
  unfold bindC;rw[uh λw hw=>h w (QB _ hw)];split;{rfl};have:x≠n:=by rintro rfl;exact h v Q4
  simp[this]
theorem t6{kindOf:Str->Option NameKind}{x:Str}{v:Value}:∀{P:VL}{vs:VD}{i:Nat}{m:Us},P.Nodup->P[i]?=some x->vs[i]?=some v->kindOf x=some .local-> bindL kindOf (P.zip vs) m x=some v
 |[],_,_,_,_,h,_,_=>by simp at h
 |_::_,[],_,_,_,_,h,_=>by simp at h
 |p::P,w::vs,0,m,nd,h1,h2,hk=>by simp at h1 h2;subst h1;subst h2;show bindL kindOf ((p,w)::P.zip vs) m p=_;unfold bindL;rw[tX λv hv=>(RE.mp nd).1 (Te hv).1,if_pos hk];simp
 |p::P,w::vs,i+1,m,nd,h1,h2,hk=>by show bindL kindOf ((p,w)::P.zip vs) m x=_;unfold bindL;exact t6 (i:=i) (RE.mp nd).2 (by simpa using h1) (by simpa using h2) hk
theorem uf{kindOf:Str->Option NameKind}{x:Str}{v:Value}:∀{P:VL}{vs:VD}{i:Nat}{m:Us},P.Nodup->P[i]?=some x->vs[i]?=some v->kindOf x≠some .local-> bindC kindOf (P.zip vs) m x=some v
 |[],_,_,_,_,h,_,_=>by simp at h
 |_::_,[],_,_,_,_,h,_=>by simp at h
 |p::P,w::vs,0,m,nd,h1,h2,hk=>by simp at h1 h2;subst h1;subst h2;show bindC kindOf ((p,w)::P.zip vs) m p=_;unfold bindC;rw[uh λv hv=>(RE.mp nd).1 (Te hv).1,if_neg hk];simp
 |p::P,w::vs,i+1,m,nd,h1,h2,hk=>by show bindC kindOf ((p,w)::P.zip vs) m x=_;unfold bindC;exact uf (i:=i) (RE.mp nd).2 (by simpa using h1) (by simpa using h2) hk
noncomputable def start (N:VL)(vs:List V):St:=vs.map some++List.replicate (N.length-vs.length) none
noncomputable def fF (CX:kF)(P:Program)(w:World)(K:Uy)(mg:Us)(base:Heap)(N:VL) (qual:Str)(scope:Scope)(f:Addr)(cd:Value)(A:Around)(outer:List Env)(s:Shared)(H:Hp)(E:XK):Cx where
 prog:=P
 w:=w
 K:=K
 mg:=mg
 base:=base
 A:=A.deeper (envOfC qual scope s.heap.objs.size f cd)
 N:=N
 s₀:=s
 H₀:=H
 env:=envOfC qual scope s.heap.objs.size f cd
 outer:=outer
 stack:=envOfC qual scope s.heap.objs.size f cd::outer
 ex:=[]
 calm:=true
 fn:=λ_=>true
 pn:=[]
 xe:=λe s'=>wpAny (model P w) (A.deeper (envOfC qual scope s.heap.objs.size f cd)) (leaving (envOfC qual scope s.heap.objs.size f cd) e) (λ_ s''=>CX outer H s E e s'') (λe' s''=>CX outer H s E e' s'') s'
def vN{sc:Scope}{n:Nat}{x:Str}(h:sc.names.lookup x=some .cell):∃c,(cellsFrom n sc.names []).lookup x=some c:=by have q:=PySem.W.cellsFrom_some sc.names n [] (.inl h);exact Option.isSome_iff_exists.mp q
def DL{CX:kF}{P:Program}{w:World}{K:Uy}{mg:Us}{base:Heap}{N ps:VL}{qual:Str}{scope:Scope}{f:Addr}{cd:Value}{A:Around}{outer:List Env}{s s1:Shared}{H:Hp}{E:XK}{us:VD}{vs:List V}(S:aN N ps scope)(hd:A.handled=none)(e0:AG P w K mg base A outer s H)(hl:vs.length=ps.length)(r:Vals vs us)(x:InCallC s s.heap.objs.size (bindL (envOfC qual scope s.heap.objs.size f cd).kindOf (ps.zip us) λ_=>none) (cellsFrom (s.heap.objs.size+1) scope.names []) (bindC (envOfC qual scope s.heap.objs.size f cd).kindOf (ps.zip us) λ_=>none) s1) : Inv (fF CX P w K mg base N qual scope f cd A outer s H E) [] (start N vs) H s1:=by
 have hpl:ps.length<=N.length:=by have:=congrArg List.length S.pre;rw[RW]at this;lia
 obtain⟨h1,tk,rfl,hk⟩:=x.done;have noA:∀b:Addr,b∉(fF CX P w K mg base N qual scope f cd A outer s H E).ex:=λb z=>absurd (show b∈([]:VE)from z) (by simp);refine⟨⟨e0.mod,S.kind,rfl,rfl,Q7 _,λy z c h1 h2=>?_,λy hy=>?_,λy c _ h=>?_,λ_=>hd,Around.frames_deeper e0.frames,.inr ⟨rfl,rfl⟩,λb z=>absurd z (noA b),e0.bs,e0.yT,λb _ _=>noA b,λb z=>absurd z (noA b),e0.kQ,e0.Cu⟩,
  rfl,e0.bare,Un.kept hk,⟨_,x.toInCall.ns,λi y v h1 h2 h3=>?_⟩,λy c h=>⟨_,x.cell y c h⟩,e0.hok.fresh (Q7 _),λy c h=>?_,λp hp=>absurd (show p∈([]:Ut)from hp) (by simp),e0.hok.kept hk,?_⟩
 .exact name_of_addr x.apart (Sw h1) (Sw h2)
 .have hy:scope.names.lookup y=some .cell\/scope.names.lookup y=some .free:=hy;rcases hy with hy|hy;{exact vN hy};exact absurd rfl (S.K9 _ (Sw hy))
 .exact Nat.le_of_lt (x.above y c (Sw h))
 .have hi:i<vs.length:=by unfold start at h2;by_cases hi:i<vs.length;{exact hi};rw[Sx (by simpa using hi)]at h2;rw[Tf]at h2;split at h2<;>cases h2
  have ha:vs[i]?=some v:=by
   unfold start at h2;rw[SX (by simpa using hi),QF]at h2;cases e:vs[i]? with
   |none=>rw[e]at h2;cases h2
   |some a=>rw[e]at h2;cases h2;rfl
  obtain⟨u,hu,rv⟩:=r.get ha;have hp:ps[i]?=some y:=by rw[<-S.pre,List.getElem?_take_of_lt (by lia)];exact h1
  have ndP:ps.Nodup:=by rw[<-S.pre];exact S.nd.sublist (List.take_sublist _ _)
  refine⟨u,rv,?_⟩;rcases S.par y (Qi hp)with k|k;{exact .inl ⟨k,t6 ndP hp hu k⟩};obtain⟨c,e⟩:=vN (n:=s.heap.objs.size+1) k;refine .inr ⟨.inl k,c,e,?_⟩;have q:=x.cell y c e;rw[uf ndP hp hu (by show scope.names.lookup y≠_;rw[k];decide)]at q;exact q
 .exact e0.hok.fresh (Nat.le_of_lt (x.above y c (Sw h)))
 unfold start;show _=N.length;rw[QE,Q5,RI];lia
def Na{CX:kF}{P:Program}{w:World}{K:Uy}{mg:Us}{base:Heap}{k:Nat}{f:Addr}{name qual:Str}{params:Arguments}{body:VH}{scope:Scope}{dV kV doc pm cdv ct oc:Value}{an od:VC}{osl:Up}{N ps:VL}{sp:Sp}(lk:K.lookup f=some ⟨oc,od,.func (PySem.W.fnOf name qual params body scope dV kV doc pm an cdv ct),osl⟩)(hcd:PySem.W.codeIn K cdv qual=true)(S:aN N ps scope)(len:∀vs H Q E,sp vs H Q E->vs.length=ps.length)(hbody:∀(A:Around)(outer:List Env)(s:Shared)(H:Hp)(vs:List V)(Q:VK)(E:XK),cQ k (A.deeper (envOfC qual scope s.heap.objs.size f cdv))->sp vs H Q E-> ∃t,mW (fF CX P w K mg base N qual scope f cdv A outer s H E) body t/\t { nx:=λ_ H'=>Q .aU H',rt:=Q } (start N vs) H) : fH P w K mg base CX (k+1) f (PySem.W.fnOf name qual params body scope dV kV doc pm an cdv ct) ps sp:=by
 refine⟨len,λA outer s H args us vs Q E hr e0 hb r hsp=>?_⟩;have hl:=len _ _ _ _ hsp;have KX:K.In s.heap:=e0.mod.Gn.keeps λb o e=>(e0.bs b o e).1;have lim:s.heap.NoLimit:=e0.mod.nolimit.keeps λb o e=>(e0.bs b o e).1;have hkind:∀y∈ps.zip us,scope.names.lookup y.1=some .local\/(scope.names.lookup y.1=some .cell/\((cellsFrom (s.heap.objs.size+1) scope.names []).lookup y.1).isSome=true):=λ⟨n,v⟩ hy=>by rcases S.par n (Te hy).1 with q|q;{exact .inl q};exact .inr ⟨q,PySem.W.cellsFrom_some _ _ _ (.inl q)⟩
 refine codeAny_call_function hr.depth (KX _ _ lk) rfl S.co S.gen rfl (PySem.W.codeRec_of KX hcd) (hb _ _ _ _ ?_);refine wpAny_newFunctionEnv_cells S.kind hkind λenv he s1 x=>?_;subst he;refine⟨lim.keeps x.toInCall.keep,codeAny_func ?_⟩;obtain⟨t,ht,hq⟩:=hbody A outer s H vs Q E (hr.deeper _) hsp;have I:Inv (fF CX P w K mg base N qual scope f cdv A outer s H E) [] (start N vs) H s1:=DL S hr.hd e0 hl r x;refine RC (ht [] s1 (start N vs) H _ I hq) (λfl s' hs=>?_) λe s' hs=>hs;have fin:∀{σ':St}{H':Hp}{v:V}{u:Value},Inv (fF CX P w K mg base N qual scope f cdv A outer s H E) [] σ' H' s'->RelV v u->Q v H'->CE outer P w H s Q u s':=
  λ{σ' H' v u} J rv q=>⟨v,H',J.os,J.bare,J.base,J.hok,rv,q⟩
 cases fl with
 |ret u=>obtain⟨v,σ',H',J,rv,q⟩:=hs;exact fin J rv q
 |next=>obtain⟨σ',H',J,q⟩:=hs;exact fin (v:=V.aU) (u:=Value.none) J rfl q
 |brk=>obtain⟨_,_,_,q⟩:=hs;exact False.elim q
 |cont=>obtain⟨_,_,_,q⟩:=hs;exact False.elim q
section
variable{X:Cx}{x:Str}{p pos:Pos}{e:Expr}{es:VG}{t:TA}{id T:String}{r:List V->Hp->VK->Prop}
noncomputable def Oa (r:List V->Hp->VK->Prop)(t:TA):TE:=λU H Q=>t U H λvs H1=>r vs H1 Q
def xm(hc:bZ X (.builtin id) r)(hg:Gl X x)(hm:X.mg x=none)(hv:bootBuiltins x=some (.builtin id))(ha:PA X (e::es) t)(hn:x≠"__name__":=by decide)(hdb:(x==("__debug__":Str))=false:=by decide)(he:starEach (e::es) X.env=(false,eval e X.env)::starEach es X.env:=by rfl)(hpl:(backTo pos (starEach es X.env)).any (·.1)=false:=by rfl):PE X (.Call (.Name x p) (e::es) [] pos) (Oa r t):=by intro pins s U H Q I h;refine UN (iJ I hg hm hv ?_ hn hdb);exact PyProof.Rows.callWith_builtin1 (aJ (ha pos pins s U H _ I h) λus s1 ⟨vs,H1,I1,r1,q1⟩=>hc pins s1 U H1 vs us Q I1 r1 q1) he hpl
def ki(hc:bZ X (.type T) r)(hg:Gl X x)(hm:X.mg x=none)(hv:bootBuiltins x=some (.type T))(ha:PA X (e::es) t)(hn:x≠"__name__":=by decide)(hdb:(x==("__debug__":Str))=false:=by decide)(he:starEach (e::es) X.env=(false,eval e X.env)::starEach es X.env:=by rfl)(hpl:(backTo pos (starEach es X.env)).any (·.1)=false:=by rfl):PE X (.Call (.Name x p) (e::es) [] pos) (Oa r t):=by intro pins s U H Q I h;refine UN (iJ I hg hm hv ?_ hn hdb);exact SW (aJ (ha pos pins s U H _ I h) λus s1 ⟨vs,H1,I1,r1,q1⟩=>hc pins s1 U H1 vs us Q I1 r1 q1) he hpl
end
end L2
namespace HT
open PySem PyProof.Rows
section
variable{prog:Program}{w:World}{A:Around}{E:Uq}{s:Shared}
def HZ{t b:Addr}{vs ws:VD}{Q:Uq}(ht:IsTup s.heap t vs.toArray)(hb:IsTup s.heap b ws.toArray)(hv:vs≠[])(h1:ws=[]->Q (.ref t) s)(h2:ws≠[]->Q (.ref s.heap.objs.size) { s with heap:=s.heap.push { cls:=.type "tuple",data:=.seq (vs++ws).toArray } })(hsz:vs.length+ws.length<=sizeLine):wpAny (model prog w) A (binaryOp .Add (.ref t) (.ref b)) Q E s:=by
 obtain⟨⟨cls,dd,data,sl⟩,ho,hc,n,hd⟩:=id ht;obtain⟨⟨cls2,dd2,data2,sl2⟩,ho2,hc2,n2,hd2⟩:=id hb;simp only at hc hd hc2 hd2;subst hc hd hc2 hd2;have e:vs.toArray++ws.toArray=(vs++ws).toArray:=by simp
 by_cases hw:ws=[]
 .exact concat_meets ⟨_,ho,rfl⟩ ⟨_,ho2,rfl⟩ noFill_tuple_add seq_tuple_add PySem.F.slot_tuple_add PySem.F.entry_tuple_add (PySem.F.args_tuple_add_2 _ _)
   (tuple_addW1 t b vs.toArray ws.toArray n n2 dd dd2 sl sl2 (by simpa using hv) (by simp[hw])) ⟨ho,ho2,h1 hw⟩
 refine concat_meets ⟨_,ho,rfl⟩ ⟨_,ho2,rfl⟩ noFill_tuple_add seq_tuple_add PySem.F.slot_tuple_add PySem.F.entry_tuple_add (PySem.F.args_tuple_add_2 _ _)
  (tuple_addW2 t b vs.toArray ws.toArray n n2 dd dd2 sl sl2 (by simpa using hv) (by simpa using hw) (by rw[QI,QI];exact hsz)) ⟨ho,ho2,?_⟩
 rw[e];exact h2 hw
noncomputable def aF (n d:Nat):Option Int->Nat
 |none=>d
 |some v=>if v<0 then(v+(n:Int)).toNat else min v.toNat n
def lK(n d k:Nat):aF n d (some (k:Int))=min k n:=by show(if(k:Int)<0 then((k:Int)+(n:Int)).toNat else min (k:Int).toNat n)=min k n;rw[if_neg (by lia),Ti]
def JY(n d:Nat)(hd:d<=n)(o:Option Int):aF n d o<=n:=by
 cases o with
 |none=>exact hd
 |some v=>show(if v<0 then(v+(n:Int)).toNat else min v.toNat n)<=n;by_cases hv:v<0;{rw[if_pos hv];lia};rw[if_neg hv];exact UO _ _
def yd(v:Int) (n d:Nat):(if v<0 then max (v+(n:Int)) 0 else min v (n:Int))=((aF n d (some v):Nat):Int):=by show(if v<0 then max (v+(n:Int)) 0 else min v (n:Int))=(((if v<0 then(v+(n:Int)).toNat else min v.toNat n):Nat):Int);by_cases hv:v<0;{simp only[if_pos hv];lia};simp only[if_neg hv];lia
def AR(lo hi:Option Int) (n:Nat):Builtin.Slice.sliceAdjust lo hi 1 (n:Int)=(((aF n 0 lo:Nat):Int),((aF n n hi:Nat):Int)):=by
 have h1:¬((1:Int)<0):=by lia
 unfold Builtin.Slice.sliceAdjust;simp only[h1,RZ];refine Prod.ext ?_ ?_
 .cases lo with
  |none=>rfl
  |some v=>exact yd v n 0
 cases hi with
 |none=>rfl
 |some v=>exact yd v n n
def z0(i j:Nat):Builtin.Slice.slicePlaces (i:Int) (j:Int) 1=j-i:=by
 unfold Builtin.Slice.slicePlaces;have h1:(1:Int)>0:=by lia
 simp only[h1,if_true,Int.ediv_one];split<;>lia
def rS{v:Value}{o:Option Int}{Q:Option Int->Shared->Prop}(p:IsPart v o)(h:Q o s):wpAny (model prog w) A (Builtin.Slice.slicePartIndex v) Q E s:=by
 cases p with
 |none=>exact slicePart_none h
 |int i t=>exact slicePart_int h
def jW{sl:Addr}{vl vu:Value}{lo hi:Option Int}{n:Nat}{Q:Int×Int×Nat->Shared->Prop}(hs:s.heap.IsSliceOf sl vl vu .none)(pl:IsPart vl lo)(pu:IsPart vu hi)(h:Q (((aF n 0 lo:Nat):Int),1,aF n n hi-aF n 0 lo) s):wpAny (model prog w) A (Builtin.Slice.sliceApplied (.ref sl) (pure (n:Int))) Q E s:=by obtain⟨os,hos,hcs,hds⟩:=id hs;unfold Builtin.Slice.sliceApplied Builtin.Slice.sliceFields;refine Q0 (Q0 (Rt hos hds (x:=vl) rfl (Q0 (Rt hos hds (x:=vu) rfl (Q0 (Rt hos hds (x:=.none) rfl (Q6 ?_)))))));refine Q0 (slicePart_none ?_);show wpAny _ _ (if((1:Int)==0)=true then _ else _) _ _ s;rw[if_neg (by decide)];refine Q0 (rS pl (Q0 (rS pu (Q0 (Q6 ?_)))));show wpAny _ _ (match Builtin.Slice.sliceAdjust lo hi 1 (n:Int)with|(lo,hi)=>pure (lo,(1:Int),Builtin.Slice.slicePlaces lo hi 1)) _ _ s;rw[AR lo hi n];show wpAny _ _ (pure (((aF n 0 lo:Nat):Int),(1:Int),Builtin.Slice.slicePlaces ((aF n 0 lo:Nat):Int) ((aF n n hi:Nat):Int) 1)) _ _ s;rw[z0];exact Q6 h
def D7(xs:VA) (i k:Nat):((List.range k).filterMap λ(m:Nat)=>xs[((i:Int)+(m:Int)*1).toNat]?).toArray=((xs.toList.drop i).take k).toArray:=by
 have e:(λ(m:Nat)=>xs[((i:Int)+(m:Int)*1).toNat]?)=λm=>xs[i+m]?:=by
  funext m;have:((i:Int)+(m:Int)*1).toNat=i+m:=by lia
  rw[this]
 rw[e];have:=pick_run xs i k;rw[List.filterMap_map]at this;have e2:((λx=>xs[x]?)∘λx=>i+x)=λm=>xs[i+m]?:=rfl;rw[e2]at this;rw[this]
def oW{t sl:Addr}{items:VA}{vl vu:Value}{lo hi:Option Int}{Q:Uq}(ht:IsTup s.heap t items)(hs:s.heap.IsSliceOf sl vl vu .none)(pl:IsPart vl lo)(pu:IsPart vu hi)(hw:¬(aF items.size 0 lo=0/\aF items.size items.size hi=items.size))(h:Q (.ref s.heap.objs.size) { s with heap:=s.heap.push { cls:=.type "tuple",data:=.seq ((items.toList.drop (aF items.size 0 lo)).take (aF items.size items.size hi-aF items.size 0 lo)).toArray } })(hsz:items.size<=sizeLine):wpAny (model prog w) A (getItem (.ref t) (.ref sl)) Q E s:=by
 have htake:sizeOk (.seq ((items.toList.drop (aF items.size 0 lo)).take (aF items.size items.size hi-aF items.size 0 lo)).toArray):=by show((items.toList.drop (aF items.size 0 lo)).take (aF items.size items.size hi-aF items.size 0 lo)).toArray.size<=sizeLine;rw[QI,RW,RO,Rq];exact Qd (UO _ _) (Qd (Nat.sub_le _ _) hsz)
 have hj:aF items.size items.size hi<=items.size:=JY _ _ (Q7 _) hi;obtain⟨os,hos,hcs,hds⟩:=id hs;have hTs:s.TypeIs (.ref sl) "slice":=⟨os,hos,hcs⟩;unfold getItem;try with_reducible refine RU ?_
 first|refine Q0 (Q6 ?_)|skip
 refine Q0 (wpAny_sequenceKey ht.typeIs (by decide) ?_);refine Q0 (Tj (name:=Str.ofString "__getitem__") ht.typeIs Tn
  (Ru Tn ht.typeIs entry_tuple_getitem ?_ (args_tuple_getitem _ _)))
 show wpAny _ _ (Builtin.Tuple.tupleItemsOf (.ref t)>>=_) _ _ s;refine Q0 (tupleItemsOf_ ht ?_);refine Q0 (Sy hTs ?_);rw[if_pos (by decide)];refine Q0 (jW hs pl pu ?_);have hno:¬((((aF items.size 0 lo:Nat):Int)==0&&(1:Int)==1&&(aF items.size items.size hi-aF items.size 0 lo)==items.size)=true):=by intro q;rw[QA,QA]at q;have q1:((aF items.size 0 lo:Nat):Int)=0:=S8 q.1.1;have q2:aF items.size items.size hi-aF items.size 0 lo=items.size:=S8 q.2;exact hw ⟨by lia,by lia⟩
 show wpAny _ _ (if(((aF items.size 0 lo:Nat):Int)==0&&(1:Int)==1&&(aF items.size items.size hi-aF items.size 0 lo)==items.size)=true then _ else _) _ _ s;rw[if_neg hno,D7];first
  |exact Q0 (m:=Builtin.Tuple.tupleExact _) (RX (Q6 ⟨_,rfl,Q6 h⟩) htake)
  |exact Q0 (m:=Builtin.Tuple.tupleExact _) (RX (Q0 (Q6 (Q6 ⟨_,rfl,Q6 h⟩))) htake)
  |exact Q0 (Q0 (m:=Builtin.Tuple.tupleExact _) (RX (Q6 (Q6 ⟨_,rfl,Q6 h⟩)) htake))
  |exact Q0 (Q0 (m:=Builtin.Tuple.tupleExact _) (RX (Q6 ⟨_,rfl,Q6 h⟩) htake))
end
end HT
namespace L2
open PySem PySem.Spec PyProof.Rows
noncomputable abbrev TO:=St->Hp->(Option Int->Hp->Prop)->Prop
noncomputable def PO (X:Cx)(e:Option Expr)(t:TO):Prop:=
 ∀(pins:Ut)(s:Shared)(U:St)(H:Hp)(Q:Option Int->Hp->Prop),Inv X pins U H s->t U H Q->
  wpAny (model X.prog X.w) X.A (evalPart e X.env) (λu s'=>∃o H',Inv X pins U H' s'/\IsPart u o/\Q o H') X.xe s
noncomputable def Ir:TO:=λ_ H Q=>Q none H
noncomputable def Nk (t:TE):TO:=λU H Q=>t U H λx H1=>∃i,x=.int i/\Q (some i) H1
section
variable{X:Cx}{e:Expr}{te:TE}{lo hi:Option Expr}{tl th:TO}{pos p2:Pos}
def yE:PO X none Ir:=by intro pins s U H Q I h;rw[evalPart_none];exact Q6 ⟨none,H,I,.none,h⟩
def zf(h:PE X e te):PO X (some e) (Nk te):=by intro pins s U H Q I hw;rw[evalPart_some];refine aJ (h pins s U H _ I hw) λu s1 ⟨x,H1,I1,r1,q1⟩=>?_;obtain⟨i,rfl,q⟩:=q1;obtain⟨t,rfl⟩:=r1;exact⟨some i,H1,I1,.int i t,q⟩
noncomputable def Dy (X:Cx)(r:V->Option Int->Option Int->Hp->VK->Prop):Prop:=
 ∀(pins:Ut)(s:Shared)(U:St)(H:Hp) (x:V)(v vl vu:Value)(lo hi:Option Int)(sl:Addr)(Q:VK),Inv X pins U H s->RelV x v->s.heap.IsSliceOf sl vl vu .none->IsPart vl lo->IsPart vu hi->r x lo hi H Q->
  ∃T id,typeLookup (.type T) "__getitem__"=pure (some (.builtin id))/\s.TypeIs v T/\wpAny (model X.prog X.w) X.A (getItem v (.ref sl)) (EP X pins U Q) X.xe s
noncomputable def PM (r:V->Option Int->Option Int->Hp->VK->Prop)(te:TE)(tl th:TO):TE:=λU H Q=>te U H λx H1=>tl U H1 λl H2=>th U H2 λu H3=>r x l u H3 Q
def v8{r:V->Option Int->Option Int->Hp->VK->Prop}(hr:Dy X r)(he:PE X e te)(hl:PO X lo tl)(hu:PO X hi th):PE X (.Subscript e (.Slice lo hi none p2) pos) (PM r te tl th):=by intro pins s U H Q I h;refine Subscript_ (aJ (he pins s U H _ I h) λv s1 ⟨x,H1,I1,r1,q1⟩=>?_);refine wpAny_Slice (aJ (hl pins s1 U H1 _ I1 q1) λvl s2 ⟨l,H2,I2,pl,q2⟩=>aJ (hu pins s2 U H2 _ I2 q2) λvu s3 ⟨u,H3,I3,pu,q3⟩=>?_);rw[evalPart_none];refine Q6 ?_;have I4:Inv X pins U H3 { s3 with heap:=s3.heap.push { cls:=.type "slice",data:=.fields #[vl,vu,.none] } }:=I3.kept (t':=s3.toks) λb ob q=>QU _ q;obtain⟨T,id,hT,ht,hg⟩:=hr pins { s3 with heap:=s3.heap.push { cls:=.type "slice",data:=.fields #[vl,vu,.none] } } U H3 x v vl vu l u s3.heap.objs.size Q I4 r1 (Heap.IsSliceOf.new ..) pl pu q3;show wpAny (model X.prog X.w) X.A (subscriptTail e (.Slice lo hi none p2) v (.ref s3.heap.objs.size)) (EP X pins U Q) X.xe { s3 with heap:=s3.heap.push { cls:=.type "slice",data:=.fields #[vl,vu,.none] } };exact tail_any (ops:=[.ref s3.heap.objs.size,v]) ht hT hg (by with_unfolding_all rfl)
noncomputable def mP (xs:List V)(lo hi:Option Int):List V:=(xs.drop (HT.aF xs.length 0 lo)).take (HT.aF xs.length xs.length hi-HT.aF xs.length 0 lo)
def oX(xs:List V)(lo hi:Option Int):(mP xs lo hi).length<=xs.length:=by unfold mP;rw[RW,RO];exact Qd (UO _ _) (Nat.sub_le _ _)
noncomputable def Of (K:Uy):V->Option Int->Option Int->Hp->VK->Prop:=λx lo hi H Q=>∃a xs,x=.ref a/\bE K H a xs /\
 ¬(HT.aF xs.length 0 lo=0/\HT.aF xs.length xs.length hi=xs.length)/\∀p,H p=none->Q (.ref p) (upd H p (.tup (mP xs lo hi)))
def Jx:Dy X (Of X.K):=by
 intro pins s U H x v vl vu lo hi sl Q I rx hs pl pu h;obtain⟨a,xs,rfl,hx,hw,q⟩:=h;cases rx;obtain⟨its,r,ht,hz⟩:=I.tuple hx;have hlen:its.toArray.size=xs.length:=by rw[QI];exact r.length.symm
 refine⟨"tuple",_,Ui,ht.typeIs,?_⟩;refine HT.oW ht hs pl pu (by rw[hlen];exact hw) ?_ (by rw[hlen];exact hz);rw[hlen];refine⟨.ref s.heap.objs.size,_,I.laid (t':=s.toks) (o:=.tup (mP xs lo hi)) (λb ob q=>QU _ q) (Q7 _) ?_,rfl,q _ (I.hok.fresh (Q7 _))⟩;exact⟨Qd (oX xs lo hi) hz,_,(r.drop (HT.aF xs.length 0 lo)).take (HT.aF xs.length xs.length hi-HT.aF xs.length 0 lo),IsTup.new _ _⟩
noncomputable def FG (K:Uy):R2:=λx y H Q=>∃a b xs ys,x=.ref a/\y=.ref b/\bE K H a xs/\bE K H b ys/\xs≠[]/\xs.length+ys.length<=sizeLine /\
 (ys=[]->Q (.ref a) H)/\(ys≠[]->∀p,H p=none->Q (.ref p) (upd H p (.tup (xs++ys))))
def Vals.tw{xs:List V}{us:VD}(r:Vals xs us):us=[]↔xs=[]:=by
 cases r with
 |nil=>simp
 |cons _ _=>simp
def Im:bq X (binaryOp .Add) (FG X.K):=by intro pins s U H x y v u Q I rx ry h;obtain⟨a,b,xs,ys,rfl,rfl,ha,hb,hx,hz,q1,q2⟩:=h;cases rx;cases ry;obtain⟨its,r1,p1,_⟩:=I.tuple ha;obtain⟨its2,r2,p2,_⟩:=I.tuple hb;refine HT.HZ p1 p2 (λz=>hx (r1.tw.mp z)) (λz=>⟨.ref a,H,I,rfl,q1 (r2.tw.mp z)⟩) (λz=>?_) (by rw[<-r1.length,<-r2.length];exact hz);refine⟨.ref s.heap.objs.size,_,I.laid (t':=s.toks) (o:=.tup (xs++ys)) (λb ob q=>QU _ q) (Q7 _) ?_,rfl,q2 (λw=>z (r2.tw.mpr w)) _ (I.hok.fresh (Q7 _))⟩;exact⟨by rw[QE];exact hz,_,r1.append r2,IsTup.new _ _⟩
end
noncomputable def ko (n:Nat) (i:Int):Option Nat:=if 0<=i then(if i<n then some i.toNat else none)else if-(n:Int)<=i then some (i+n).toNat else none
noncomputable def cX {α:Type}(xs:List α) (i:Int):Option α:=(ko xs.length i).bind λj=>xs[j]?
def yM{n:Nat}{i:Int}{j:Nat}(h:ko n i=some j):seqIndex? i n=some j/\j<n/\-(n:Int)<=i/\i<n:=by unfold ko at h;by_cases h0:0<=i;{rw[if_pos h0]at h;by_cases h1:i<n;{rw[if_pos h1]at h;have e:i.toNat=j:=Option.some.inj h;exact⟨by rw[seqIndex_of h0 h1,e],by lia,by lia,h1⟩};rw[if_neg h1]at h;cases h};rw[if_neg h0]at h;by_cases h1:-(n:Int)<=i;{rw[if_pos h1]at h;have e:(i+n).toNat=j:=Option.some.inj h;exact⟨by rw[seqIndex_neg (by lia) h1,e],by lia,h1,by lia⟩};rw[if_neg h1]at h;cases h
def sC{α:Type}{xs:List α}{i:Int}{v:α}(h:cX xs i=some v):∃j,seqIndex? i xs.length=some j/\xs[j]?=some v/\j<xs.length/\-(xs.length:Int)<=i/\i<xs.length:=by
 unfold cX at h;cases e:ko xs.length i with
 |none=>rw[e]at h;cases h
 |some j=>rw[e]at h;obtain⟨h1,h2,h3,h4⟩:=yM e;exact⟨j,h1,h,h2,h3,h4⟩
noncomputable def lI (b:Expr):Prop:=∀o i,subscripted b false o i=operate [o,i] (getItem o i)
noncomputable def ni (X:Cx)(r:R2):Prop:=
 ∀(value slice:Expr)(pins:Ut)(s:Shared)(U:St)(H:Hp) (x y:V)(v u:Value)(Q:VK),Inv X pins U H s->RelV x v->RelV y u->r x y H Q->
  subscripted slice false v u=operate [v,u] (getItem v u)->wpAny (model X.prog X.w) X.A (subscriptTail value slice v u) (EP X pins U Q) X.xe s
noncomputable def Jk (X:Cx)(id:String)(r:V->List V->Hp->VK->Prop):Prop:=
 ∀(pins:Ut)(s:Shared)(U:St)(H:Hp) (x:V)(xs:List V)(v:Value)(us:VD)(Q:VK),Inv X pins U H s->RelV x v->Vals xs us->r x xs H Q->
  wpAny (model X.prog X.w) X.A (call (.builtin id) (v::us)) (EP X pins U Q) X.xe s
section
variable{X:Cx}{a b:Expr}{ta tb:TE}{pos:Pos}
def ni.or{r r':R2}(h:ni X r)(h':ni X r'):ni X (λx y H Q=>r x y H Q\/r' x y H Q):=by intro value slice pins s U H x y v u Q I rx ry q hs;rcases q with q|q;{exact h value slice pins s U H x y v u Q I rx ry q hs};exact h' value slice pins s U H x y v u Q I rx ry q hs
def Gv{r:R2}(hr:ni X r)(ha:PE X a ta)(hb:PE X b tb)(hs:lI b):PE X (.Subscript a b pos) (J8 r ta tb):=by intro pins s U H Q I h;exact Subscript_ (Et ha hb I h λv u s2 x y H2 I2 rx ry q=>hr a b pins s2 U H2 x y v u Q I2 rx ry q (hs _ _))
inductive GV(K:Uy) (x:V) (y:V)(H:Hp)(Q:VK):Prop
 |mk:∀p xs i v,(x=.ref p)->(y=.int i)->(bA K H p xs)->(cX xs i=some v)->(Q v H)->GV K x y H Q
noncomputable def Mf (K:Uy):R2:=λx y H Q=>GV K x y H Q
inductive FA(K:Uy) (x:V) (y:V)(H:Hp)(Q:VK):Prop
 |mk:∀p xs i v,(x=.ref p)->(y=.int i)->(bE K H p xs)->(cX xs i=some v)->(Q v H)->FA K x y H Q
noncomputable def L8 (K:Uy):R2:=λx y H Q=>FA K x y H Q
inductive FI(x:V) (y:V)(H:Hp)(Q:VK):Prop
 |mk:∀z i c,(x=.str z)->(y=.int i)->(z.length<=sizeLine)->(cX z.cps.toList i=some c)->(Q (.str ⟨#[c]⟩) H)->FI x y H Q
noncomputable def KA:R2:=λx y H Q=>FI x y H Q
def ID:ni X (Mf X.K):=by
 intro value slice pins s U H x y v u Q I rx ry h hs;obtain⟨p,xs,i,z,rfl,rfl,hq,he,q⟩:=h;cases rx;obtain⟨t,rfl⟩:=ry;obtain⟨its,r,pl,hz⟩:=I.list hq;obtain⟨j,h1,h2,h3,h4,h5⟩:=sC he;obtain⟨w,ew,rw'⟩:=r.get h2;have hl:=r.length;have hn:=kZ;have fin:EP X pins U Q w s:=⟨z,H,I,rw',q⟩;by_cases h0:0<=i
 .have hj:i.toNat=j:=by rw[seqIndex_of h0 h5]at h1;exact Option.some.inj h1
  exact item_listR pl.isList h0 (by lia) (by rw[hj];simpa using ew) fin hs
 have hj:(i+(its.toArray.size:Int)).toNat=j:=by rw[seqIndex_neg (by lia) h4]at h1;rw[QI,<-hl];exact Option.some.inj h1
 exact subscriptTail_builtinR (x:=w) pl.isList.typeIs slot_list_getitem.lookup
  (wpAny_getItem_list_neg (Q:=λr s'=>r=w/\EP X pins U Q r s') pl.isList (by lia) (by rw[QI]<;>lia) (by lia) (by rw[hj];simpa using ew) ⟨rfl,fin⟩) hs
def JV:ni X (L8 X.K):=by
 intro value slice pins s U H x y v u Q I rx ry h hs;obtain⟨p,xs,i,z,rfl,rfl,hq,he,q⟩:=h;cases rx;obtain⟨t,rfl⟩:=ry;obtain⟨its,r,pl,hz⟩:=I.tuple hq;obtain⟨j,h1,h2,h3,h4,h5⟩:=sC he;obtain⟨w,ew,rw'⟩:=r.get h2;have hl:=r.length;have hn:=kZ;have fin:EP X pins U Q w s:=⟨z,H,I,rw',q⟩;exact subscriptTail_builtinR (x:=w) pl.typeIs slot_tuple_getitem.lookup
  (getItem_tuple (j:=j) (Q:=λr s'=>r=w/\EP X pins U Q r s') pl (by lia) (by lia) (by rw[QI,<-hl];exact h1) (by simpa using ew) ⟨rfl,fin⟩) hs
def Ky:ni X KA:=by
 intro value slice pins s U H x y v u Q I rx ry h hs;obtain⟨z,i,c,rfl,rfl,hz,he,q⟩:=h;obtain⟨t,rfl⟩:=rx;obtain⟨t',rfl⟩:=ry;obtain⟨j,h1,h2,h3,h4,h5⟩:=sC he;have hl:z.cps.toList.length=z.length:=by simp[Str.length]
 rw[hl]at h1 h4 h5;have hn:=kZ;exact tail_any (typeIs_str s z t) slot_str_getitem.lookup (getItem_str (c:=c) (by
  have e1:decide (i < -(2^63:Int))=false:=Qm (by lia)
  have e2:decide (i >= 2^63)=false:=Qm (by lia)
  rw[e1,e2,Bool.or_false]) (by rw[h1];simpa using h2) ⟨.str ⟨#[c]⟩,H,I.tok _,⟨_,rfl⟩,q⟩) hs
noncomputable def Kl (K:Uy):R2:=λx y H Q=>Mf K x y H Q\/L8 K x y H Q\/KA x y H Q
def CH:ni X (Kl X.K):=ID.or (JV.or Ky)
def Al(its:VD) (n j:Nat)(u:Value):Obj.mapSeq (·.setIfInBounds j u) { cls:=.type "list",data:=.seq its.toArray n }={ cls:=.type "list",data:=.seq (its.set j u).toArray n }:=by simp[Obj.mapSeq]
theorem Inv.lst{pins:Ut}{U:St}{H:Hp}{s:Shared}{p:Addr}{xs:List V}(I:Inv X pins U H s)(h:H p=some (.lst xs)) : ∃(its:VD) (n:Nat),Vals xs its/\s.heap.get? p=some { cls:=.type "list",data:=.seq its.toArray n }/\xs.length<=sizeLine:=by obtain⟨z,its,n,r,e⟩:=I.hok p _ h;exact⟨its,n,r,e,z⟩
def Inv.Kg{pins:Ut}{U:St}{H:Hp}{s:Shared}{p:Addr}{xs ys:List V}{its its':VD}{n n':Nat}{f:Obj->Obj}(I:Inv X pins U H s)(h:H p=some (.lst xs))(ho:s.heap.get? p=some { cls:=.type "list",data:=.seq its.toArray n })(hf:f { cls:=.type "list",data:=.seq its.toArray n }={ cls:=.type "list",data:=.seq its'.toArray n' })(r:Vals ys its')(hz:ys.length<=sizeLine) (t:Nat) : Inv X pins U (upd H p (.lst ys)) { s with heap:=s.heap.update p f,toks:=t }:=by
 have e:(s.heap.update p f).get? p=some { cls:=.type "list",data:=.seq its'.toArray n' }:=by rw[SY f ho (by rw[hf]<;>rfl),hf]
 refine I.write (x:=p) (e:=p) (by rw[h];trivial) (.inl rfl) (λb u hb q=>(RP _ _ (Ne.symm hb)).trans q) ⟨_,e⟩ ?_;exact⟨hz,its',n',r,e⟩
inductive Ba(o:V) (i:V) (v:V)(H:Hp)(Q:(Hp->Prop)):Prop
 |mk:∀p xs k j,(o=.ref p)->(i=.int k)->(H p=some (.lst xs))->(ko xs.length k=some j)->(Q (upd H p (.lst (xs.set j v))))->Ba o i v H Q
noncomputable def Gu:V->V->V->Hp->(Hp->Prop)->Prop:=λo i v H Q=>Ba o i v H Q
def set_list:Fj X Gu:=by
 intro pins s U H o i v ov iv u Q I ro ri rv h;obtain⟨p,xs,k,j,rfl,rfl,hp,hj,q⟩:=h;cases ro;obtain⟨t,rfl⟩:=ri;obtain⟨its,n,r,ho,hz⟩:=I.lst hp;obtain⟨h1,h2,h3,h4⟩:=yM hj;have hl:=r.length;have hn:=kZ;have I':Inv X pins U (upd H p (.lst (xs.set j v))) { s with heap:=s.heap.update p (Obj.mapSeq (·.setIfInBounds j u)) }:=
  I.Kg hp ho (Al its n j u) (r.set rv j) (by rw[QX];exact hz) s.toks
 by_cases h0:0<=k
 .have hk:k.toNat=j:=by rw[seqIndex_of h0 h4]at h1;exact Option.some.inj h1
  exact PySem.W.ki_setAt ho h0 (by lia) (by rw[QI,<-hl];exact h4) (by rw[hk];exact⟨_,I',q⟩)
 have hk:(k+(its.toArray.size:Int)).toNat=j:=by rw[seqIndex_neg (by lia) h3]at h1;rw[QI,<-hl];exact Option.some.inj h1
 exact PySem.W.ki_setBack ho (by lia) (by rw[QI,<-hl];exact h3) (by lia) (by rw[hk];exact⟨_,I',q⟩)
def wY(lo hi:Option Int) (n:Nat):(sliceBounds lo hi none n).1=((HT.aF n 0 lo:Nat):Int)/\(sliceBounds lo hi none n).2.1=((HT.aF n n hi:Nat):Int)/\(sliceBounds lo hi none n).2.2=1:=by
 have one:∀i:Int,(sliceBounds (some i) none none n).1=((HT.aF n 0 (some i):Nat):Int):=λi=>by simp only[sliceBounds,HT.aF,Option.getD_none,show(1:Int)>0 by decide,if_true];by_cases h:i<0;{simp only[h,if_true]<;>lia};simp only[h,RZ]<;>lia
 refine⟨?_,?_,rfl⟩
 .cases lo with
  |none=>simp[sliceBounds,HT.aF]
  |some i=>exact one i
 cases hi with
 |none=>simp[sliceBounds,HT.aF]
 |some i=>exact one i
def uF(its:VD)(lo hi:Option Int):slicePick its.toArray lo hi none=((its.drop (HT.aF its.length 0 lo)).take (HT.aF its.length its.length hi-HT.aF its.length 0 lo)).toArray:=by obtain⟨h1,h2,h3⟩:=wY lo hi its.toArray.size;unfold slicePick;rw[h1,h2,h3];simp only[sliceRange_one,pick_run,QI]<;>rfl
inductive GC(K:Uy) (x:V)(lo:Option Int)(hi:Option Int)(H:Hp)(Q:VK):Prop
 |mk:∀a xs,(x=.ref a)->(bA K H a xs)->(∀p,H p=none->Q (.ref p) (upd H p (.lst (mP xs lo hi))))->GC K x lo hi H Q
noncomputable def Jt (K:Uy):V->Option Int->Option Int->Hp->VK->Prop:=λx lo hi H Q=>GC K x lo hi H Q
def HV:Dy X (Jt X.K):=by intro pins s U H x v vl vu lo hi sl Q I rx hs pl pu h;obtain⟨a,xs,rfl,hx,q⟩:=h;cases rx;obtain⟨its,r,ht,hz⟩:=I.list hx;have hlen:=r.length;refine⟨"list",_,slot_list_getitem.lookup,ht.isList.typeIs,?_⟩;refine wpAny_getItem_list_slice ht.isList hs pl pu .none (by simp) ?_ (by rw[QI]<;>lia);rw[uF,<-hlen];refine⟨.ref s.heap.objs.size,_,I.laid (t':=s.toks) (o:=.lst (mP xs lo hi)) (λb ob q=>QU _ q) (Q7 _) ?_,rfl,q _ (I.hok.fresh (Q7 _))⟩;exact⟨Qd (oX xs lo hi) hz,_,0,(r.drop (HT.aF xs.length 0 lo)).take (HT.aF xs.length xs.length hi-HT.aF xs.length 0 lo),Qn _ rfl⟩
def u5:bZ X (.builtin "len") (λxs H Q=>∃p ys,xs=[.ref p]/\(bA X.K H p ys\/bE X.K H p ys)/\Q (.int ys.length) H):=by intro pins s U H xs us Q I r h;obtain⟨p,ys,rfl,hq,q⟩:=h;obtain⟨u,rfl,rx⟩:=vals1 r;cases rx;have hn:=kZ;rcases hq with hq|hq;{obtain⟨its,r',pl,hz⟩:=I.list hq;have hlen:=r'.length;exact Calls.call_len_list pl.isList (by simp only[QI]<;>lia) ⟨.int ys.length,H,I.tok _,⟨s.toks+1,by rw[QI,hlen]⟩,q⟩};obtain⟨its,r',pl,hz⟩:=I.tuple hq;have hlen:=r'.length;exact len_tuple pl (by simp only[QI]<;>lia) ⟨.int ys.length,H,I.tok _,⟨s.toks+1,by rw[QI,hlen]⟩,q⟩
def bZ.or{f:Value}{r r':List V->Hp->VK->Prop}(h:bZ X f r)(h':bZ X f r'):bZ X f (λxs H Q=>r xs H Q\/r' xs H Q):=by intro pins s U H xs us Q I rs q;rcases q with q|q;{exact h pins s U H xs us Q I rs q};exact h' pins s U H xs us Q I rs q
def vK:bZ X (.type "list") (λxs H Q=>∃p ys,xs=[.ref p]/\(bA X.K H p ys\/bE X.K H p ys)/\∀l,H l=none->Q (.ref l) (upd H l (.lst ys))):=by
 intro pins s U H xs us Q I r h;obtain⟨p,ys,rfl,hq,q⟩:=h;obtain⟨u,rfl,rx⟩:=vals1 r;cases rx;have fin:∀(its:VD),Vals ys its->ys.length<=sizeLine->∀(h':Heap) (c':Nat),(∀b o',s.heap.get? b=some o'->h'.get? b=some o')->
   h'.get? s.heap.objs.size=some { cls:=.type "list",dict:=none,data:=.seq its.toArray c',slots:=#[] }->EP X pins U Q (.ref s.heap.objs.size) { s with heap:=h' }:=λits r' hz h' c' kp e=>
  ⟨.ref s.heap.objs.size,_,I.laid (t':=s.toks) kp (Q7 _) (show bg X.prog X.w _ h' _ (.lst ys)from⟨hz,its,c',r',e⟩),rfl,q _ (I.hok.fresh (Q7 _))⟩
 rcases hq with hq|hq;{obtain⟨its,r',pl,hz⟩:=I.list hq;have hlen:=r'.length;obtain⟨o,ho,hc,n,hd⟩:=pl.isList;exact call_list_seq p (.inl rfl) ho hc hd (λh' c' kp e=>fin its r' hz h' c' kp e) (by simp only[QI]<;>lia)};obtain⟨its,r',pl,hz⟩:=I.tuple hq;have hlen:=r'.length;obtain⟨o,ho,hc,n,hd⟩:=pl;exact call_list_seq p (.inr rfl) ho hc hd (λh' c' kp e=>fin its r' hz h' c' kp e) (by simp only[QI]<;>lia)
def m9:bZ X (.type "tuple") (λxs H Q=>∃p ys,xs=[.ref p]/\((bA X.K H p ys/\∀l,H l=none->Q (.ref l) (upd H l (.tup ys)))\/(bE X.K H p ys/\Q (.ref p) H))):=by
 intro pins s U H xs us Q I r h;obtain⟨p,ys,rfl,h⟩:=h;obtain⟨u,rfl,rx⟩:=vals1 r;cases rx;rcases h with⟨hq,q⟩|⟨hq,q⟩
 .obtain⟨its,r',pl,hz⟩:=I.list hq;have hlen:=r'.length;refine call_tuple_list pl.isList (λh' kp=>?_) (by simp only[QI]<;>lia);have I1:Inv X pins U H { s with heap:=h' }:=I.kept (t':=s.toks) kp;have I2:Inv X pins U (upd H h'.objs.size (.tup ys)) { s with heap:=h'.push { cls:=.type "tuple",data:=.seq its.toArray } }:=
   I1.laid (t':=s.toks) (λb o e=>QU _ e) (Q7 _) (show bg X.prog X.w _ _ _ (.tup ys)from⟨hz,its,r',IsTup.new _ _⟩)
  exact⟨.ref h'.objs.size,_,I2,rfl,q _ (I1.hok.fresh (Q7 _))⟩
 obtain⟨its,r',pl,hz⟩:=I.tuple hq;exact call_tuple_same pl ⟨.ref p,H,I,rfl,q⟩
noncomputable def Lj (K:Uy)(T:String) (x:V)(H:Hp):Prop:=match x with
 |.str _=>T="str"
 |.int _=>T="int"
 |.ref p=>(T="list"/\∃xs,bA K H p xs)\/(T="tuple"/\∃o,K.lookup p=some o/\o.cls=.type "tuple"/\o.dict=none) \/
   (T="dict"/\((∃kvs,H p=some (.dK kvs))\/∃kvs,H p=some (.dT kvs)))\/(T="set"/\∃S n,H p=some (.set S n))
 |_=>False
def CJ{pins:Ut}{U:St}{H:Hp}{s:Shared}{T:String}{x:V}{v:Value}(I:Inv X pins U H s)(r:RelV x v)(ty:Lj X.K T x H) : s.TypeIs v T/\∀a,v=.ref a->∃ob,s.heap.get? a=some ob/\ob.dict=none:=by
 cases x with
 |str z=>obtain⟨t,rfl⟩:=r;cases (show T="str" from ty);exact⟨typeIs_str s z t,λ_ e=>nomatch e⟩
 |int i=>obtain⟨t,rfl⟩:=r;cases (show T="int" from ty);exact⟨typeIs_int s i t,λ_ e=>nomatch e⟩
 |ref p=>
  cases r;rcases ty with⟨rfl,xs,hq⟩|⟨rfl,o,hk,hc,hd⟩|⟨rfl,hk⟩|⟨rfl,S,n,hk⟩;{obtain⟨its,_,pl,_⟩:=I.list hq;refine⟨pl.isList.typeIs,λa e=>?_⟩;cases e;obtain⟨o,n,e,c,hd,_⟩:=pl;exact⟨o,e,hd⟩};{refine⟨⟨o,I.gc p o hk,hc⟩,λa e=>?_⟩;cases e;exact⟨o,I.gc _ o hk,hd⟩}
  .have z:∃o,s.heap.get? p=some o/\o.ExactDict:=by rcases hk with⟨kvs,hk⟩|⟨kvs,hk⟩;{obtain⟨_,_,_,_,o,_,_,e,ex,_⟩:=I.hok p _ hk;exact⟨o,e,ex⟩};obtain⟨_,_,_,_,o,_,_,e,ex,_⟩:=I.hok p _ hk;exact⟨o,e,ex⟩
   obtain⟨o,e,ex⟩:=z;refine⟨⟨o,e,ex.1⟩,λa e2=>?_⟩;cases e2;exact⟨o,e,ex.2.1⟩
  obtain⟨o,_,_,_,e,ex,_⟩:=I.hok p _ hk;refine⟨⟨o,e,ex.1⟩,λa e2=>?_⟩;cases e2;exact⟨o,e,ex.2.1⟩
 |_=>exact False.elim ty
noncomputable def Ou (K:Uy)(T:String)(r:V->List V->Hp->VK->Prop)(to:TE):TE:=λU H Q=>to U H λx H1=>Lj K T x H1/\r x [] H1 Q
noncomputable def Pj (K:Uy)(T:String)(r:V->List V->Hp->VK->Prop)(to:TE)(t:TA):TE:=λU H Q=>to U H λx H1=>Lj K T x H1/\t U H1 λxs H2=>r x xs H2 Q
variable{o e:Expr}{es:VG}{to:TE}{t:TA}{name:Str}{apos cpos:Pos}{T id:String}{r:V->List V->Hp->VK->Prop}
def LV(pa:PlainAttrs T)(slot:Slot T name id)(hty:typeOf (.builtin id)=pure (.type "method_descriptor"))(hm:Jk X id r)(ho:PE X o to)(hbase:attributeBase o name X.env (eval o X.env)=eval o X.env:=by rfl)(hline:(apos.endLine==cpos.line)=true:=by rfl):PE X (.Call (.Attribute o name apos) [] [] cpos) (Ou X.K T r to):=by intro pins s U H Q I h;refine wpAny_Call_method0_late hbase hline (aJ (ho pins s U H _ I h) λv s1 ⟨x,H1,I1,r1,ty,q1⟩=>?_);obtain⟨h1,h2⟩:=CJ I1 r1 ty;exact⟨T,id,pa,slot,hty,h1,h2,UP rfl (PySem.evalArgs_none (hm pins s1 U H1 x [] v [] Q I1 r1 .nil q1))⟩
def zU(pa:PlainAttrs T)(slot:Slot T name id)(hty:typeOf (.builtin id)=pure (.type "method_descriptor"))(hm:Jk X id r)(ho:PE X o to)(ha:PA X (e::es) t)(hbase:attributeBase o name X.env (eval o X.env)=eval o X.env:=by rfl)(hfew:((backTo cpos (starEach (e::es) X.env)).all (λx=>!x.1)&&(backToKw cpos (keywordEach [] X.env)).all (λx=>x.1.isSome) && decide ((e::es).length+([]:List Keyword).length+(if([]:List Keyword).isEmpty then 0 else 1)<30))=true:=by rfl)(hline:(apos.endLine==cpos.line)=true:=by rfl)(hs:starEach (e::es) X.env=(false,eval e X.env)::starEach es X.env:=by rfl)(hplain:(backTo cpos (starEach es X.env)).any (·.1)=false:=by rfl) : PE X (.Call (.Attribute o name apos) (e::es) [] cpos) (Pj X.K T r to t):=by intro pins s U H Q I h;refine wpAny_Call_method_late hbase hfew hline rfl (aJ (ho pins s U H _ I h) λv s1 ⟨x,H1,I1,r1,ty,q1⟩=>?_);obtain⟨h1,h2⟩:=CJ I1 r1 ty;refine⟨T,id,pa,slot,hty,h1,h2,?_⟩;have hA:=ha cpos pins s1 U H1 _ I1 q1;rw[hs]at hA⊢;refine UP (by show(false||(backTo cpos (starEach es X.env)).any (·.1))=false;rw[hplain]<;>rfl) (Calls.evalArgs_plain ?_);exact aJ hA λus s2 ⟨vs,H2,I2,r2,q2⟩=>hm pins s2 U H2 x vs v us Q I2 r1 r2 q2
end
noncomputable def vZ (X:Cx)(id:String)(r:V->List V->Hp->VK->Prop):Prop:=
 ∀(pins:Ut)(s:Shared)(U:St)(H:Hp) (x:V)(xs:List V)(v:Value)(us:VD)(Q:VK),Inv X pins U H s->RelV x v->Vals xs us->r x xs H Q->
  wpAny (model X.prog X.w) X.A (call (.builtin id) (v::us)) (EP X pins U Q) X.xe s
def Vals.one{x:V}{us:VD}(h:Vals [x] us):∃u,us=[u]/\RelV x u:=by cases h with|cons r t=>cases t;exact⟨_,rfl,r⟩
def Vals.two{x y:V}{us:VD}(h:Vals [x,y] us):∃u v,us=[u,v]/\RelV x u/\RelV y v:=by cases h with|cons r t=>cases t with|cons q t=>cases t;exact⟨_,_,rfl,r,q⟩
theorem Vals.rep{xs:List V}{us:VD}(h:Vals xs us):∀k:Nat,Vals (List.replicate k xs).flatten (List.replicate k us).flatten
 |0=>.nil
 |k+1=>by rw[S9,S9,Sa,Sa];exact Vals.append h (Vals.rep h k)
theorem foldl_rep(its:VD):∀(k:Nat)(acc:VD), List.foldl (λx1 x2=>x1++x2) acc.toArray (List.replicate k its.toArray)=(acc++(List.replicate k its).flatten).toArray
 |0,acc=>by simp
 |k+1,acc=>by
  have e:acc.toArray++its.toArray=(acc++its).toArray:=by simp
  have e2:(acc++its)++(List.replicate k its).flatten=acc++(List.replicate (k+1) its).flatten:=by rw[S9,Sa,Qh]
  rw[<-e2,<-foldl_rep its k (acc++its),<-e,S9,List.foldl_cons]
section
variable{X:Cx}{pins:Ut}{U:St}{H:Hp}{s:Shared}{l b:Addr}{xs ys zs:List V}
def Inv.AO{its its':VD}{n:Nat}{f:VA->VA}{t':Nat}(I:Inv X pins U H s)(hH:H l=some (.lst xs))(e:s.heap.get? l=some { cls:=.type "list",data:=.seq its.toArray n })(hf:f its.toArray=its'.toArray)(hv:Vals ys its')(hz:ys.length<=sizeLine) : Inv X pins U (upd H l (.lst ys)) { s with heap:=s.heap.update l (Obj.mapSeq f),toks:=t' }:=by have q:=PySem.IsL.update e f;rw[hf]at q;refine I.write (x:=l) (e:=l) (by rw[hH];exact trivial) (.inl rfl) (λb' u hb hu=>(RP s.heap (Obj.mapSeq f) (Ne.symm hb)).trans hu) ⟨_,q⟩ ?_;exact⟨hz,its',_,hv,q⟩
def Inv.Ku{its:VD}{t':Nat}(I:Inv X pins U H s)(hv:Vals ys its)(hz:ys.length<=sizeLine) : Inv X pins U (upd H s.heap.objs.size (.lst ys)) { s with heap:=s.heap.push { cls:=.type "list",data:=.seq its.toArray },toks:=t' }:=
 I.laid (λ_ _ q=>QU _ q) (Q7 _) ⟨hz,its,0,hv,Qn _ rfl⟩
theorem Inv.fresh(I:Inv X pins U H s):H s.heap.objs.size=none:=I.hok.fresh (Q7 _)
def Inv.AJ(I:Inv X pins U H s)(hH:H l=some (.lst xs)):xs.length<=sizeLine/\∃(its:VD) (n:Nat),Vals xs its/\xs.length=its.length/\s.heap.get? l=some { cls:=.type "list",data:=.seq its.toArray n }:=by obtain⟨z,its,n,r,e⟩:=I.hok l _ hH;exact⟨z,its,n,r,r.length,e⟩
def qi{n:Nat}(h:n<=sizeLine):Builtin.List.listTooLong n=false:=by unfold Builtin.List.listTooLong;exact Qm (by lia)
end
section
variable{X:Cx}
noncomputable def yt:V->List V->Hp->VK->Prop:=λx vs H Q=>∃l xs y,x=.ref l/\vs=[y]/\H l=some (.lst xs)/\xs.length<sizeLine/\Q .aU (upd H l (.lst (xs++[y])))
def c7:vZ X "list.append" yt:=by intro pins s U H x vs v us Q I rx rv h;obtain⟨l,xs,y,rfl,rfl,hH,hz,q⟩:=h;cases rx;obtain⟨u,rfl,ru⟩:=rv.one;obtain⟨z,its,n,r,hl,e⟩:=I.AJ hH;refine Sb F.slot_list_append ⟨_,e,rfl⟩ F.entry_list_append (F.args_list_append_2 _ _) (PySem.list_append l its.toArray n u (by rw[QI];lia)) ⟨e,?_⟩;refine⟨.aU,_,I.AO (its':=its++[u]) hH e (by simp) (r.append (.cons ru .nil)) ?_,rfl,q⟩;rw[QE,List.length_singleton];lia
def len_rep{α:Type}(xs:List α) (k:Nat):(List.replicate k xs).flatten.length=k*xs.length:=by
 induction k with
 |zero=>simp
 |succ k ih=>rw[S9,Sa,QE,ih,Nat.succ_mul,Nat.add_comm]
end
section
variable{κ:Type} [DecidableEq κ]
noncomputable def bY (kvs:List (κ×V))(k:κ):Option V:=(kvs.find? λkv=>decide (kv.1=k)).map (·.2)
noncomputable def putK (kvs:List (κ×V))(k:κ) (v:V):List (κ×V):=
 if(kvs.any λkv=>decide (kv.1=k))=true then kvs.map (λkv=>if kv.1=k then(kv.1,v)else kv)else kvs++[(k,v)]
def qw{p:κ×V}{r:List (κ×V)}{k:κ}(e:p.1=k):bY (p::r) k=some p.2:=by simp[bY,Sd,e]
def pU{p:κ×V}{r:List (κ×V)}{k:κ}(e:¬p.1=k):bY (p::r) k=bY r k:=by simp[bY,Sd,e]
theorem qv(k:κ):∀kvs:List (κ×V),(kvs.any λkv=>decide (kv.1=k))=(bY kvs k).isSome
 |[]=>rfl
 |p::r=>by rw[SA];by_cases e:p.1=k;{simp only[qw e,Qp e,Bool.true_or,Option.isSome_some]};rw[pU e,Qm e,Bool.false_or];exact qv k r
def pK(kvs:List (κ×V))(k:κ) (v:V):(putK kvs k v).length<=kvs.length+1:=by unfold putK;split;{rw[Q5];lia};rw[QE,QJ,Qu];lia
def iU.eW{o:Option V}{u:Uz}(r:iU o u):o.isSome=u.isSome:=by
 cases o with
 |none=>cases u with
  |none=>rfl
  |some _=>exact(show False from r).elim
 |some _=>cases u with
  |none=>exact(show False from r).elim
  |some _=>rfl
def KV.val{kvs:List (κ×V)}{vs:List (κ×Value)}(r:KV kvs vs)(k:κ):iU (bY kvs k) (valueAt vs k):=by
 unfold KV at r;induction r with
 |nil=>exact RV
 |@cons p q ps qs h t ih=>
  obtain⟨h1,h2⟩:=h;by_cases e:p.1=k
  .have e':q.1=k:=h1.symm.trans e;have b:valueAt (q::qs) k=some q.2:=by simp[valueAt,Sd,e']
   rw[qw e,b];exact h2
  have e':¬q.1=k:=λz=>e (h1.trans z);have b:valueAt (q::qs) k=valueAt qs k:=by simp[valueAt,Sd,e']
  rw[pU e,b];exact ih
theorem KV.any{kvs:List (κ×V)}{vs:List (κ×Value)}(r:KV kvs vs)(k:κ):(kvs.any λkv=>decide (kv.1=k))=vs.any λkv=>decide (kv.1=k):=by
 unfold KV at r;induction r with
 |nil=>rfl
 |cons h t ih=>rw[SA,SA,ih,h.1]
def KV.repl{kvs:List (κ×V)}{vs:List (κ×Value)}(r:KV kvs vs)(k:κ){y:V}{u:Value}(ry:RelV y u) : KV (kvs.map λkv=>if kv.1=k then(kv.1,y)else kv) (vs.map λkv=>if kv.1=k then(kv.1,u)else kv):=by
 unfold KV at r⊢;induction r with
 |nil=>exact .nil
 |@cons p q ps qs h t ih=>rw[QT,QT];refine .cons ?_ ih;obtain⟨h1,h2⟩:=h;by_cases e:p.1=k;{rw[if_pos e,if_pos (h1.symm.trans e)];exact⟨h1,ry⟩};rw[if_neg e,if_neg (λz=>e (h1.trans z))];exact⟨h1,h2⟩
def KV.put{kvs:List (κ×V)}{vs:List (κ×Value)}(r:KV kvs vs)(k:κ){y:V}{u:Value}(ry:RelV y u):KV (putK kvs k y) (stored vs k u):=by unfold putK stored;rw[r.any k];by_cases e:(vs.any λkv=>decide (kv.1=k))=true;{rw[if_pos e,if_pos e];exact r.repl k ry};rw[if_neg e,if_neg e];exact Paired.snoc r ⟨rfl,ry⟩
theorem KV.length{kvs:List (κ×V)}{vs:List (κ×Value)}(r:KV kvs vs):kvs.length=vs.length:=Paired.length r
end
def qE{P:Program}{w:World}{k:Key}{u:Value}(r:RelV (kV k) u):(cG P w).is k u=true:=by
 cases k with
 |inl i=>obtain⟨t,e⟩:=(show ∃t,u=Value.int i t from r);subst e;exact xH P w i t
 |inr x=>obtain⟨t,e⟩:=(show ∃t,u=Value.str x t from r);subst e;exact xy P w x t
theorem tT{P:Program}{w:World}:∀{ks:List Key}{us:VD},Vals (ks.map kV) us->ItemsAre (cG P w) ks us
 |[],_,r=>by rw[List.map_nil]at r;cases r;exact .nil
 |k::ks,_,r=>by
  rw[QT]at r;cases r with
  |cons h t=>exact .cons (qE h) (tT t)
noncomputable abbrev KT (H:Hp):List (List Key×V)->List (List Key×Addr×Value)->Prop:=Paired λp q=>p.1=q.1/\H q.2.1=some (.tup (p.1.map kV))/\RelV p.2 q.2.2
def KT.val{H:Hp}{kvs:List (List Key×V)}{xs:List (List Key×Addr×Value)}(r:KT H kvs xs)(k:List Key):iU (bY kvs k) ((atKey xs k).map (·.2)):=by
 induction r with
 |nil=>exact RV
 |@cons p q ps qs h t ih=>
  obtain⟨h1,_,h2⟩:=h;by_cases e:p.1=k
  .have e':q.1=k:=h1.symm.trans e;have b:atKey (q::qs) k=some q.2:=by simp[atKey,Sd,e']
   rw[qw e,b];exact h2
  have e':¬q.1=k:=λz=>e (h1.trans z);have b:atKey (q::qs) k=atKey qs k:=by simp[atKey,Sd,e']
  rw[pU e,b];exact ih
def KT.repl{H:Hp}{kvs:List (List Key×V)}{xs:List (List Key×Addr×Value)}(r:KT H kvs xs)(k:List Key){y:V}{u:Value}(ry:RelV y u) : KT H (kvs.map λkv=>if kv.1=k then(kv.1,y)else kv) (xs.map (putAt k u)):=by
 induction r with
 |nil=>exact .nil
 |@cons p q ps qs h t ih=>rw[QT,QT];refine .cons ?_ ih;obtain⟨h1,h2,h3⟩:=h;unfold putAt;by_cases e:p.1=k;{rw[if_pos e,if_pos (h1.symm.trans e)];exact⟨h1,h2,ry⟩};rw[if_neg e,if_neg (λz=>e (h1.trans z))];exact⟨h1,h2,h3⟩
def KT.put{H:Hp}{kvs:List (List Key×V)}{xs:List (List Key×Addr×Value)}(r:KT H kvs xs)(k:List Key){b:Addr}{y:V}{u:Value}(hb:H b=some (.tup (k.map kV)))(ry:RelV y u) : KT H (putK kvs k y) (storedH xs k b u):=by
 have e:(kvs.any λkv=>decide (kv.1=k))=(atKey xs k).isSome:=by rw[qv,(r.val k).eW,UQ]
 unfold putK storedH;rw[e];by_cases q:(atKey xs k).isSome=true;{rw[if_pos q,if_pos q];exact r.repl k ry};rw[if_neg q,if_neg q];exact Paired.snoc r ⟨rfl,hb,ry⟩
def KT.keeps{H H':Hp}{kvs:List (List Key×V)}{xs:List (List Key×Addr×Value)}(r:KT H kvs xs)(ht:∀b ys,H b=some (.tup ys)->H' b=some (.tup ys)):KT H' kvs xs:=
 Paired.EW r λ_ _ z=>⟨z.1,ht _ _ z.2.1,z.2.2⟩
section
variable{P:Program}{w:World}{H:Hp}{h:Heap}{a:Addr}
def FF{u:HO}(ok:cK P w H h)(e:Rd H a u):bg P w H h a u:=e.ok ok
def oK{kvs:List (Key×V)}(ok:cK P w H h)(e:Rd H a (.dK kvs)):kvs.length<=sizeLine/\(a==sysModules)=false/\∃vs,KV kvs vs/\h.DictOf (cG P w) a vs:=
 show bg P w H h a (.dK kvs)from FF ok e
def Mk{kvs:List (Key×V)}(ok:cK P w H h)(e:H a=some (.dK kvs)):kvs.length<=sizeLine/\(a==sysModules)=false/\∃vs,KV kvs vs/\h.DictOf (cG P w) a vs:=oK ok (.inl e)
def lZ{ks:List Key}(ok:cK P w H h)(e:H a=some (.tup (ks.map kV))):(tupleKind (cG P w)).is h ks a:=by obtain⟨_,its,r,o,h1,h2,n,h3⟩:=(show bg P w H h a (.tup (ks.map kV))from ok a _ e);exact⟨o,its.toArray,n,h1,h2,h3,by simpa using tT r⟩
def rQ{kvs:List (List Key×V)}(ok:cK P w H h)(e:Rd H a (.dT kvs)):kvs.length<=sizeLine/\(a==sysModules)=false /\ ∃xs,KT H kvs xs/\h.DictOfH (tupleKind (cG P w)) a xs:=by
 obtain⟨z,y,xs,r,o,es,ep,h1,h2,h3,h4,h5⟩:=(show bg P w H h a (.dT kvs)from FF ok e);refine⟨z,y,xs,r,o,es,ep,h1,h2,h3,h4,λx hx=>?_,h5⟩;have all:∀{l:List (List Key×V)}{m:List (List Key×Addr×Value)},KT H l m->∀x∈m,(tupleKind (cG P w)).is h x.1 x.2.1:=by
  intro l m q;induction q with
  |nil=>intro x hx;exact nomatch hx
  |@cons p q ps qs hq t ih=>intro x hx;rcases QG.mp hx with e|hx;{subst e;exact lZ ok (by rw[<-hq.1];exact hq.2.1)};exact ih x hx
 exact all r x hx
def FN{kvs:List (List Key×V)}(ok:cK P w H h)(e:H a=some (.dT kvs)):kvs.length<=sizeLine/\(a==sysModules)=false /\ ∃xs,KT H kvs xs/\h.DictOfH (tupleKind (cG P w)) a xs:=rQ ok (.inl e)
end
noncomputable def gD (H:Hp)(a:Addr) (y:V)(r:Option V):Prop:=
 (∃kvs k,Rd H a (.dK kvs)/\y=kV k/\r=bY kvs k)\/∃kvs k b,Rd H a (.dT kvs)/\y=.ref b/\H b=some (.tup (k.map kV))/\r=bY kvs k
noncomputable def nV (H:Hp)(a:Addr) (y v:V)(H':Hp):Prop:=
 (∃kvs k,H a=some (.dK kvs)/\y=kV k/\kvs.length<sizeLine/\H'=upd H a (.dK (putK kvs k v))) \/
 ∃kvs k b,H a=some (.dT kvs)/\y=.ref b/\H b=some (.tup (k.map kV))/\kvs.length<sizeLine/\H'=upd H a (.dT (putK kvs k v))
theorem gD.k{H:Hp}{a:Addr}{kvs:List (Key×V)}{k:Key}(e:H a=some (.dK kvs)):gD H a (kV k) (bY kvs k):=.inl ⟨kvs,k,.inl e,rfl,rfl⟩
def gD.t{H:Hp}{a b:Addr}{kvs:List (List Key×V)}{k:List Key}(e:H a=some (.dT kvs))(eb:H b=some (.tup (k.map kV))):gD H a (.ref b) (bY kvs k):=.inr ⟨kvs,k,b,.inl e,rfl,eb,rfl⟩
theorem nV.k{H:Hp}{a:Addr}{kvs:List (Key×V)}{k:Key}{v:V}(e:H a=some (.dK kvs))(hl:kvs.length<sizeLine):nV H a (kV k) v (upd H a (.dK (putK kvs k v))):=.inl ⟨kvs,k,e,rfl,hl,rfl⟩
def nV.t{H:Hp}{a b:Addr}{kvs:List (List Key×V)}{k:List Key}{v:V}(e:H a=some (.dT kvs))(eb:H b=some (.tup (k.map kV)))(hl:kvs.length<sizeLine) : nV H a (.ref b) v (upd H a (.dT (putK kvs k v))):=.inr ⟨kvs,k,b,e,rfl,eb,hl,rfl⟩
section
variable{X:Cx}{pins:Ut}{U:St}{H:Hp}{s:Shared}{a:Addr}{y v:V}{u r:Value}{o:Option V}{A:Around}{E:Uq}
def Inv.big(I:Inv X pins U H s):sysModules<s.heap.objs.size:=by have h:mainGlobals<s.heap.objs.size:=(I.mod.glob.keeps I.bk).lt;exact Nat.lt_trans (by decide) h
def BX{Q:Uq}(hu:A.units+1<cLine)(I:Inv X pins U H s)(g:gD H a y (some v))(ry:RelV y u)(h:∀w' s',Inv X pins U H s'->RelV v w'->Q w' s') : wpAny (model X.prog X.w) A (getItem (.ref a) u) Q E s:=by rcases g with⟨kvs,k,e,ey,l⟩|⟨kvs,k,b,e,ey,eb,l⟩;{subst ey;obtain⟨z,hd,vs,rel,dd⟩:=oK I.hok e;obtain⟨w',hw,rw'⟩:=iU.some_of (v:=v) (o:=valueAt vs k) (by rw[l];exact rel.val k);exact wpAny_getItem_of (qE ry) dd.mapOf hw (h w' _ (I.tok _) rw')};subst ey;cases (show u=Value.ref b from ry);obtain⟨z,hd,xs,rel,dd⟩:=rQ I.hok e;obtain⟨w',hw,rw'⟩:=iU.some_of (v:=v) (o:=(atKey xs k).map (·.2)) (by rw[l];exact rel.val k);obtain⟨p,hp,hp2⟩:=SD.mp hw;refine wpAny_getItem_heap (Sz hu) (lZ I.hok eb) dd hp ?_;rw[hp2];exact h w' _ (I.tok _) rw'
def Ox{Q:Uq}(hu:A.units+1<cLine)(I:Inv X pins U H s)(g:gD H a y o)(ry:RelV y u)(h:∀s',Inv X pins U H s'->Q (.bool o.isSome) s') : wpAny (model X.prog X.w) A (compareOp .In u (.ref a)) Q E s:=by rcases g with⟨kvs,k,e,ey,l⟩|⟨kvs,k,b,e,ey,eb,l⟩;{subst ey;obtain⟨z,hd,vs,rel,dd⟩:=oK I.hok e;refine wpAny_in_of (qE ry) hd dd.mapOf ?_;rw[<-(rel.val k).eW,<-l];exact h _ (I.tok _)};subst ey;cases (show u=Value.ref b from ry);obtain⟨z,hd,xs,rel,dd⟩:=rQ I.hok e;refine wpAny_in_heap (Sz hu) (lZ I.hok eb) hd dd ?_;have q:=(rel.val k).eW;rw[UQ]at q;rw[<-q,<-l];exact h _ (I.tok _)
def Ip{Q:Uq}(hu:A.units+1<cLine)(I:Inv X pins U H s)(g:gD H a y o)(ry:RelV y u)(h:∀s',Inv X pins U H s'->Q (.bool (!o.isSome)) s') : wpAny (model X.prog X.w) A (compareOp .NotIn u (.ref a)) Q E s:=by rcases g with⟨kvs,k,e,ey,l⟩|⟨kvs,k,b,e,ey,eb,l⟩;{subst ey;obtain⟨z,hd,vs,rel,dd⟩:=oK I.hok e;refine wpAny_notIn_of (qE ry) hd dd.mapOf ?_;rw[<-(rel.val k).eW,<-l];exact h _ (I.tok _)};subst ey;cases (show u=Value.ref b from ry);obtain⟨z,hd,xs,rel,dd⟩:=rQ I.hok e;refine wpAny_notIn_heap (Sz hu) (lZ I.hok eb) hd dd ?_;have q:=(rel.val k).eW;rw[UQ]at q;rw[<-q,<-l];exact h _ (I.tok _)
def sP{h':Heap}{t':Nat}{ob:HO}(I:Inv X pins U H s)(mu:CO (H a))(hs:Heap.SameBut a s.heap h')(he:∃q,h'.get? a=some q)(new:bg X.prog X.w (upd H a ob) h' a ob) : Inv X pins U (upd H a ob) { s with heap:=h',toks:=t' }:=
 I.write (x:=a) (e:=a) mu (.inl rfl) (λb q hb z=>(hs.2 b hb).trans z) he new
def JZ{P:Program}{w:World}{H':Hp}{h':Heap}{kvs:List (Key×V)}{vs:List (Key×Value)}(z:kvs.length<=sizeLine)(hd:(a==sysModules)=false)(rel:KV kvs vs)(dd:h'.DictOf (cG P w) a vs) : bg P w H' h' a (.dK kvs):=⟨z,hd,vs,rel,dd⟩
def C9{H':Hp}{Q:Unit->Shared->Prop}(hu:A.units+1<cLine)(I:Inv X pins U H s)(g:nV H a y v H')(ry:RelV y u)(rv:RelV v r)(h:∀s',Inv X pins U H' s'->Q () s') : wpAny (model X.prog X.w) A (setItem (.ref a) u r) Q E s:=by
 rcases g with⟨kvs,k,e,ey,l,eH⟩|⟨kvs,k,b,e,ey,eb,l,eH⟩
 .subst ey eH;obtain⟨z,hd,vs,rel,dd⟩:=Mk I.hok e;have hz:vs.length<=sizeLine:=by rw[<-rel.length];exact z
  have hl:(putK kvs k v).length<=sizeLine:=by have:=pK kvs k v;lia
  refine wpAny_setItem_pairs (hsz:=hz) (qE ry) dd λh' dd' hs=>h _ ?_;have he:∃q,h'.get? a=some q:=let⟨q,_,_,hq,_⟩:=dd';⟨q,hq⟩;exact sP I (by rw[e];exact RV) hs he (JZ hl hd (rel.put k rv) dd')
 subst ey eH;cases (show u=Value.ref b from ry);obtain⟨z,hd,xs,rel,dd⟩:=FN I.hok e;have hz:xs.length<=sizeLine:=by rw[<-Paired.length rel];exact z
 have hl:(putK kvs k v).length<=sizeLine:=by have:=pK kvs k v;lia
 refine wpAny_setItem_heap (hsz:=hz) (Sz hu) (lZ I.hok eb) dd λh' dd' hs=>h _ ?_;obtain⟨q,es,ep,hq,h2,h3,h4,_,h5⟩:=dd';refine sP I (by rw[e];exact RV) hs ⟨q,hq⟩ ⟨hl,hd,_,(rel.put k eb rv).keeps λc ys ec=>?_,q,es,ep,hq,h2,h3,h4,h5⟩;rw[ai (GP ec e (λz=>nomatch z))];exact ec
end
section
variable{X:Cx}{pins:Ut}{U:St}{H:Hp}{s:Shared}{a:Addr}{kvs:List (Key×V)}{k:Key}{u:Value}{A:Around}{E:Uq}
def My{Q:Uq}(I:Inv X pins U H s)(e:Rd H a (.dK kvs))(h:∀t s',Inv X pins U H s'->Q (.int kvs.length t) s'):wpAny (model X.prog X.w) A (call (.builtin "len") [.ref a]) Q E s:=by obtain⟨z,hd,vs,rel,dd⟩:=oK I.hok e;refine call_len_dict hd dd (by rw[<-rel.length];rw[sizeLine_eq]at z;lia) ?_;rw[<-rel.length];exact h _ _ (I.tok _)
end
def xO{X:Cx}{pins:Ut}{U:St}{H:Hp}{s:Shared}{a:Addr}{y:V}{o:Option V}(I:Inv X pins U H s)(g:gD H a y o):s.TypeIs (.ref a) "dict":=by rcases g with⟨kvs,k,e,_,_⟩|⟨kvs,k,b,e,_,_,_⟩;{obtain⟨_,_,vs,_,dd⟩:=oK I.hok e;exact dd.typeIs};obtain⟨_,_,xs,_,dd⟩:=rQ I.hok e;exact dd.typeIs
def Fd{P:Program}{w:World}{H:Hp}(h:Heap)(hb:sysModules<h.objs.size):bg P w H (h.push { cls:=.type "dict",data:=.dict #[] }) h.objs.size (.dK []):=
 ⟨Qt _,beq_eq_false_iff_ne.mpr (Ne.symm (QV hb)),[],.nil,Heap.DictOf.new h⟩
def Eo{P:Program}{w:World}{H:Hp}(h:Heap)(hb:sysModules<h.objs.size):bg P w H (h.push { cls:=.type "dict",data:=.dict #[] }) h.objs.size (.dT []):=
 ⟨Qt _,beq_eq_false_iff_ne.mpr (Ne.symm (QV hb)),[],.nil,_,#[],0,Qn _ rfl,⟨rfl,rfl,rfl⟩,rfl,rfl,Rv⟩
noncomputable def BC:TE:=λ_ H Q=>∀p,H p=none->Q (.ref p) (upd H p (.dK []))
noncomputable def Bg:TE:=λ_ H Q=>∀p,H p=none->Q (.ref p) (upd H p (.dT []))
section
variable{X:Cx}{pos:Pos}
def Eu:PE X (.Dict [] [] pos) BC:=λpins s U H Q I h=>
 wpAny_Dict_empty ⟨.ref s.heap.objs.size,_,I.laid (a:=s.heap.objs.size) (o:=.dK []) (t':=s.toks) (λ_ _ q=>QU _ q) (Q7 _) (Fd s.heap I.big),rfl,h _ (I.hok.fresh (Q7 _))⟩
def EH:PE X (.Dict [] [] pos) Bg:=λpins s U H Q I h=>
 wpAny_Dict_empty ⟨.ref s.heap.objs.size,_,I.laid (a:=s.heap.objs.size) (o:=.dT []) (t':=s.toks) (λ_ _ q=>QU _ q) (Q7 _) (Eo s.heap I.big),rfl,h _ (I.hok.fresh (Q7 _))⟩
end
end L2
namespace NQ
open PySem PySem.W PySem.Calls PyProof.Rows
def qH{P:Params}{h:Heap}:∀(ns:VJ)(vs:VD),WellAll P h vs (ns.map WData.int)->IntsAre vs ns:=by
 intro ns;induction ns with
 |nil=>intro vs w;rw[List.map_nil]at w;cases w;exact .nil
 |cons n ns ih=>
  intro vs w;rw[QT]at w;cases w with
  |cons a b=>cases a;exact .cons _ _ (ih _ b)
def DN{l:OpenLaw}{n:Nat}(hn:l.most=some n){P:Params}{h:Heap}{args:List WData}{vals:VD}(hpre:l.row.toRowW.claim.pre args=true)(hwl:WellAll P h vals args) : ∃a vs ns,vals=[Value.ref a]/\args=[WData.list (ns.map WData.int)]/\h.get? a=some { cls:=.type "list",data:=.seq vs.toArray }/\IntsAre vs ns/\ns.length<=n:=by
 have hsh:WShape.hasAll [] args [.list .int]=true:=(pre_splitW hpre).1;have hc:l.pre.holds [] { args:=args }=true:=(pre_splitW hpre).2;obtain⟨d,r,rfl,h1,h2⟩:=hasAllW_cons hsh;obtain rfl:=hasAllW_nil h2;obtain⟨xs,rfl,h3⟩:=hasW_list h1;obtain⟨ns,rfl⟩:=items_int h3;have hlen:ns.length<=n:=by
  unfold OpenLaw.pre at hc;have h4:(WTm.not (.lt (.lit (.int (n:Int))) (.len (.arg 0)))).holds [] { args:=[.list (ns.map .int)] }=true:=by have h4:=(holds_andW hc).1;rw[hn]at h4;exact h4
  have h5:=condW_of h4 (w_not (w_lt w_lit (w_len_list (w_arg rfl))));rw[Q5]at h5;refine Nat.le_of_not_lt λq=>?_;have q':(n:Int)<((ns.length:Nat):Int):=by lia
  first
   | (rw[Qp q']at h5;exact absurd h5 (by decide))
   | (simp at h5;lia)
 cases hwl with
 |cons w1 w2=>
  cases w2;cases w1 with
  |list ho hall=>exact⟨_,_,ns,rfl,rfl,ho,qH ns _ hall,hlen⟩
def DA(l:OpenLaw)(args:List WData):l.row.toRowW.claim.post args (.bool true) args=true:=
 postW_of (r:=l.row.toRowW) (X:=(true==true))
  (show WShape.has [] (.bool true) .bool=true by first|rfl|decide|simp[WShape.has,WShape.arms,WShape.armsAll])
  (show(WTm.eq .res (.lit (.bool true))).value [] { args:=args,res:=some (.bool true),after:=args }=some (.bool (true==true))from w_eq_bool (w_res rfl) w_lit) rfl
def xR{l:OpenLaw}{n:Nat}{q:Program}{loose:VL}{XP:(Us)->Heap->Prop}{YP:World->Heap->Prop}{d:DefRec}(hn:l.most=some n)(hdf:d.params.defaults=[])(call:∀(w:World)(s₀ s₁:Shared)(mg mb:Us)(fa:Addr)(o:Obj)(pm cd doc:Value)(a:Addr)(vs:VD)(ns:VJ), Ground q loose [] XP w s₀ mg mb s₁.heap->YP w s₁.heap-> s₁.heap.get? fa=some o->o.data=.func (docDef d.name d.params d.body d.scope pm cd doc)->s₁.heap.CodeRec cd d.name->mg d.name=some (.ref fa)-> s₁.heap.get? a=some { cls:=.type "list",data:=.seq vs.toArray }->IntsAre vs ns->ns.length<=n->s₁.gens=#[]-> codeAny (model l.prog w) callerA (.call (.ref fa) ⟨[.ref a],[]⟩) (λr s'=>r=.ok (.ret (.bool true))/\OldK s₁.heap s'.heap/\s'.os=s₁.os/\AllBare s'.gens) s₁) : WalkO q loose XP YP l.row.toRowW d [] (λf vs=>PySem.call f vs):=by intro w s₀ s₁ mg mb G VN fa o pm cd doc dV kV ho hd hcd hD hmg hg args vals as hpre hlay hrd hwl hlo;obtain rfl:dV=.none:=Dflts.none hD hdf;obtain rfl:kV=.none:=Dflts.noKw hD;obtain⟨a,vs,ns,rfl,rfl,hobj,hints,hlen⟩:=DN hn hpre hwl;refine enter_call (codeAny_mono (call w s₀ s₁ mg mb fa o pm cd doc a vs ns G VN ho (fd_plain hd) hcd hmg hobj hints hlen hg) λr s' hq=>?_);obtain⟨rfl,h2,h3,h4⟩:=hq;exact⟨.inl ⟨.bool true,.bool true,[],rfl,λ_=>rfl,.bool true,DA l _,λ_=>⟨List.Pairwise.nil,λ_ hm=>(nomatch hm)⟩⟩,h2,h3,h4⟩
end NQ
namespace L2
open PySem PySem.Spec PyProof.Rows
theorem uw:∀{vs:VD}{ns:VJ},IntsAre vs ns->Vals (ns.map V.int) vs
 |_,_,.nil=>.nil
 |_,_,.cons n t h=>.cons ⟨t,rfl⟩ (uw h)
noncomputable def Fp (H:Hp):Prop:=∀b,H b=none\/∃o xs,H b=some (.dI o (.lst xs))
end L2
namespace L2
open PySem PySem.Spec PyProof.Rows
noncomputable def ji (s:Stmt):Arguments:=match s with
 |.FunctionDef _ a _ _ _ _ _ _ _ _=>a
 |_=>{ posonlyargs:=[],args:=[],vararg:=none,kwonlyargs:=[],kw_defaults:=[],kwarg:=none,defaults:=[] }
noncomputable def gn (s:Stmt):VH:=match s with
 |.FunctionDef _ _ b _ _ _ _ _ _ _=>b
 |_=>[]
noncomputable def av (s:Stmt):Scope:=match s with
 |.FunctionDef _ _ _ _ _ _ sc _ _ _=>sc
 |_=>{ kind:=.function,names:=[],isGenerator:=false,isCoroutine:=false }
noncomputable abbrev E0:XK:=λ_ _ _=>False
structure qM(K:Uy) (x qual:Str)(st:Stmt)(f:Addr)(fd:FuncData):Prop where
 ex:∃(oc:Value)(od:VC)(kV doc pm:Value)(an:VC)(cdv ct:Value)(osl:Up),
  fd=PySem.W.fnOf x qual (ji st) (gn st) (av st) .none kV doc pm an cdv ct/\K.lookup f=some ⟨oc,od,.func fd,osl⟩/\PySem.W.codeIn K cdv qual=true
 kp:PySem.W.keepIn K (.ref f)=true
section
variable{P:Program}{w:World}{K:Uy}{mg:Us}{base:Heap}
def qM.binds{x qual:Str}{st:Stmt}{f:Addr}{fd:FuncData}{ps:VL}(F:qM K x qual st f fd)(h:∀(kV doc pm:Value)(an:VC)(cdv ct:Value)(us:VD),us.length=ps.length->bindArgs (PySem.W.fnOf x qual (ji st) (gn st) (av st) .none kV doc pm an cdv ct) ⟨us,[]⟩=pure (ps.zip us)):Binds K fd ps []:=by obtain⟨oc,od,kV,doc,pm,an,cdv,ct,osl,rfl,lk,hcd⟩:=F.ex;exact .all (h kV doc pm an cdv ct)
def Lv{x qual:Str}{st:Stmt}{f:Addr}{oc:Value}{od an:VC}{osl:Up}{kV doc pm cdv ct:Value}(l:K.lookup f=some ⟨oc,od,.func (PySem.W.fnOf x qual (ji st) (gn st) (av st) .none kV doc pm an cdv ct),osl⟩)(c:PySem.W.codeIn K cdv qual=true)(k:PySem.W.keepIn K (.ref f)=true):qM K x qual st f (PySem.W.fnOf x qual (ji st) (gn st) (av st) .none kV doc pm an cdv ct):=⟨⟨oc,od,kV,doc,pm,an,cdv,ct,osl,rfl,l,c⟩,k⟩
end
section
variable{X:Cx}
def Cd:bZ X (.builtin "len") (λxs H Q=>∃a kvs,xs=[V.ref a]/\H a=some (.dK kvs)/\Q (.int kvs.length) H):=by intro pins s U H xs us Q I r h;obtain⟨a,kvs,rfl,ha,q⟩:=h;obtain⟨u,rfl,ru⟩:=vals1 r;cases ru;exact My I (.inl ha) λt s' I'=>⟨.int kvs.length,H,I',⟨t,rfl⟩,q⟩
end
def l6{A B:Prop}(h:B):if false=true then A else B:=by rw[if_neg QW];exact h
def l7{A B:Prop}(h:A):if true=true then A else B:=by rw[if_pos rfl];exact h
noncomputable def ah (H H':Hp):Prop:=∀b o,H b=some o->H' b=some o
def ah.refl(H:Hp):ah H H:=λ_ _ h=>h
def ah.trans{H H1 H2:Hp}(a:ah H H1)(b:ah H1 H2):ah H H2:=λc o h=>b c o (a c o h)
def ah.free{H H':Hp}(e:ah H H'){l:Addr}(h:H' l=Option.none):H l=Option.none:=by
 cases q:H l with
 |none=>rfl
 |some o=>rw[e l o q]at h;cases h
noncomputable def dU (cells:List (Str×Addr)):List (Str×NameKind)->List (Str×Addr)->List (Str×Addr)
 |[],acc=>acc
 | (n,k)::r,acc=>dU cells r (if(k==NameKind.free)=true then(n,(cells.lookup n).getD 0)::acc else acc)
theorem pG{c:Addr}:∀(names:List (Str×NameKind))(acc:List (Str×Addr)),(dU cells names acc).lookup y=some c->((y,NameKind.free)∈names/\(cells.lookup y).getD 0=c)\/acc.lookup y=some c
 |[],_,h=>.inr h
 | (n,k)::r,acc,h=>by
  rcases pG r _ h with⟨a,b⟩|z;{exact .inl ⟨QB _ a,b⟩};clear h;by_cases e:(k==NameKind.free)=true
  .rw[if_pos e]at z;rw[R8]at z;cases q:(y==n)with
   |true=>
    rw[q]at z;have ek:k=NameKind.free:=by simpa using e
    have en:y=n:=by simpa using q
    subst ek en;exact .inl ⟨Q4,Option.some.inj z⟩
   |false=>rw[q]at z;exact .inr z
  rw[if_neg e]at z;exact .inr z
theorem je:∀(names:List (Str×NameKind))(acc:List (Str×Addr)),((y,NameKind.free)∈names\/∃c,acc.lookup y=some c)->∃c,(dU cells names acc).lookup y=some c
 |[],_,h=>by rcases h with h|h;{cases h};exact h
 | (n,k)::r,acc,h=>by
  refine je r _ ?_;rcases h with h|⟨c,h⟩;{rcases QG.mp h with e|h;{cases e;refine .inr ⟨(cells.lookup y).getD 0,?_⟩;rw[if_pos (by decide),R8,beq_self_eq_true]};exact .inl h};by_cases e:(k==NameKind.free)=true
  .rw[if_pos e,R8];cases q:(y==n)with
   |true=>exact .inr ⟨_,rfl⟩
   |false=>exact .inr ⟨c,h⟩
  rw[if_neg e];exact .inr ⟨c,h⟩
def qV(h:∀n,(n,NameKind.free)∈scope.names->∃c,env.cells.lookup n=some c):closureFor scope env=pure (dU env.cells scope.names []):=by
 have key:∀(names:List (Str×NameKind))(cs:List (Str×Addr)),(∀n,(n,NameKind.free)∈names->∃c,env.cells.lookup n=some c)->
   (forIn names cs λ(x:Str×NameKind)(r:List (Str×Addr))=>(if(x.2==NameKind.free)=true then(cellOf env x.1>>=λa=>pure (ForInStep.yield ((x.1,a)::r)))else pure (ForInStep.yield r):Sem _))=pure (dU env.cells names cs):=by
  intro names
  induction names with
  |nil=>intro cs _;rfl
  |cons p r ih=>
   intro cs hp;obtain⟨n,k⟩:=p;rw[List.forIn_cons];by_cases e:(k==NameKind.free)=true
   .have ek:k=NameKind.free:=by simpa using e
    obtain⟨c,hc⟩:=hp n (by rw[ek];exact Q4);rw[if_pos e];have e2:cellOf env n=pure c:=by unfold cellOf;rw[hc]
    show((cellOf env n>>=λa=>pure (ForInStep.yield ((n,a)::cs)))>>=_)=_;rw[e2];show(forIn r ((n,c)::cs) _:Sem _)=_;rw[ih _ λn' h'=>hp n' (QB _ h')];show _=pure (dU env.cells r (if(k==NameKind.free)=true then(n,(env.cells.lookup n).getD 0)::cs else cs));rw[if_pos e,hc];rfl
   rw[if_neg e];show(forIn r cs _:Sem _)=_;rw[ih _ λn' h'=>hp n' (QB _ h')];show _=pure (dU env.cells r (if(k==NameKind.free)=true then(n,(env.cells.lookup n).getD 0)::cs else cs));rw[if_neg e]
 unfold closureFor;have e:=key scope.names [] h;show((forIn scope.names [] λ(x:Str×NameKind)(r:List (Str×Addr))=>(if(x.2==NameKind.free)=true then(cellOf env x.1>>=λa=>pure (ForInStep.yield ((x.1,a)::r)))else pure (ForInStep.yield r):Sem _))>>=λr=>pure r)=_;rw[e];rfl
theorem gX{α:Type}{y:Str}{k:α}:∀{l:List (Str×α)},l.lookup y=some k->(y,k)∈l
 |[],h=>by cases h
 | (n,j)::r,h=>by
  rw[R8]at h;cases q:(y==n)with
  |true=>
   rw[q]at h;have en:y=n:=by simpa using q
   cases h;rw[en];exact Q4
  |false=>rw[q]at h;exact QB _ (gX h)
theorem rJ{env:Env}{x:Str}{k:NameKind}:∀{names:List (Str×NameKind)},names.lookup x=some k->(relabel { (default:Scope)with names:=names } env).names.lookup x=some k\/(k=.free/\(relabel { (default:Scope)with names:=names } env).names.lookup x=some .cell)
 |[],h=>by cases h
 | (n,j)::r,h=>by
  have ih:=@rJ env x k r;rw[R8]at h;show List.lookup x ((if(j==NameKind.free&&env.scope.kind == .function&&env.kindOf n==some .cell)=true then(n,NameKind.cell)else(n,j))::_)=_\/(_/\List.lookup x ((if(j==NameKind.free&&env.scope.kind == .function&&env.kindOf n==some .cell)=true then(n,NameKind.cell)else(n,j))::_)=_);cases q:(x==n)with
  |true=>rw[q]at h;cases h;by_cases e:(k==NameKind.free&&env.scope.kind == .function&&env.kindOf n==some .cell)=true;{rw[if_pos e,R8,q];refine .inr ⟨?_,rfl⟩;have z:=(QA _ _▸(QA _ _▸e).1:_/\_).1;simpa using z};rw[if_neg e,R8,q];exact .inl rfl
  |false=>rw[q]at h;by_cases e:(j==NameKind.free&&env.scope.kind == .function&&env.kindOf n==some .cell)=true;{rw[if_pos e,R8,q];exact ih h};rw[if_neg e,R8,q];exact ih h
theorem uT{env:Env}{x:Str}{k:NameKind}:∀{names:List (Str×NameKind)},(relabel { (default:Scope)with names:=names } env).names.lookup x=some k->names.lookup x=some k\/(names.lookup x=some .free/\k=.cell)
 |[],h=>by cases h
 | (n,j)::r,h=>by
  have ih:=@uT env x k r;have h:List.lookup x ((if(j==NameKind.free&&env.scope.kind == .function&&env.kindOf n==some .cell)=true then(n,NameKind.cell)else(n,j))::(relabel { (default:Scope)with names:=r } env).names)=some k:=h;rw[R8];cases q:(x==n)with
  |true=>by_cases e:(j==NameKind.free&&env.scope.kind == .function&&env.kindOf n==some .cell)=true;{rw[if_pos e,R8,q]at h;cases h;have z:=(QA _ _▸(QA _ _▸e).1:_/\_).1;exact .inr ⟨by simpa using z,rfl⟩};rw[if_neg e,R8,q]at h;exact .inl h
  |false=>by_cases e:(j==NameKind.free&&env.scope.kind == .function&&env.kindOf n==some .cell)=true;{rw[if_pos e,R8,q]at h;exact ih h};rw[if_neg e,R8,q]at h;exact ih h
noncomputable def caps (ix:VI)(U:St):St:=ix.map λi=>(U[i]?).join
noncomputable def Cx.block (X:Cx)(scope:Scope)(C:Addr)(NB:VL)(s2:Shared)(H2:Hp)(fp:VE):Cx:=
 { X with N:=NB,s₀:=s2,H₀:=H2,env:=compEnvC scope (dU X.env.cells scope.names []) C X.env,outer:=X.stack,ex:=fp,fn:=λ_=>false,pn:=[],xe:=λ_ _=>False }
noncomputable def uq (X:Cx)(ifs:VG)(t:TT):Prop:=
 ∀(pins:Ut)(s:Shared)(U:St)(H:Hp)(Q:Bool->Hp->Prop),Inv X pins U H s->t U H Q->
  wpAny (model X.prog X.w) X.A (forIn ifs true λc r=>if r=true then do let ok <-isTrue c X.env (eval c X.env);pure (ForInStep.yield ok)else pure (ForInStep.yield r)) (TP X pins U Q) X.xe s
noncomputable def Om:TT:=λ_ H Q=>Q true H
def HY:uq X [] Om:=λ_ _ _ H _ I h=>wpAny_tests_nil ⟨H,I,h⟩
def IM(h:PT X c t):uq X [c] t:=λpins s U H Q I hw=>wpAny_tests_one (h pins s U H Q I hw)
noncomputable abbrev gI (its:VD) (n:Nat):Obj:={ cls:=.type "list",data:=.seq its.toArray n }
section
variable{X:Cx}{scope:Scope}{x:Str}{NB:VL}{ix:VI}{pins:Ut}{U:St}{H2:Hp}{s2:Shared}{fp:VE}
def E8(ix:VI)(U:St):(caps ix U).length=ix.length:=by unfold caps;rw[Q5]
end
section
variable{X:Cx}{scope:Scope}{x:Str}{NB:VL}{ix:VI}{pins:Ut}{U:St}{H2:Hp}{s2:Shared}{fp:VE}
def Bb{C D:Addr}{n:Nat}(I2:Inv X pins U H2 s2)(f2:∀b∈fp,iB X pins H2 b)(hD:s2.heap.objs.size<=D)(I4:Inv (X.block scope C NB s2 H2 fp) [(D,gI its n)] σB H' s4)(rv:Vals ys its)(hz:ys.length<=sizeLine):Inv X pins U (upd H' D (.lst ys)) s4:=by
 have hp:=I4.pin (D,gI its n) (by show _∈[]++[(D,gI its n)];simp);have hfree:H' D=none:=hp.2.1;have neD:∀b o,s2.heap.get? b=some o->b≠D:=λb o e=>QV (Qg (QD e) hD);have neT:∀b o,H2 b=some o->b≠D:=λb o e=>QV (Qg (I2.hok.lt e) hD);have u:Un (frs X.stack) fp H2 H' s2.heap s4.heap:=I4.base;refine I2.FD (ch:=fp) I4.os ⟨u.keep,u.slot,λb o e n hx=>?_,u.there,λb xs e=>?_,λb o v e=>?_,λb ps e=>?_⟩ (λb o e=>?_) I4.bare λb hb=>?_;{rw[ai (neD b o e)];exact u.free b o e n hx};{rw[ai (neT b _ e)];exact u.tups b xs e};{rw[ai (neT b _ e)];exact u.jG b o v e};{rw[ai (neT b _ e)];exact u.kU b ps e}
 .by_cases hb:b=D;{subst hb;rw[ay]at e;cases e;exact⟨hz,its,n,rv,hp.1⟩};rw[ai hb]at e;have ne:∀{c:Addr}{w:HO},H' c=some w->c≠D:=λ{c w} q z=>by rw[z,hfree]at q;cases q
  exact(I4.hok b o e).stay (λ_ _ _ q=>q) (λc q=>by rw[ai (ne q)];exact q) λc xs q=>by rw[ai (ne q)];exact q
 obtain⟨_,g1,g2,g3,g4,g5⟩:=f2 b hb;exact⟨g3,g1,g4,g5⟩
end
end L2
namespace L2
open PySem PySem.Spec PyProof.Rows PySem.W
noncomputable def lg (a C:Addr)(dd:VC):Heap->Prop:=λh=>∃(t0:Addr)(v1 v2 v3 v4 v5:Value)(sl:Up),h.get? a=some ⟨.ref C,dd,.fields #[.ref t0,v1,v2,v3,v4,v5],sl⟩
def Df{a C:Addr}(x:lg a C dd h):bg P w H h a (.ext (lg a C dd)):=by obtain⟨t0,v1,v2,v3,v4,v5,sl,e⟩:=id x;exact⟨x,⟨_,e⟩,λh1 h2 ⟨t0,v1,v2,v3,v4,v5,sl,e⟩ k=>⟨t0,v1,v2,v3,v4,v5,sl,k _ e⟩⟩
noncomputable def six (newId:String)(l:List (Uz)):Bool:=l.length==6&&(match(l[4]?:Option (Uz))with|some (some (Value.builtin n))=>n==newId|_=>false)
noncomputable def yI (K:Frag)(C:Addr)(bmB:VD):VD->Bool
 |.ref C'::bm=>C'==C&&tailIn K bmB bm
 |_=>false
noncomputable def jH (K:Frag)(C:Addr)(bmB:VD)(newId:String)(r:Uz):Bool:=match K.lookup C with
 |some ob=>(match ob.cls with | .type t=>t == "type" | _=>false)&&(match ob.data with
  |.cls cd=>(yI K C bmB cd.mro&&six newId ob.slots.toList)&&!cd.hasDel&&(nsOkIn K cd.ns&&nsIn K cd.ns "__init__" == some r)
  |_=>false)
 |none=>false
def Ld(h:six newId l=true):∃k0 k1 k2 k3 k5,l=[k0,k1,k2,k3,some (.builtin newId),k5]:=by
 unfold six at h;rw[QA]at h;obtain⟨h1,h2⟩:=h;have h1:l.length=6:=S8 h1;rcases l with _|⟨k0,_|⟨k1,_|⟨k2,_|⟨k3,_|⟨k4,_|⟨k5,_|⟨k6,l⟩⟩⟩⟩⟩⟩⟩
 case cons.cons.cons.cons.cons.cons.nil=>
  cases k4 with
  |none=>cases h2
  |some v=>
   cases v with
   |builtin n=>exact⟨k0,k1,k2,k3,k5,by rw[show n=newId from S8 h2]⟩
   |_=>cases h2
 case cons.cons.cons.cons.cons.cons.cons=>cases h1
 all_goals cases h1
def Ah{K:Frag}{C:Addr}{bmB l:VD}(h:yI K C bmB l=true):∃bm,l=.ref C::bm/\tailIn K bmB bm=true:=by
 cases l with
 |nil=>cases h
 |cons v bm=>
  cases v with
  |ref a=>have h:(a==C&&tailIn K bmB bm)=true:=h;rw[QA]at h;exact⟨bm,by rw[show a=C from S8 h.1],h.2⟩
  |_=>cases h
structure OX(C:Addr)(bmB:VD)(newId:String)(r:Uz)(h:Heap):Prop where
 obj:∃bm N nm q bs hdct sn sub ab col dd k0 k1 k2 k3 k5 mN,h.get? C=some (excClassObj nm q C N bs bm hdct sn sub ab col dd k0 k1 k2 k3 k5 newId)/\h.Ns N mN/\mN "__init__"=r/\OwnTail h bmB bm
def zX{K:Frag}{h:Heap}{N:Addr}{mg:Us}(X:K.In h)(G:h.Ns N mg)(e:nsIn K N n=some r):mg n=r:=by
 obtain⟨o,es,ep,ho,hd,_,hf⟩:=G;unfold nsIn at e;split at e
 .rename_i c d es' n' sl q;have z:=X _ _ q;rw[ho]at z;cases z;cases hd;split at e
  .rename_i en he;rw[<-hf];unfold nsFind findBy;rw[<-UL,he];first
    | (cases e;rfl)
    | (split at e<;>cases e<;>rfl)
  rename_i he;rw[<-hf];unfold nsFind findBy;rw[<-UL,he];split at e;{cases e};cases e;rfl
 cases e
def G9{K:Frag}{C:Addr}(X:K.In h)(q:jH K C bmB newId r=true):OX C bmB newId r h:=by
 unfold jH at q;cases ho:K.lookup C with
 |none=>rw[ho]at q;cases q
 |some ob=>
  rw[ho]at q;obtain⟨cls,dd,data,sl⟩:=ob;dsimp only at q;rw[QA]at q;obtain⟨q0,q⟩:=q;have hc:cls=.type "type":=by
   cases cls with
   |type t=>exact congrArg Value.type (S8 q0)
   |_=>cases q0
  subst hc;cases data with
  |cls cd=>
   dsimp only at q;rw[QA,QA,QA,QA]at q;obtain⟨⟨⟨q1,q2⟩,hdel⟩,hok,hni⟩:=q;obtain⟨bm,hm,ht⟩:=Ah q1;obtain⟨l⟩:=sl;obtain⟨k0,k1,k2,k3,k5,hs⟩:=Ld q2;have hs:l=_:=hs;obtain⟨nm,bs,mro,ns,qn,hd,sn,sub,ab,col,del⟩:=cd;dsimp only at hm hdel hok hni;have hdel:del=false:=by cases del<;>first|rfl|cases hdel
   have hni:=S8 hni;subst hm hdel hs;have G:h.Ns ns (h.nsMap ns):=.of_isNs (isNs_of_in X hok);exact⟨bm,ns,nm,qn,bs,hd,sn,sub,ab,col,dd,k0,k1,k2,k3,k5,_,X _ _ ho,G,zX X G hni,tail_of_in X ht⟩
  |_=>cases q
def Er{a:Addr}(x:bg P w H h a o):∃ob,h.get? a=some ob:=by
 cases o with
 |lst xs=>obtain⟨_,_,_,_,e⟩:=x;exact⟨_,e⟩
 |tup xs=>obtain⟨_,_,_,ob,e,_⟩:=x;exact⟨_,e⟩
 |dK kvs=>obtain⟨_,_,_,_,ob,_,_,e,_⟩:=x;exact⟨_,e⟩
 |dT kvs=>obtain⟨_,_,_,_,ob,_,_,e,_⟩:=x;exact⟨_,e⟩
 |set S n=>obtain⟨ob,_,_,_,e,_⟩:=x;exact⟨_,e⟩
 |ins C dx fs=>obtain⟨_,_,_,e,_⟩:=x;exact⟨_,e⟩
 |own y=>exact x
 |xd fs=>obtain⟨_,⟨od,_,_,e,_⟩,_⟩:=x;exact⟨_,e⟩
 |pP lo hi=>obtain⟨_,_,_,e⟩:=x;exact⟨_,e⟩
 |dI ob u=>obtain⟨e,_⟩:=x;exact⟨_,e⟩
 |ue ps=>exact⟨_,x⟩
 |met f y=>exact⟨_,x⟩
 |ext φ=>obtain⟨_,e,_⟩:=x;exact e
section
variable{X:Cx}{pins:Ut}{U:St}{H:Hp}{s:Shared}{h':Heap}
def Inv.lR(I:Inv X pins U H s){a:Addr}(hn:s.heap.get? a=none):H a=none:=by
 cases z:H a with
 |none=>rfl
 |some o=>obtain⟨ob,e⟩:=Er (I.hok a o z);rw[hn]at e;cases e
def Inv.FZ{a:Addr}{t':Nat}(I:Inv X pins U H s)(k:∀b u,s.heap.get? b=some u->h'.get? b=some u)(hn:s.heap.get? a=none)(new:bg X.prog X.w (upd H a o) h' a o) : Inv X pins U (upd H a o) { s with heap:=h',toks:=t' }:=by
 have hf:=I.lR hn;have neA:∀b u,s.heap.get? b=some u->b≠a:=λb u e z=>by rw[z,hn]at e;cases e
 have neT:∀b u,H b=some u->b≠a:=λb u e z=>by rw[z,hf]at e;cases e
 refine I.un ⟨λb u e _ _ _=>k b u e,λb u e _ _ _=>⟨u.slots,k b u e⟩,λb u e n _=>by rw[ai (neA b u e)];exact n,λb u e _=>⟨u,k b u e⟩,λb xs e=>by rw[ai (neT b _ e)];exact e,
  λb u v e=>by rw[ai (neT b _ e)];exact e,λb ps e=>⟨#[],by rw[ai (neT b _ e),e];simp⟩⟩ λb u e=>?_
 by_cases hb:b=a;{subst hb;rw[ay]at e;cases e;exact new};rw[ai hb]at e;exact(I.hok b u e).stay (λc v _ q=>k c v q) (λc q=>by rw[ai (neT c _ q)];exact q) λc xs q=>by rw[ai (neT c _ q)];exact q
end
noncomputable abbrev Bl:VD:=[.type "ValueError",.type "Exception",.type "BaseException",.type "object"]
end L2
namespace L2
open PySem PySem.Spec PyProof.Rows
section
variable{X:Cx}
theorem yC:∀{xs:List V}{us:VD},Vals xs us->∀(i:Nat)(u:Value),us[i]?=some u->∃x,xs[i]?=some x/\RelV x u
 |_,_,.nil,i,u,h=>by cases h
 |_,_,.cons h r,0,u,e=>by cases e;exact⟨_,rfl,h⟩
 |_,_,.cons h r,i+1,u,e=>yC r i u e
end
end L2
namespace L2
open PySem PySem.Spec PyProof.Rows PySem.SeqAt PySem.W
mutual
inductive jE(K:Uy)(H:Hp):V->PyData->Prop
 |aU:jE K H .aU .none
 |bl (b:Bool):jE K H (.bl b) (.bool b)
 |int (i:Int):jE K H (.int i) (.int i)
 |str (x:Str):jE K H (.str x) (.str x)
 |lst {a:Addr}{xs:List V}{ds:VB}:bA K H a xs->nB K H xs ds->jE K H (.ref a) (.list ds)
 |tup {a:Addr}{xs:List V}{ds:VB}:bE K H a xs->nB K H xs ds->jE K H (.ref a) (.tuple ds)
inductive nB(K:Uy)(H:Hp):List V->VB->Prop
 |nil:nB K H [] []
 |cons {x:V}{d:PyData}{xs:List V}{ds:VB}:jE K H x d->nB K H xs ds->nB K H (x::xs) (d::ds)
end
section
variable{X:Cx}{pins:Ut}{U:St}{H:Hp}{s:Shared}
mutual
theorem Inv.reads(I:Inv X pins U H s):∀{v:V}{d:PyData}{u:Value},jE X.K H v d->RelV v u->∃as,Reads s.heap u d as
 |_,_,_,.aU,r=>by cases r;exact⟨_,.none⟩
 |_,_,_,.bl b,r=>by cases r;exact⟨_,.bool b⟩
 |_,_,_,.int i,r=>by obtain⟨t,rfl⟩:=r;exact⟨_,.int i t⟩
 |_,_,_,.str x,r=>by obtain⟨t,rfl⟩:=r;exact⟨_,.str x t⟩
 |_,_,_,.lst hq hs,r=>by cases r;obtain⟨its,rv,p,_⟩:=I.list hq;obtain⟨as,ra⟩:=I.readsAll hs rv;obtain⟨o,ho,hc,n,hd⟩:=p.isList;exact⟨_,.list ho hc hd (by simpa using ra)⟩
 |_,_,_,.tup hq hs,r=>by cases r;obtain⟨its,rv,p,_⟩:=I.tuple hq;obtain⟨as,ra⟩:=I.readsAll hs rv;obtain⟨o,ho,hc,n,hd⟩:=(show s.heap.IsTuple _ its.toArray from p);exact⟨_,.tuple ho hc hd (by simpa using ra)⟩
theorem Inv.readsAll(I:Inv X pins U H s):∀{vs:List V}{ds:VB}{us:VD},nB X.K H vs ds->Vals vs us->∃as,ReadsAll s.heap us ds as
 |_,_,_,.nil,r=>by cases r;exact⟨_,.nil⟩
 |_,_,_,.cons h hs,r=>by
  cases r with
  |cons r1 r2=>obtain⟨as,ra⟩:=I.reads h r1;obtain⟨bs,rb⟩:=I.readsAll hs r2;exact⟨_,.cons ra rb⟩
end
inductive G3(K:Uy)(neg:Bool) (x:V) (y:V)(H:Hp)(Q:VK):Prop
 |mk:∀d e,(jE K H x d)->(jE K H y e)->(shaped d=true)->(shaped e=true)->(noMix d e=true)->(Q (.bl (if neg then !same d e else same d e)) H)->G3 K neg x y H Q
noncomputable def EG (K:Uy)(neg:Bool):R2:=λx y H Q=>G3 K neg x y H Q
def L1(hu:X.A.units+64<cLine):bq X (compareOp .Eq) (EG X.K false):=by intro pins s U H x y v u Q I rx ry h;obtain⟨d,e,h1,h2,s1,s2,nm,q⟩:=h;obtain⟨as,ra⟩:=I.reads h1 rx;obtain⟨bs,rb⟩:=I.reads h2 ry;exact eq_dataH_same ra rb s1 s2 hu nm ⟨.bl _,H,I,rfl,q⟩
def Ma(hu:X.A.units+64<cLine):bq X (compareOp .NotEq) (EG X.K true):=by intro pins s U H x y v u Q I rx ry h;obtain⟨d,e,h1,h2,s1,s2,nm,q⟩:=h;obtain⟨as,ra⟩:=I.reads h1 rx;obtain⟨bs,rb⟩:=I.reads h2 ry;exact ne_dataH_same ra rb s1 s2 hu nm ⟨.bl _,H,I,rfl,q⟩
end
end L2
namespace L2
open PySem PySem.Spec PyProof.Rows PySem.W Builtin Builtin.ObjectAttr
section
variable{X:Cx}{pins:Ut}{U:St}{H:Hp}{s:Shared}{a C:Addr}{dd:VC}
def Ft:bZ X (.builtin "isinstance") (λxs H Q=>∃x c t b,xs=[x,c]/\fK X.K H x t/\(∀u,RelV c u->kitOne X.K t u=some b)/\Q (.bl b) H):=by intro pins s U H xs us Q I r h;obtain⟨x,c,t,b,rfl,ty,k,q⟩:=h;obtain⟨u1,u2,rfl,ru1,ru2⟩:=r.two;exact Ca I ru1 ty (k u2 ru2) λtk=>⟨.bl b,H,I.tok tk,rfl,q⟩
variable{o e value:Expr}{f y:Str}{pos pos' yp apos:Pos}{ta tv:TE}{es:VG}{t:TA}
end
end L2
namespace L2
open PySem PySem.Spec PyProof.Rows
def bQ{a:Addr}(h:H a=none):ah H (upd H a o):=λb u e=>by rw[ai (fc e h)];exact e
end L2
namespace Dv
open PySem L2 PySem.W
noncomputable def aY:Key->PyData
 |.inl i=>.int i
 |.inr x=>.str x
noncomputable def bM (K:Frag)(H:Hp)(a:Addr)(xs:List V):Prop:=Rd H a (.lst xs)\/∃(its:VD) (n:Nat),K.lookup a=some { cls:=.type "list",data:=.seq its.toArray n }/\its.length<=sizeLine/\Vals xs its
def Rd.mono{a:Addr}(s:ah H H'):Rd H a u->Rd H' a u
 |.inl h=>.inl (s _ _ h)
 |.inr ⟨o,h⟩=>.inr ⟨o,s _ _ h⟩
theorem bM.mono{a:Addr}(s:ah H H'):bM K H a xs->bM K H' a xs
 |.inl h=>.inl (Rd.mono s h)
 |.inr h=>.inr h
def bM.sq{a:Addr}(h:bM K H a xs):bA K H a xs:=by rcases h with h|⟨its,n,hk,hl,r⟩;{exact .inl h};exact .inr ⟨_,its.toArray,n,hk,rfl,rfl,rfl,by rw[QI];exact hl,by simpa using r⟩
theorem bM.get{a:Addr}(I:L2.Inv X pins U H s)(h:bM X.K H a xs):xs.length<=sizeLine/\∃its n,Vals xs its/\s.heap.get? a=some { cls:=.type "list",data:=.seq its.toArray n }:=by rcases h with h|⟨its,n,hk,hl,r⟩;{obtain⟨z,its,n,r,e⟩:=h.ok I.hok;exact⟨z,its,n,r,e⟩};exact⟨by rw[r.length];exact hl,its,n,r,I.gc a _ hk⟩
mutual
inductive Rp(K:Frag)(H:Hp):V->PyData->Prop
 |aU:Rp K H .aU .none
 |bl (b:Bool):Rp K H (.bl b) (.bool b)
 |int (i:Int):Rp K H (.int i) (.int i)
 |str (x:Str):Rp K H (.str x) (.str x)
 |lst {a:Addr}{xs:List V}{ds:VB}:bM K H a xs->au K H xs ds->Rp K H (.ref a) (.list ds)
 |tup {a:Addr}{xs:List V}{ds:VB}:H a=some (.tup xs)->au K H xs ds->Rp K H (.ref a) (.tuple ds)
 |dk {a:Addr}{kvs:List (Key×V)}{ds:Uo}:H a=some (.dK kvs)->dJ K H kvs ds->Rp K H (.ref a) (.dict ds)
 |dt {a:Addr}{kvs:List (List Key×V)}{ds:Uo}:H a=some (.dT kvs)->dg K H kvs ds->Rp K H (.ref a) (.dict ((.none,.none)::ds))
 |exc {a C:Addr}{c:Str}:H a=some (.ext (lg a C none))->nsIn K mainGlobals c=some (some (.ref C))->Rp K H (.ref a) (.dict [(.none,.str c)])
inductive au(K:Frag)(H:Hp):List V->VB->Prop
 |nil:au K H [] []
 |cons {x:V}{d:PyData}{xs:List V}{ds:VB}:Rp K H x d->au K H xs ds->au K H (x::xs) (d::ds)
inductive dJ(K:Frag)(H:Hp):List (Key×V)->List (PyData×PyData)->Prop
 |nil:dJ K H [] []
 |cons {k:Key}{v:V}{d:PyData}{kvs:List (Key×V)}{ds:Uo}:Rp K H v d->dJ K H kvs ds->dJ K H ((k,v)::kvs) ((aY k,d)::ds)
inductive dg(K:Frag)(H:Hp):List (List Key×V)->List (PyData×PyData)->Prop
 |nil:dg K H [] []
 |cons {k:List Key}{v:V}{d:PyData}{kvs:List (List Key×V)}{ds:Uo}:Rp K H v d->dg K H kvs ds->dg K H ((k,v)::kvs) ((.tuple (k.map aY),d)::ds)
end
theorem Rp.mono(s:ah H H')(h:Rp K H v d):Rp K H' v d:=Rp.rec (motive_1:=λv d _=>Rp K H' v d) (motive_2:=λvs ds _=>au K H' vs ds) (motive_3:=λa b _=>dJ K H' a b) (motive_4:=λa b _=>dg K H' a b) .aU .bl .int .str (λh _ ih=>.lst (bM.mono s h) ih) (λh _ ih=>.tup (s _ _ h) ih) (λh _ ih=>.dk (s _ _ h) ih) (λh _ ih=>.dt (s _ _ h) ih) (λh n=>.exc (s _ _ h) n) .nil (λ_ _ a b=>.cons a b) .nil (λ_ _ a b=>.cons a b) .nil (λ_ _ a b=>.cons a b) h
theorem au.mono(s:ah H H')(h:au K H vs ds):au K H' vs ds:=by
 induction ds generalizing vs with
 |nil=>cases h;exact .nil
 |cons d ds ih=>cases h with|cons a b=>exact .cons (a.mono s) (ih b)
theorem dJ.mono(s:ah H H')(h:dJ K H kvs ds):dJ K H' kvs ds:=by
 induction kvs generalizing ds with
 |nil=>cases h;exact .nil
 |cons d kvs ih=>cases h with|cons a b=>exact .cons (a.mono s) (ih b)
theorem dg.mono(s:ah H H')(h:dg K H kvs ds):dg K H' kvs ds:=by
 induction kvs generalizing ds with
 |nil=>cases h;exact .nil
 |cons d kvs ih=>cases h with|cons a b=>exact .cons (a.mono s) (ih b)
noncomputable def nd:PyData->Bool
 |.list ds=>nds ds
 |.tuple ds=>nds ds
 |.dict _=>false
 |_=>true
where nds:VB->Bool
 |[]=>true
 |d::ds=>nd d&&nds ds
def Rp.tO(h:Rp K H v d):nd d=true->jE K H v d:=
 Rp.rec (motive_1:=λv d _=>nd d=true->jE K H v d) (motive_2:=λvs ds _=>nd.nds ds=true->nB K H vs ds) (motive_3:=λ_ _ _=>True) (motive_4:=λ_ _ _=>True)
  (λ_=>.aU) (λb _=>.bl b) (λi _=>.int i) (λx _=>.str x) (λh _ ih e=>.lst h.sq (ih (by rw[nd]at e;exact e))) (λh _ ih e=>.tup (bE.of h) (ih (by rw[nd]at e;exact e))) (λ_ _ _ e=>by rw[nd]at e;cases e) (λ_ _ _ e=>by rw[nd]at e;cases e) (λ_ _ e=>by rw[nd]at e;cases e)
  (λ_=>.nil) (λ_ _ a b e=>by rw[nd.nds,QA]at e;exact .cons (a e.1) (b e.2)) trivial (λ_ _ _ _=>trivial) trivial (λ_ _ _ _=>trivial) h
theorem au.tO(h:au K H vs ds):nd.nds ds=true->nB K H vs ds:=by
 induction ds generalizing vs with
 |nil=>cases h;exact λ_=>.nil
 |cons d ds ih=>
  cases h with
  |cons a b=>intro e;rw[nd.nds,QA]at e;exact .cons (a.tO e.1) (ih b e.2)
noncomputable def j7 (H H':Hp):Prop:=∀a xs,H a=some (.tup xs)->H' a=some (.tup xs)
theorem Rp.lf(s:j7 H H')(h:Rp K H v d):Dv.lf d=true->Rp K H' v d:=
 Rp.rec (motive_1:=λv d _=>Dv.lf d=true->Rp K H' v d) (motive_2:=λvs ds _=>Dv.lf.lfs ds=true->au K H' vs ds) (motive_3:=λ_ _ _=>True) (motive_4:=λ_ _ _=>True)
  (λ_=>.aU) (λb _=>.bl b) (λi _=>.int i) (λx _=>.str x) (λ_ _ _ e=>by rw[Dv.lf]at e;cases e) (λh _ ih e=>.tup (s _ _ h) (ih (by rw[Dv.lf]at e;exact e))) (λ_ _ _ e=>by rw[Dv.lf]at e;cases e) (λ_ _ _ e=>by rw[Dv.lf]at e;cases e) (λ_ _ e=>by rw[Dv.lf]at e;cases e)
  (λ_=>.nil) (λ_ _ a b e=>by rw[Dv.lf.lfs,QA]at e;exact .cons (a e.1) (b e.2)) trivial (λ_ _ _ _=>trivial) trivial (λ_ _ _ _=>trivial) h
theorem au.lf(s:j7 H H')(h:au K H vs ds):Dv.lf.lfs ds=true->au K H' vs ds:=by
 induction ds generalizing vs with
 |nil=>cases h;exact λ_=>.nil
 |cons d ds ih=>
  cases h with
  |cons a b=>intro e;rw[Dv.lf.lfs,QA]at e;exact .cons (a.lf s e.1) (ih b e.2)
section
variable{K:Frag}{H:Hp}
def au.len(h:au K H vs ds):vs.length=ds.length:=by
 induction ds generalizing vs with
 |nil=>cases h;rfl
 |cons d ds ih=>cases h with|cons a b=>exact congrArg (·+1) (ih b)
def au.get{i:Nat}(h:au K H vs ds)(e:ds[i]?=some d):∃v,vs[i]?=some v/\Rp K H v d:=by
 induction ds generalizing vs i with
 |nil=>cases e
 |cons d' ds ih=>
  cases h with
  |cons a b=>
   cases i with
   |zero=>cases e;exact⟨_,rfl,a⟩
   |succ i=>obtain⟨v,h1,h2⟩:=ih (i:=i) b (by simpa using e);exact⟨v,by simpa using h1,h2⟩
def au.OH{i:Nat}(h:au K H vs ds)(e:vs[i]?=some v):∃d,ds[i]?=some d/\Rp K H v d:=by
 induction ds generalizing vs i with
 |nil=>cases h;cases e
 |cons d' ds ih=>
  cases h with
  |cons a b=>
   cases i with
   |zero=>cases e;exact⟨_,rfl,a⟩
   |succ i=>obtain⟨d,h1,h2⟩:=ih (i:=i) b (by simpa using e);exact⟨d,by simpa using h1,h2⟩
def au.app(h:au K H vs ds)(s:au K H us es):au K H (vs++us) (ds++es):=by
 induction ds generalizing vs with
 |nil=>cases h;exact s
 |cons d ds ih=>cases h with|cons a b=>exact .cons a (ih b)
def au.snoc(r:au K H vs ds)(h:Rp K H v d):au K H (vs++[v]) (ds++[d]):=r.app (.cons h .nil)
theorem au.take(n:Nat)(h:au K H vs ds):au K H (vs.take n) (ds.take n):=by
 induction ds generalizing vs n with
 |nil=>cases h;cases n<;>exact .nil
 |cons d ds ih=>
  cases h with
  |cons a b=>
   cases n with
   |zero=>exact .nil
   |succ n=>exact .cons a (ih n b)
theorem au.drop(n:Nat)(h:au K H vs ds):au K H (vs.drop n) (ds.drop n):=by
 induction ds generalizing vs n with
 |nil=>cases h;cases n<;>exact .nil
 |cons d ds ih=>
  cases n with
  |zero=>exact h
  |succ n=>cases h with|cons a b=>exact ih n b
theorem au.set(h:Rp K H v d) (i:Nat)(r:au K H vs ds):au K H (vs.set i v) (ds.set i d):=by
 induction ds generalizing vs i with
 |nil=>cases r;exact .nil
 |cons d' ds ih=>
  cases r with
  |cons a b=>
   cases i with
   |zero=>exact .cons h b
   |succ i=>exact .cons a (ih i b)
def au.rev(h:au K H vs ds):au K H vs.reverse ds.reverse:=by
 induction ds generalizing vs with
 |nil=>cases h;exact .nil
 |cons d ds ih=>
  cases h with
  |cons a b=>rw[List.reverse_cons,List.reverse_cons];exact(ih b).snoc a
end
inductive dG(K:Frag)(H Hm:Hp):List V->VB->VE->Prop
 |nil:dG K H Hm [] [] []
 |jK {x:V}{d:PyData}{xs:List V}{ds:VB}{fp:VE}:yj d=false->Rp K Hm x d->dG K H Hm xs ds fp->dG K H Hm (x::xs) (d::ds) fp
 |own {b:Addr}{ys:List V}{es:VB}{xs:List V}{ds:VB}{fp:VE}:H b=some (.lst ys)->au K Hm ys es->b∉fp->dG K H Hm xs ds fp->dG K H Hm (.ref b::xs) (.list es::ds) (b::fp)
inductive qU(K:Frag)(H Hm:Hp):List (List Key×V)->List (PyData×PyData)->VE->Prop
 |nil:qU K H Hm [] [] []
 |own {k:List Key}{b:Addr}{ys:List V}{es:VB}{kvs:List (List Key×V)}{ds:Uo}{fp:VE}:H b=some (.lst ys)->au K Hm ys es->b∉fp->qU K H Hm kvs ds fp->qU K H Hm ((k,.ref b)::kvs) ((.tuple (k.map aY),.list es)::ds) (b::fp)
noncomputable def Ph (h:Heap)(a:Addr)(S:Int->Bool) (n:Nat):Prop:=∃o es ep t,h.get? a=some o/\o.ExactSet/\o.data=.set es ep t/\(∀e∈es.toList,(∃k,Value.isInt k e.2=true/\e.1=hashInt k)/\e.2.scannable=true)/\(∀k,S k=true↔∃e∈es.toList,Value.isInt k e.2=true)
 /\ es.size<scanBound/\t.fits es.size=true/\es.size=n
noncomputable def NP (a:Addr)(ns:VJ):HO:=.ext λh=>Ph h a (λk=>decide (k∈ns)) ns.length
noncomputable def Qa (ns:VJ):PyData:=.dict ((.none,.bool true)::ns.map λn=>(.int n,.none))
inductive Own(K:Frag)(H Hm:Hp):Kd->V->PyData->VE->Prop
 |sh {v:V}{d:PyData}:Rp K Hm v d->Own K H Hm .sh v d []
 |ow {p:Bool}{a:Addr}{xs:List V}{ds:VB}:H a=some (.lst xs)->au K Hm xs ds->Own K H Hm (.ow p) (.ref a) (.list ds) [a]
 |dp {p:Bool}{a:Addr}{xs:List V}{ds:VB}{fp:VE}:H a=some (.lst xs)->a∉fp->dG K H Hm xs ds fp->Own K H Hm (.dp p) (.ref a) (.list ds) (a::fp)
 |dk {p:Bool}{a:Addr}{kvs:List (Key×V)}{ds:Uo}:H a=some (.dK kvs)->dJ K Hm kvs ds->Own K H Hm (.dk p) (.ref a) (.dict ds) [a]
 |dt {p:Bool}{a:Addr}{kvs:List (List Key×V)}{ds:Uo}:H a=some (.dT kvs)->dg K Hm kvs ds->Own K H Hm (.dt p) (.ref a) (.dict ((.none,.none)::ds)) [a]
 |st {p:Bool}{a:Addr}{kvs:List (List Key×V)}{ds:Uo}{fp:VE}:H a=some (.dT kvs)->a∉fp->qU K H Hm kvs ds fp->Own K H Hm (.st p) (.ref a) (.dict ((.none,.none)::ds)) (a::fp)
 |is {p:Bool}{a:Addr}{ns:VJ}:H a=some (NP a ns)->Own K H Hm (.st p) (.ref a) (.dict ((.none,.bool true)::ns.map λn=>(.int n,.none))) [a]
section
variable{K:Frag}{H H' Hm Hm':Hp}
def dG.step(s:ah Hm Hm'){xs:List V}{ds:VB}{fp:VE}(i:dG K H Hm xs ds fp):(∀a∈fp,H' a=H a)->dG K H' Hm' xs ds fp:=by
 induction i with
 |nil=>exact λ_=>.nil
 |jK e r _ ih=>exact λh=>.jK e (r.mono s) (ih h)
 |own e r n _ ih=>exact λh=>.own ((h _ Q4).trans e) (r.mono s) n (ih λa ha=>h a (QB _ ha))
def dG.live(i:dG K H Hm xs ds fp):∀a∈fp,∃ys,H a=some (.lst ys):=by
 induction i with
 |nil=>exact λ_ h=>absurd h R9
 |jK _ _ _ ih=>exact ih
 |own e _ _ _ ih=>intro a h;rcases QG.mp h with rfl|h;{exact⟨_,e⟩};exact ih a h
def qU.step(s:ah Hm Hm'){xs:List (List Key×V)}{ds:Uo}{fp:VE}(i:qU K H Hm xs ds fp):(∀a∈fp,H' a=H a)->qU K H' Hm' xs ds fp:=by
 induction i with
 |nil=>exact λ_=>.nil
 |own e r n _ ih=>exact λh=>.own ((h _ Q4).trans e) (r.mono s) n (ih λa ha=>h a (QB _ ha))
def qU.live(i:qU K H Hm xs ds fp):∀a∈fp,∃ys,H a=some (.lst ys):=by
 induction i with
 |nil=>exact λ_ h=>absurd h R9
 |own e _ _ _ ih=>intro a h;rcases QG.mp h with rfl|h;{exact⟨_,e⟩};exact ih a h
theorem Own.step{k:Kd}{v:V}{d:PyData}{fp:VE}(o:Own K H Hm k v d fp)(s:ah Hm Hm')(h:∀a∈fp,H' a=H a):Own K H' Hm' k v d fp:=by
 cases o with
 |sh r=>exact .sh (r.mono s)
 |ow e r=>exact .ow ((h _ Q4).trans e) (r.mono s)
 |dp e n t=>exact .dp ((h _ Q4).trans e) n (t.step s λa ha=>h a (QB _ ha))
 |dk e r=>exact .dk ((h _ Q4).trans e) (r.mono s)
 |dt e r=>exact .dt ((h _ Q4).trans e) (r.mono s)
 |st e n t=>exact .st ((h _ Q4).trans e) n (t.step s λa ha=>h a (QB _ ha))
 |is e=>exact .is ((h _ Q4).trans e)
noncomputable def nC (u:HO):Prop:=∀xs,u≠.tup xs
def j9:nC (.lst xs):=λ_ z=>by cases z
def tK:nC (.dK xs):=λ_ z=>by cases z
def qS:nC (.dT xs):=λ_ z=>by cases z
def PK:nC (NP a ns):=λ_ z=>by cases z
theorem Own.live(o:Own K H Hm k v d fp):∀a∈fp,∃u,H a=some u/\nC u:=by
 intro a ha;cases o with
 |sh _=>cases ha
 |ow e _=>rw[Q8.mp ha];exact⟨_,e,by first|exact j9|exact tK|exact qS⟩
 |dp e _ t=>rcases QG.mp ha with rfl|ha;{exact⟨_,e,by first|exact j9|exact tK|exact qS⟩};obtain⟨ys,e⟩:=t.live a ha;exact⟨_,e,by first|exact j9|exact tK|exact qS⟩
 |dk e _=>rw[Q8.mp ha];exact⟨_,e,by first|exact j9|exact tK|exact qS⟩
 |dt e _=>rw[Q8.mp ha];exact⟨_,e,by first|exact j9|exact tK|exact qS⟩
 |is e=>rw[Q8.mp ha];exact⟨_,e,PK⟩
 |st e _ t=>rcases QG.mp ha with rfl|ha;{exact⟨_,e,by first|exact j9|exact tK|exact qS⟩};obtain⟨ys,e⟩:=t.live a ha;exact⟨_,e,by first|exact j9|exact tK|exact qS⟩
def dG.P5(s:ah Hm Hm')(i:dG K H Hm xs ds fp):(∀a∈fp,Hm' a=H a)->au K Hm' xs ds:=by
 induction i with
 |nil=>exact λ_=>.nil
 |jK _ r _ ih=>exact λh=>.cons (r.mono s) (ih h)
 |own e r _ _ ih=>exact λh=>.cons (.lst (.inl (.inl ((h _ Q4).trans e))) (r.mono s)) (ih λa ha=>h a (QB _ ha))
def Own.rp(o:Own K H Hm k v d fp)(hk:k.rd=true)(s:ah Hm Hm')(h:∀a∈fp,Hm' a=H a):Rp K Hm' v d:=by
 cases o with
 |sh r=>exact r.mono s
 |ow e r=>exact .lst (.inl (.inl ((h _ Q4).trans e))) (r.mono s)
 |dp e _ t=>exact .lst (.inl (.inl ((h _ Q4).trans e))) (t.P5 s λa ha=>h a (QB _ ha))
 |dk e r=>exact .dk ((h _ Q4).trans e) (r.mono s)
 |dt e r=>exact .dt ((h _ Q4).trans e) (r.mono s)
 |st _ _ _=>cases hk
 |is _=>cases hk
def au.wc(s:j7 Hm Hm')(r:au K Hm xs ds)(h:ds.all Dv.lf=true):au K Hm' xs ds:=r.lf s (by rw[se];exact h)
def dG.flat(s:j7 Hm Hm')(i:dG K H Hm xs ds fp):(ds.all λd=>match d with | .list es=>es.all Dv.lf|d=>Dv.lf d)=true->dG K H Hm' xs ds fp:=by
 induction i with
 |nil=>exact λ_=>.nil
 |@jK x d xs ds fp e r t ih=>intro h;rw[QH,QA]at h;refine .jK e (r.lf s ?_) (ih h.2);have h1:=h.1;cases d<;>first|exact h1|cases e
 |own e r n t ih=>intro h;rw[QH,QA]at h;exact .own e (r.wc s h.1) n (ih h.2)
def dJ.flat(s:j7 Hm Hm')(r:dJ K Hm kvs ds)(h:(ds.all λkv=>Dv.lf kv.2)=true):dJ K Hm' kvs ds:=by
 induction kvs generalizing ds with
 |nil=>cases r;exact .nil
 |cons kv kvs ih=>
  cases r with
  |cons a b=>rw[QH,QA]at h;exact .cons (a.lf s h.1) (ih b h.2)
def dg.flat(s:j7 Hm Hm')(r:dg K Hm kvs ds)(h:(ds.all λkv=>Dv.lf kv.2)=true):dg K Hm' kvs ds:=by
 induction kvs generalizing ds with
 |nil=>cases r;exact .nil
 |cons kv kvs ih=>
  cases r with
  |cons a b=>rw[QH,QA]at h;exact .cons (a.lf s h.1) (ih b h.2)
theorem Own.flat(o:Own K H Hm k v d fp)(s:j7 Hm Hm')(h:Dv.flat k d=true):Own K H Hm' k v d fp:=by
 cases o with
 |sh r=>exact .sh (r.lf s h)
 |ow e r=>exact .ow e (r.wc s h)
 |dp e n t=>exact .dp e n (t.flat s h)
 |dk e r=>exact .dk e (r.flat s h)
 |dt e r=>have h:(Dv.lf .none&&_)=true:=h;rw[QA]at h;exact .dt e (r.flat s h.2)
 |st _ _ _=>cases h
 |is _=>cases h
end
noncomputable def OE (o p:Option HO):Prop:=o=p\/(p=none/\∃xs,o=some (.tup xs))
def OE.rfl':OE o o:=.inl rfl
def OE.trans(h:OE a b)(k:OE b c):OE a c:=by rcases h with rfl|⟨rfl,h⟩;{exact k};rcases k with rfl|⟨rfl,_⟩;{exact .inr ⟨rfl,h⟩};exact .inr ⟨rfl,h⟩
def OE.off{a:Addr}(h:OE (Hm a) p)(hp:p=none)(s:ah Hm H)(hu:H a=some u)(nt:nC u):Hm a=none:=by rcases h with e|⟨_,xs,e⟩;{rw[e,hp]};have:=s _ _ e;rw[hu]at this;cases this;exact absurd rfl (nt xs)
structure Gh where
 H0:Hp
 c9:Hp
 pins:List (Nat×Addr)
noncomputable def Gh.M (g:Gh):VE:=g.pins.map (·.2)
structure Rl(K:Frag)(g:Gh)(E:En)(U:St)(H Hm:Hp)(F:Nat->VE):Prop where
 len:E.length=U.length
 sub:ah Hm H
 slot:∀i k d,E[i]?=some (some (k,d))->∃v,U[i]?=some (some v)/\Own K H Hm k v d (F i)
 off:∀i a,a∈F i->Hm a=none
 aT:∀i a,a∈F i->∃u,H a=some u/\nC u
 aD:∀i j a,a∈F i->a∈F j->i=j
 fr:∀p o,p∉g.M->g.H0 p=some o->H p=some o
 new:∀i a,a∈F i->a∈g.M\/g.H0 a=none
 pin:∀q∈g.pins,U[q.1]?=some (some (.ref q.2))/\∃ds,E[q.1]?=some (some (.ow true,.list ds))
 old:∀a,g.H0 a≠none->OE (Hm a) (g.c9 a)
structure Tm(K:Frag)(g:Gh)(F:Nat->VE)(H Hm:Hp)(k:Kd) (v:V)(d:PyData)(fp:VE):Prop where
 own:Own K H Hm k v d fp
 off:∀a∈fp,Hm a=none
 aD:∀a∈fp,∀i,a∉F i
 new:∀a∈fp,g.H0 a=none
section
variable{K:Frag}{g:Gh}{E:En}{U:St}{H H' Hm Hm':Hp}{F:Nat->VE}
def Rl.grow(R:Rl K g E U H Hm F)(h:ah H H')(s:ah Hm Hm')(b:ah Hm' H')(o:∀i a,a∈F i->Hm' a=none)(od:∀a,g.H0 a≠none->OE (Hm' a) (Hm a)):Rl K g E U H' Hm' F where
 len:=R.len
 sub:=b
 slot:=λi k d e=>by
  obtain⟨v,h1,h2⟩:=R.slot i k d e;refine⟨v,h1,h2.step s λa ha=>?_⟩
  obtain⟨u,hu,_⟩:=h2.live a ha;rw[hu];exact h _ _ hu
 off:=o
 aT:=λi a ha=>let⟨u,hu,n⟩:=R.aT i a ha;⟨u,h _ _ hu,n⟩
 aD:=R.aD
 fr:=λp o hp ho=>h _ _ (R.fr p o hp ho)
 new:=R.new
 pin:=R.pin
 old:=λa ha=>(od a ha).trans (R.old a ha)
def Rl.more(R:Rl K g E U H Hm F)(s:ah Hm Hm')(b:ah Hm' H)(o:∀i a,a∈F i->Hm' a=none)(od:∀a,g.H0 a≠none->OE (Hm' a) (Hm a)):Rl K g E U H Hm' F:=R.grow (ah.refl _) s b o od
def Rl.wU(R:Rl K g E U H Hm F)(hq:q∈g.pins):F q.1=[q.2]:=by obtain⟨h1,ds,h2⟩:=R.pin q hq;obtain⟨v,h3,h4⟩:=R.slot _ _ _ h2;rw[h1]at h3;cases h3;generalize F q.1=fi at h4;cases h4;rfl
def Rl.notM(R:Rl K g E U H Hm F){i:Nat}(e:E[i]?=some (some (k,d)))(hk:k.pin=false){a:Addr}(ha:a∈F i):g.H0 a=none:=by rcases R.new i a ha with m|m;{obtain⟨q,hq,rfl⟩:=Q9.mp m;have:=R.aD i q.1 q.2 ha (by rw[R.wU hq];exact Q4);obtain⟨_,ds,h2⟩:=R.pin q hq;rw[<-this,e]at h2;cases h2;cases hk};exact m
def Rl.M0(R:Rl K g E U H Hm F){a:Addr}(ha:a∈g.M):H a≠none:=λz=>by obtain⟨q,hq,rfl⟩:=Q9.mp ha;obtain⟨u,hu,_⟩:=R.aT q.1 q.2 (by rw[R.wU hq];exact Q4);rw[z]at hu;cases hu
def Rl.oz(R:Rl K g E U H Hm F){a:Addr}(ha:g.H0 a≠none):H a≠none:=λz=>by
 by_cases m:a∈g.M;{exact R.M0 m z};cases e:g.H0 a with
 |none=>exact ha e
 |some o=>rw[R.fr a o m e]at z;cases z
def Rl.fresh(R:Rl K g E U H Hm F){p:Addr}(h:H p=none){i:Nat}:p∉F i:=λz=>by obtain⟨u,hu,_⟩:=R.aT i p z;rw[h]at hu;cases hu
def Rl.q8(R:Rl K g E U H Hm F){p:Addr}(h:H p=none):Hm p=none:=by
 cases e:Hm p with
 |none=>rfl
 |some o=>rw[R.sub _ _ e]at h;cases h
def Rl.eL(R:Rl K g E U H Hm F){p:Addr}(h:H p=none):g.H0 p=none:=by
 cases e:g.H0 p with
 |none=>rfl
 |some o=>exact absurd h (R.oz (by rw[e];simp))
end
open Classical in
noncomputable def lend (Hm H:Hp)(fp:VE):Hp:=λa=>if a∈fp then H a else Hm a
open Classical in
noncomputable def back (Hm:Hp)(fp:VE):Hp:=λa=>if a∈fp then none else Hm a
section
variable{Hm H:Hp}{fp:VE}{a:Addr}
def dW(h:a∈fp):lend Hm H fp a=H a:=by unfold lend;rw[if_pos h]
def b7(h:a∉fp):lend Hm H fp a=Hm a:=by unfold lend;rw[if_neg h]
def ig(h:a∈fp):back Hm fp a=none:=by unfold back;rw[if_pos h]
def cH(h:a∉fp):back Hm fp a=Hm a:=by unfold back;rw[if_neg h]
def gu(n:∀a∈fp,Hm a=none):ah Hm (lend Hm H fp):=λb o e=>by
 have:b∉fp:=λz=>by rw[n b z]at e;cases e
 rw[b7 this];exact e
def gY(s:ah Hm H):ah (lend Hm H fp) H:=λb o e=>by by_cases h:b∈fp;{rw[dW h]at e;exact e};rw[b7 h]at e;exact s _ _ e
def uO(s:ah Hm H):ah (back Hm fp) H:=λb o e=>by by_cases h:b∈fp;{rw[ig h]at e;cases e};rw[cH h]at e;exact s _ _ e
end
section
variable{K:Frag}{g:Gh}{E:En}{U:St}{H H' Hm Hm':Hp}{F:Nat->VE}{k:Kd}{v:V}{d:PyData}{fp:VE}
def Tm.dI(T:Tm K g F H Hm k v d fp)(R:Rl K g E U H Hm F)(hk:k.fz=true):∃Hm',ah Hm Hm'/\Rl K g E U H Hm' F/\Rp K Hm' v d:=by have up:=gu (Hm:=Hm) (H:=H) T.off;refine⟨lend Hm H fp,up,R.more up (gY R.sub) (λi a ha=>?_) λa ha=>.inl (b7 λz=>ha (T.new a z)),T.own.rp (by cases k<;>first|rfl|cases hk) up λa ha=>dW ha⟩;rw[b7 λz=>T.aD a z i ha];exact R.off i a ha
def aB{α:Type}{l:List α}{i:Nat}{a:α}(h:i<l.length):(l.set i a)[i]?=some a:=by rw[RS];simp[h]
def aj{α:Type}{l:List α}{i j:Nat}{a:α}(h:i≠j):(l.set i a)[j]?=l[j]?:=by rw[RS];simp[h]
def Rl.put(R:Rl K g E U H Hm F)(T:Tm K g F H Hm k v d fp){i:Nat}(o:bx E i=true):Rl K g (E.set i (some (k,d))) (U.set i (some v)) H Hm (λj=>if j=i then fp else F j) where
 len:=by rw[QX,QX];exact R.len
 sub:=R.sub
 slot:=λj k' d' e=>by
  by_cases c:j=i
  .subst c;have hl:j<E.length:=by
    rcases Qy j E.length with h|h
    .exact h
    .rw[Qc (by rw[QX];exact h)]at e;cases e
   rw[aB hl]at e;cases e;exact⟨v,aB (R.len▸hl),by rw[if_pos rfl];exact T.own⟩
  .rw[aj (Ne.symm c)]at e;obtain⟨u,h1,h2⟩:=R.slot j k' d' e;exact⟨u,by rw[aj (Ne.symm c)];exact h1,by rw[if_neg c];exact h2⟩
 off:=λj a ha=>by
  by_cases c:j=i
  .rw[if_pos c]at ha;exact T.off a ha
  .rw[if_neg c]at ha;exact R.off j a ha
 aT:=λj a ha=>by
  by_cases c:j=i
  .rw[if_pos c]at ha;exact T.own.live a ha
  .rw[if_neg c]at ha;exact R.aT j a ha
 aD:=λj l a h1 h2=>by
  by_cases c:j=i
  .rw[if_pos c]at h1
   by_cases c':l=i
   .rw[c,c']
   .rw[if_neg c']at h2;exact absurd h2 (T.aD a h1 l)
  .rw[if_neg c]at h1
   by_cases c':l=i
   .rw[if_pos c']at h2;exact absurd h1 (T.aD a h2 j)
   .rw[if_neg c']at h2;exact R.aD j l a h1 h2
 fr:=R.fr
 new:=λj a ha=>by
  by_cases c:j=i
  .rw[if_pos c]at ha;exact .inr (T.new a ha)
  .rw[if_neg c]at ha;exact R.new j a ha
 pin:=λq hq=>by
  obtain⟨h1,ds,h2⟩:=R.pin q hq;have c:i≠q.1:=λz=>by
   unfold bx at o;rw[z,h2]at o;cases o
  exact⟨by rw[aj c];exact h1,ds,by rw[aj c];exact h2⟩
 old:=R.old
theorem Tm.sh(h:Rp K Hm v d):Tm K g F H Hm .sh v d []:=⟨.sh h,(λ_ z=>by cases z),(λ_ z=>by cases z),λ_ z=>by cases z⟩
def Rl.chg(R:Rl K g E U H Hm F){i:Nat}{p:Bool}{ds es:VB}{ys:List V}(e:E[i]?=some (some (.ow p,.list ds)))(r:au K Hm ys es):∃a xs,U[i]?=some (some (.ref a))/\H a=some (.lst xs)/\au K Hm xs ds/\Hm a=none/\Rl K g (E.set i (some (.ow p,.list es))) U (upd H a (.lst ys)) Hm F:=by
 obtain⟨v,h1,h2⟩:=R.slot i _ _ e;generalize hf:F i=fi at h2;cases h2 with
 |@ow _ a xs _ ha hr=>
  have ma:a∈F i:=by rw[hf];exact Q4
  have na:=R.off i a ma;have up:∀b,b≠a->upd H a (.lst ys) b=H b:=λb hb=>ai hb;have li:i<E.length:=by rcases Qy i E.length with h|h;{exact h};rw[Qc h]at e;cases e
  refine⟨a,xs,h1,ha,hr,na,?_⟩;exact {
   len:=by rw[QX];exact R.len
   sub:=λb o hb=>by
    have:b≠a:=λz=>by rw[z,na]at hb;cases hb
    rw[up b this];exact R.sub b o hb
   slot:=λj k' d' e'=>by
    by_cases c:j=i
    .subst c;rw[aB li]at e';cases e';exact⟨_,h1,by rw[hf];exact .ow ay r⟩
    .rw[aj (Ne.symm c)]at e';obtain⟨u,g1,g2⟩:=R.slot j k' d' e';refine⟨u,g1,g2.step (ah.refl _) λb hb=>up b λz=>c (R.aD j i a (z▸hb) ma)⟩
   off:=R.off
   aT:=λj b hb=>by
    by_cases c:b=a
    .rw[c];exact⟨_,ay,j9⟩
    .rw[up b c];exact R.aT j b hb
   aD:=R.aD
   fr:=λq o hq ho=>by
    have:q≠a:=λz=>by
     rcases R.new i a ma with y|y
     .exact hq (z▸y)
     .rw[z,y]at ho;cases ho
    rw[up q this];exact R.fr q o hq ho
   new:=R.new
   pin:=λq hq=>by
    obtain⟨g1,ds',g2⟩:=R.pin q hq
    by_cases c:i=q.1
    .rw[<-c]at g1 g2⊢;rw[e]at g2;cases g2;exact⟨g1,es,aB li⟩
    .exact⟨g1,ds',by rw[aj c];exact g2⟩
   old:=R.old }
theorem Rl.cM(R:Rl K g E U H Hm F){i:Nat}{E':En}{d:PyData}{k:Kd}(e:E[i]?=some (some (k,d)))(h:Dv.cM E i=some E'):∃v Hm' F',U[i]?=some (some v)/\ah Hm Hm'/\Rl K g E' U H Hm' F'/\Rp K Hm' v d:=by
 unfold Dv.cM at h;rw[e]at h;have h:(if k.fz=true then some (E.set i (some (.sh,d)))else none)=some E':=h;by_cases hk:k.fz=true
 .rw[if_pos hk]at h;cases h;obtain⟨v,h1,h2⟩:=R.slot i k d e;have up:=gu (Hm:=Hm) (H:=H) (fp:=F i) (R.off i);have rp:=h2.rp (by cases k<;>first|rfl|cases hk) up λa ha=>dW ha;have li:i<E.length:=by rcases Qy i E.length with h|h;{exact h};rw[Qc h]at e;cases e
  refine⟨v,lend Hm H (F i),λj=>if j=i then []else F j,h1,up,?_,rp⟩;exact {
   len:=by rw[QX];exact R.len
   sub:=gY R.sub
   slot:=λj k' d' e'=>by
    by_cases c:j=i
    .subst c;rw[aB li]at e';cases e';exact⟨v,h1,by rw[if_pos rfl];exact .sh rp⟩
    .rw[aj (Ne.symm c)]at e';obtain⟨u,g1,g2⟩:=R.slot j k' d' e';exact⟨u,g1,by rw[if_neg c];exact g2.step up λ_ _=>rfl⟩
   off:=λj a ha=>by
    by_cases c:j=i
    .rw[if_pos c]at ha;cases ha
    .rw[if_neg c]at ha;rw[b7 λz=>c (R.aD j i a ha z)]
     exact R.off j a ha
   aT:=λj a ha=>by
    by_cases c:j=i
    .rw[if_pos c]at ha;cases ha
    .rw[if_neg c]at ha;exact R.aT j a ha
   aD:=λj l a g1 g2=>by
    by_cases c:j=i
    .rw[if_pos c]at g1;cases g1
    .rw[if_neg c]at g1
     by_cases c':l=i
     .rw[if_pos c']at g2;cases g2
     .rw[if_neg c']at g2;exact R.aD j l a g1 g2
   fr:=R.fr
   new:=λj a ha=>by
    by_cases c:j=i
    .rw[if_pos c]at ha;cases ha
    .rw[if_neg c]at ha;exact R.new j a ha
   pin:=λq hq=>by
    obtain⟨g1,ds',g2⟩:=R.pin q hq;have c:i≠q.1:=λz=>by
     rw[<-z,e]at g2;cases g2;cases hk
    exact⟨g1,ds',by rw[aj c];exact g2⟩
   old:=λa ha=>by
    rw[b7 λz=>ha (R.notM e (by cases k<;>first|rfl|(rename_i p;cases p<;>first|rfl|cases hk)|cases hk) z)]
    exact R.old a ha }
 rw[if_neg hk]at h;cases h
end
end Dv
namespace L2
open PySem PySem.Spec PyProof.Rows
noncomputable def j5 (h:Heap)(e C T:Addr)(dd:VC):Prop:=
 ∃(t0:Addr)(v2 v3 v4 v5:Value)(sl:Up)(oT:Obj)(ts:VA),h.get? e=some ⟨.ref C,dd,.fields #[.ref t0,.ref T,v2,v3,v4,v5],sl⟩/\T≠e/\h.get? T=some oT/\oT.data=.fields ts/\ts[3]?=some .none
structure Way(fs:VE)(e T:Addr)(h h':Heap):Prop where
 keep:∀b o,b≠e->b≠T->b∉fs->h.get? b=some o->h'.get? b=some o
 slot:∀b o,b≠e->b≠T->h.get? b=some o->∃sl,h'.get? b=some { o with slots:=sl }
section
variable{M:Model}{A:Around}{E:Uq}{s:Shared}
def tW{L e C t0 T0:Addr}{hadNext:Bool}(hfr:A.frames=some (env::outer))(hl:s.heap.FunFrames base (env::outer))(hf:env.frame=some L)(he:s.heap.get? e=some ⟨.ref C,dd,.fields #[.ref t0,w1,v2,v3,v4,v5],sl0⟩)(q:∀h' T,s.heap.get? T=none->Way (frs (env::outer)) e T s.heap h'->j5 h' e C T dd->Q () { s with heap:=h' }) :
  wpAny M A (do let a <-frameOf env;let pl <-entryPlaceOf L hadNext;let b <-EntryCells.newEntry head a .none (rawInt L) .none pl;setField (.ref e) 1 b) (λ_ s'=>wpAny M A (setFlight (.ref e) none) Q E s') E s:=by
 have ene:e∉frs (env::outer):=λhm=>by obtain⟨_,o,ho,hnf⟩:=hl.mem hm;rw[he]at ho;cases ho;exact hnf _ rfl
 refine Q0 (wpAny_frameOf_fun hfr hl hf λh1 hs1=>Q0 (wpAny_entryPlaceOf λpl hpl=>?_))
 unfold EntryCells.newEntry newFields;refine Q0 (RX ?_ (hpl.sizeOk5 _ _ _ _ _));have he1:h1.get? e=some ⟨.ref C,dd,.fields #[.ref t0,w1,v2,v3,v4,v5],sl0⟩:=(hs1.2.1 e ene).trans he;generalize hO:({ cls:=.type "traceback",dict:=none,data:=.fields ([head,.ref L,.none,rawInt L,.none]++(if pl.isEmpty then List.replicate 6 Value.none else pl)).toArray }:Obj)=oT
 have he2:=QU (h:=h1) oT he1;refine T5 he2 rfl (by show 1<6;decide) ?_
 have ne:h1.objs.size≠e:=SV (QD he1);have hdT:oT.data=.fields ([head,.ref L,.none,rawInt L,.none]++(if pl.isEmpty then List.replicate 6 Value.none else pl)).toArray:=by rw[<-hO]
 have fr:oT.isFreed=false:=by rw[<-hO];rfl
 have he3:((h1.push oT).update e (Obj.mapFields (·.setIfInBounds 1 (Value.ref h1.objs.size)))).get? e=some ⟨.ref C,dd,.fields #[.ref t0,.ref h1.objs.size,v2,v3,v4,v5],sl0⟩:=SY _ he2 rfl;have hT3:((h1.push oT).update e (Obj.mapFields (·.setIfInBounds 1 (Value.ref h1.objs.size)))).get? h1.objs.size=some oT:=(RP _ _ (Ne.symm ne)).trans (Qn h1 fr);unfold setFlight;refine Q0 (Rt he3 rfl (x:=.ref h1.objs.size) rfl ?_);rw[if_pos (show(Value.ref h1.objs.size != Value.none)=true by simp)]
 have sz:s.heap.objs.size=h1.objs.size:=hs1.1.symm;refine T5 hT3 hdT (by simp only[QI,QE,QJ,Qu]<;>lia) (q _ h1.objs.size ?_ ⟨λb o b1 b2 b3 hb=>?_,λb o b1 b2 hb=>?_⟩ ?_)
 .exact UJ (T7 sz)
 .have hb1:h1.get? b=some o:=(hs1.2.1 b b3).trans hb;rw[RP _ _ (Ne.symm b2),RP _ _ (Ne.symm b1)];exact QU _ hb1
 .obtain⟨sl,hb1⟩:=hs1.2.2 b o hb;refine⟨sl,?_⟩;rw[RP _ _ (Ne.symm b2),RP _ _ (Ne.symm b1)];exact QU _ hb1
 .have dt:=To hdT (·.setIfInBounds 3 ((none:VC).elim Value.none λf=>rawInt f))
  refine⟨t0,v2,v3,v4,v5,sl0,_,_,?_,ne,SY _ hT3 (UR dt),dt,?_⟩
  .rw[RP _ _ ne];exact he3
  .first|(simp;done)|(rcases hpl with rfl|⟨_,_,_,_,_,_,_,rfl⟩<;>simp)
def leave_new{L e C t0:Addr}(hfr:A.frames=some (env::outer))(hl:s.heap.FunFrames base (env::outer))(hf:env.frame=some L)(he:s.heap.get? e=some ⟨.ref C,dd,.fields #[.ref t0,.none,v2,v3,v4,v5],sl0⟩)(q:∀h' T,s.heap.get? T=none->Way (frs (env::outer)) e T s.heap h'->j5 h' e C T dd->Q () { s with heap:=h' }):wpAny M A (leaving env (.ref e)) Q E s:=by unfold leaving noteFrame;simp only[hf];refine Q0 (Q0 (Rt he rfl (x:=.none) rfl ?_));rw[if_neg (show ¬((Value.none != Value.none)=true)by decide)];exact tW (T0:=e) hfr hl hf he q
def D9{L e C T:Addr}(hfr:A.frames=some (env::outer))(hl:s.heap.FunFrames base (env::outer))(hf:env.frame=some L)(ho:j5 s.heap e C T dd)(q:∀h' T2,s.heap.get? T2=none->(∀b o,b≠e->b≠T->b≠T2->b∉frs (env::outer)->s.heap.get? b=some o->h'.get? b=some o)->(∀b o,b≠e->b≠T->b≠T2->s.heap.get? b=some o->∃sl,h'.get? b=some { o with slots:=sl })->j5 h' e C T2 dd->Q () { s with heap:=h' }):wpAny M A (leaving env (.ref e)) Q E s:=by
 obtain⟨t0,v2,v3,v4,v5,sl0,oT,ts,he,hTe,hT,hdT,h3⟩:=ho;unfold leaving noteFrame;simp only[hf];refine Q0 (Q0 (Rt he rfl (x:=.ref T) rfl ?_));rw[if_pos (show(Value.ref T != Value.none)=true by simp)];refine Q0 (Rt hT hdT h3 ?_);rw[if_neg (show ¬((Value.none==rawInt L)=true)by simp[rawInt])];refine Q0 (T5 hT hdT (Tp.mp h3).1 ?_);have other:∀b,b≠T->(s.heap.update T (Obj.mapFields (·.setIfInBounds 3 Value.none))).get? b=s.heap.get? b:=λb hb=>RP _ _ (Ne.symm hb);have noRec:∀b o,s.heap.get? b=some o->(∀vs,o.data≠.fields vs)->b≠T:=λb o hb hnf z=>by rw[z,hT]at hb;cases hb;exact hnf ts hdT
 refine tW (s:={ s with heap:=s.heap.update T (Obj.mapFields (·.setIfInBounds 3 Value.none)) }) (T0:=T) hfr (hl.of_keeps λb o hb hnf=>⟨o,(other b (noRec b o hb hnf)).trans hb,rfl⟩) hf ((other e (Ne.symm hTe)).trans he) λh' T2 n2 W O=>?_;have n2':s.heap.get? T2=none:=by
  cases c:s.heap.get? T2 with
  |none=>rfl
  |some o=>exfalso;by_cases z:T2=T;{subst z;rw[SY _ hT (UR (To hdT _))]at n2;cases n2};rw[show({ s with heap:=s.heap.update T (Obj.mapFields (·.setIfInBounds 3 Value.none)) }:Shared).heap.get? T2=s.heap.get? T2 from other T2 z,c]at n2;cases n2
 exact q h' T2 n2' (λb o b1 b2 b3 b4 hb=>W.keep b o b1 b3 b4 ((other b b2).trans hb)) (λb o b1 b2 b3 hb=>W.slot b o b1 b3 ((other b b2).trans hb)) O
end
end L2
namespace L2
open PySem PySem.Spec PyProof.Rows PySem.W
noncomputable def dY (P:Program)(w:World):kF:=λouter H s E e s'=>
 ∃a C T dd H',e=.ref a/\s'.os=s.os/\AllBare s'.gens/\Un (frs outer) [] H H' s.heap s'.heap/\cK P w H' s'.heap/\j5 s'.heap a C T dd/\s.heap.get? T=none/\H' T=none/\s.heap.get? a=none/\H' a=some (.ext (lg a C dd))/\E (.ref C) (some a) H'
def j5.PZ{e C T:Addr}(o:j5 h e C T dd):lg e C dd h:=by obtain⟨t0,v2,v3,v4,v5,sl,_,_,he,_⟩:=o;exact⟨t0,_,v2,v3,v4,v5,sl,he⟩
def HP{P:Program}{w:World}{H:Hp}{h h':Heap}{a C:Addr}{dd:VC}{fs:VE}{N:Addr->Prop}(ok:cK P w H h)(ha:H a=some (.ext (lg a C dd)))(hN:∀b,N b->H b=none)(hf:∀b∈fs,H b=none)(k:∀b o,b≠a->¬N b->b∉fs->h.get? b=some o->h'.get? b=some o)(x:lg a C dd h'):cK P w H h':=λb u e=>by by_cases z:b=a;{subst z;rw[ha]at e;cases e;exact Df x};have nn:∀c v,H c=some v->¬N c/\c∉fs:=λc v q=>⟨λy=>(by rw[hN c y]at q;cases q),λy=>(by rw[hf c y]at q;cases q)⟩;refine(ok b u e).stay (λc v hc r=>k c v ?_ ?_ ?_ r) (λc r=>r) λc xs r=>r;{rcases hc with y|y;{rw[y];exact z};intro q;rw[q,ha]at y;cases y};{rcases hc with y|y;{rw[y];exact(nn b u e).1};exact(nn c _ y).1};rcases hc with y|y;{rw[y];exact(nn b u e).2};exact(nn c _ y).2
section
variable{CX:kF}{P:Program}{w:World}{K:Frag}{mg:Us}{base:Heap}{N:VL}{qual:Str}{scope:Scope}{f:Addr}{cd:Value}{A:Around}{outer:List Env}{s0:Shared}{H0:Hp}{E:XK}
def zq{pins:Ut}{U:St}{H:Hp}{s:Shared}{a C T:Addr}{dd:VC}{h':Heap}{Nw:Addr->Prop}(I:Inv (fF CX P w K mg base N qual scope f cd A outer s0 H0 E) pins U H s)(ha:H a=some (.ext (lg a C dd)))(na:s0.heap.get? a=none)(hN:∀b,Nw b->H b=none)(hN0:∀b,Nw b->s0.heap.get? b=none)(hT:Nw T)(k:∀b o,b≠a->¬Nw b->b∉frs (envOfC qual scope s0.heap.objs.size f cd::outer)->s.heap.get? b=some o->h'.get? b=some o)(sl:∀b o,b≠a->¬Nw b->s.heap.get? b=some o->∃sl,h'.get? b=some { o with slots:=sl })(O:j5 h' a C T dd)(q:E (.ref C) (some a) H):dY P w outer H0 s0 E (.ref a) { s with heap:=h' }:=by
 have B:Un (frs outer) [] H0 H s0.heap s.heap:=I.base;have old:∀b o,s0.heap.get? b=some o->b≠a/\¬Nw b:=λb o e=>⟨(λz=>by rw[z,na]at e;cases e),λz=>by rw[hN0 b z]at e;cases e⟩;have notloc:∀b o,s0.heap.get? b=some o->b∉frs outer->b∉frs (envOfC qual scope s0.heap.objs.size f cd::outer):=λb o e nb z=>by
  have z2:b∈(envOfC qual scope s0.heap.objs.size f cd).frame.toList++frs outer:=by have:frs (envOfC qual scope s0.heap.objs.size f cd::outer)=s0.heap.objs.size::frs outer:=rfl;rw[this]at z;exact z
  rcases QL.mp z2 with y|y
  .have y:some s0.heap.objs.size=some b:=by
    have y0:(envOfC qual scope s0.heap.objs.size f cd).frame=some b:=by simpa using y
    exact y0
   have y:s0.heap.objs.size=b:=Option.some.inj y;exact absurd (QD e) (by rw[<-y];exact Qx _)
  exact nb y
 refine⟨a,C,T,dd,H,rfl,I.os,I.bare,⟨λb o e n nf nx=>?_,λb o e n nf nx=>?_,λb o e n nx=>B.free b o e n nx,λb o e nx=>?_,B.tups,B.jG,B.kU⟩,?_,O,hN0 T hT,hN T hT,na,ha,q⟩;{exact k b o (old b o e).1 (old b o e).2 (notloc b o e nf) (B.keep b o e n nf nx)};{obtain⟨sl1,e1⟩:=B.slot b o e n nf nx;obtain⟨sl2,e2⟩:=sl b _ (old b o e).1 (old b o e).2 e1;exact⟨sl2,e2⟩};{obtain⟨o1,e1⟩:=B.there b o e nx;obtain⟨sl2,e2⟩:=sl b _ (old b o e).1 (old b o e).2 e1;exact⟨_,e2⟩};exact HP I.hok ha hN (I.rY) (λb o b1 b2 b3 e=>k b o b1 b2 b3 e) O.PZ
def JQ{a C t0:Addr}(I:Inv (fF (dY P w) P w K mg base N qual scope f cd A outer s0 H0 E) pins U H s)(ha:H a=some (.ext (lg a C dd)))(he:s.heap.get? a=some ⟨.ref C,dd,.fields #[.ref t0,.none,v2,v3,v4,v5],sl0⟩)(na:s0.heap.get? a=none)(q:E (.ref C) (some a) H):(fF (dY P w) P w K mg base N qual scope f cd A outer s0 H0 E).xe (.ref a) s:=by
 refine leave_new (base:=base) (L:=s0.heap.objs.size) I.ok.frames I.stack rfl he λh' T nT W O=>?_;have nT0:s0.heap.get? T=none:=by
  cases c:s0.heap.get? T with
  |none=>rfl
  |some o=>obtain⟨o1,e1⟩:=I.base.there T o c (by show T∉([]:VE);simp);rw[e1]at nT;cases nT
 exact zq (Nw:=λb=>b=T) I ha na (λb z=>by rw[z];exact I.lR nT) (λb z=>by rw[z];exact nT0) rfl (λb o b1 b2 b3 e=>W.keep b o b1 b2 b3 e) (λb o b1 b2 e=>W.slot b o b1 b2 e) O q
def bC:Passes (dY P w) (fF (dY P w) P w K mg base N qual scope f cd A outer s0 H0 E) E:=by
 intro pins U H s e s' I h;obtain⟨a,C,T,dd,H',rfl,os,bare,un,hok,O,nT,hT,na,ha,q⟩:=h;have I':=I.FD (s':=s') (ch:=[]) os un hok bare λb z=>absurd z (by simp);have up:∀b,s.heap.get? b=none->s0.heap.get? b=none:=λb n=>by
  cases c:s0.heap.get? b with
  |none=>rfl
  |some o=>obtain⟨o1,e1⟩:=I.base.there b o c (by show b∉([]:VE);simp);rw[e1]at n;cases n
 refine D9 (base:=base) (L:=s0.heap.objs.size) I'.ok.frames I'.stack rfl O λh' T2 n2 k sl O2=>?_;have nT2:s0.heap.get? T2=none:=by
  cases c:s0.heap.get? T2 with
  |none=>rfl
  |some o=>obtain⟨o1,e1⟩:=I'.base.there T2 o c (by show T2∉([]:VE);simp);rw[e1]at n2;cases n2
 refine zq (Nw:=λb=>b=T\/b=T2) I' ha (up a na) (λb z=>?_) (λb z=>?_) (.inr rfl) (λb o b1 b2 b3 e=>k b o b1 (λz=>b2 (.inl z)) (λz=>b2 (.inr z)) b3 e) (λb o b1 b2 e=>sl b o b1 (λz=>b2 (.inl z)) (λz=>b2 (.inr z)) e) O2 q;{rcases z with rfl|rfl;{exact hT};exact I'.lR n2};rcases z with rfl|rfl;{exact up _ nT};exact nT2
end
section
variable{P:Program}{w:World}{K:Frag}{mg:Us}{base:Heap}{N:VL}{qual:Str}{scope:Scope}{f:Addr}{cd:Value}{A:Around}{outer:List Env}{s0:Shared}{H0:Hp}{E:XK}
noncomputable def Jm (C:Addr)(E:XK)(t:TA):TS:=λ_ U H=>t U H λvs H1=>vs.length<=sizeLine/\∀a,H1 a=none->E (.ref C) (some a) (upd H1 a (.ext (lg a C none)))
def D5{C:Addr}(hc:jH K C Bl "ValueError.__new__" none=true)(hg:Gl (fF (dY P w) P w K mg base N qual scope f cd A outer s0 H0 E) x)(hm:mg x=some (.ref C))(ha:PA (fF (dY P w) P w K mg base N qual scope f cd A outer s0 H0 E) (e::es) t)(hdb:(x==("__debug__":Str))=false:=by decide)(he:starEach (e::es) (envOfC qual scope s0.heap.objs.size f cd)=(false,eval e (envOfC qual scope s0.heap.objs.size f cd))::starEach es (envOfC qual scope s0.heap.objs.size f cd):=by rfl)(hpl:(backTo cpos (starEach es (envOfC qual scope s0.heap.objs.size f cd))).any (·.1)=false:=by rfl) : PS (fF (dY P w) P w K mg base N qual scope f cd A outer s0 H0 E) (.Raise (some (.Call (.Name x np) (e::es) [] cpos)) none pos) (Jm C E t):=by
 intro pins s U H D I h;obtain⟨bm,N0,nm,qn,bs,hd,sn,sub,ab,col,dd,k0,k1,k2,k3,k5,mN,hC,hN,hni,T⟩:=(G9 I.ok.mod.Gn hc).obj;refine wpAny_Raise_call_subT (C:=C) (nm:=nm) (q:=qn) (N:=N0) (bs:=bs) (bm:=bm) (hdct:=hd) (sn:=sn) (sub:=sub) (ab:=ab) (col:=col) (dd:=dd) (k0:=k0) (k1:=k1) (k2:=k2) (k3:=k3) (k5:=k5)
  PySem.F.excBase_ValueError (mN:=mN) (T.hasType (by decide)) (I.ok.hd rfl) (by show(backTo cpos (starEach (e::es) (envOfC qual scope s0.heap.objs.size f cd))).any (·.1)=false;rw[he];show(false||(backTo cpos (starEach es (envOfC qual scope s0.heap.objs.size f cd))).any (·.1))=false;rw[hpl];rfl) hni (sf I hg hm ⟨rfl,?_⟩ hdb)
 have go:=ha cpos pins s U H _ I h;show wpAny (model P w) _ (evalArgs (.ref C) true (backTo cpos (starEach (e::es) (envOfC qual scope s0.heap.objs.size f cd))) []) _ _ _;have go':wpAny (model P w) _ (spliced (backTo cpos (starEach (e::es) (envOfC qual scope s0.heap.objs.size f cd)))) _ _ _:=go;rw[he]at go'⊢;refine Calls.evalArgs_plain (aJ go' λus s1 ⟨vs,H1,I1,r,hz,q⟩=>?_);have kp:∀b o,base.get? b=some o->s1.heap.get? b=some o:=I1.bk;refine⟨rfl,by rw[<-r.length];exact hz,kp _ _ hC,hN.keeps kp,T.keeps kp,λh' a M=>?_⟩;obtain⟨hp,g,dr,tk,os⟩:=s1;obtain⟨keeps,new,t0,hx,_,_⟩:=M;have I2:=I1.FZ (a:=a) (o:=.ext (lg a C none)) (t':=tk) keeps new (Df ⟨_,_,_,_,_,_,_,hx⟩);have na:s0.heap.get? a=none:=by
  cases c:s0.heap.get? a with
  |none=>rfl
  |some o=>obtain⟨o1,e1⟩:=I1.base.there a o c (by show a∉([]:VE);simp);rw[e1]at new;cases new
 exact JQ I2 (ay) hx na (q a (I1.lR new))
end
section
variable{P:Program}{w:World}{K:Uy}{mg:Us}{base:Heap}
def qM.PC{x qual:Str}{st:Stmt}{f:Addr}{fd:FuncData}{N ps:VL}{k:Nat}{sp:Sp}(F:qM K x qual st f fd)(S:aN N ps (av st))(len:∀vs H Q E,sp vs H Q E->vs.length=ps.length)(hbody:∀(cdv:Value)(A:Around)(outer:List Env)(s:Shared)(H:Hp)(vs:List V)(Q:VK)(E:XK),cQ k (A.deeper (envOfC qual (av st) s.heap.objs.size f cdv))->sp vs H Q E-> ∃t,mW (fF (dY P w) P w K mg base N qual (av st) f cdv A outer s H E) (gn st) t/\t { nx:=λ_ H'=>Q .aU H',rt:=Q } (start N vs) H):fH P w K mg base (dY P w) (k+1) f fd ps sp:=by obtain⟨oc,od,kV,doc,pm,an,cdv,ct,osl,rfl,lk,hcd⟩:=F.ex;refine Na lk hcd S len λA outer s H vs Q E hr hsp=>?_;obtain⟨t,h,q⟩:=hbody cdv A outer s H vs Q E hr hsp;exact⟨t,h,q⟩
noncomputable def bX (P:Program)(w:World)(K:Uy)(mg:Us)(base:Heap) (k:Nat) (x:Str)(ps:VL)(sp:Sp):Prop:=
 ∃f fd,mg x=some (.ref f)/\PySem.W.keepIn K (.ref f)=true/\Binds K fd ps []/\fH P w K mg base (dY P w) k f fd ps sp
end
end L2
namespace Dv
open PySem L2 PySem.W
noncomputable def WE (X:Cx)(e:Expr):TE:=λU H Q=>∀(pins:Ut)(s:Shared),Inv X pins U H s->wpAny (model X.prog X.w) X.A (eval e X.env) (EP X pins U Q) X.xe s
def aS:PE X e (WE X e):=λpins s _ _ _ I h=>h pins s I
def WE.of(h:PE X e t)(q:t U H Q):WE X e U H Q:=λpins s I=>h pins s U H Q I q
noncomputable def WT (X:Cx)(e:Expr):TT:=λU H Q=>∀(pins:Ut)(s:Shared),Inv X pins U H s->wpAny (model X.prog X.w) X.A (isTrue e X.env (eval e X.env)) (TP X pins U Q) X.xe s
def jd:PT X e (WT X e):=λpins s _ _ _ I h=>h pins s I
def WT.of(h:PT X e t)(q:t U H Q):WT X e U H Q:=λpins s I=>h pins s U H Q I q
noncomputable def oi (X:Cx):VG->TA
 |[],_,H,Q=>Q [] H
 |e::es,U,H,Q=>WE X e U H λv H1=>oi X es U H1 λvs H2=>Q (v::vs) H2
noncomputable def sel (Y:VI)(U:St):St:=Y.map λi=>(U[i]?).join
def cP{j i:Nat}(h:Y[j]?=some i)(e:U[i]?=some (some v)):(sel Y U)[j]?=some (some v):=by unfold sel;rw[QF,h];show some (U[i]?).join=_;rw[e];rfl
noncomputable def XL (X:Cx)(Ex:XK)(x:XC)(g:Gh):Prop:=∀(c:Str)(d:PyData)(C a:Addr)(H':Hp),X.mg c=some (.ref C)->x c d->(∀p o,p∉g.M->g.H0 p=some o->H' p=some o)->H' a=some (.ext (lg a C none))->g.H0 a=none->Ex (.ref C) (some a) H'
def XL.no:XL X Ex xF g:=λ_ _ _ _ _ _ z=>z.elim
noncomputable def SE (X:Cx)(Ex:XK)(Y:VI)(e:Expr)(d:DE):Prop:=
 ∀(g:Gh)(x:XC)(E:En)(U:St)(H Hm:Hp)(F:Nat->VE)(P:En->Kd->PyData->Prop)(Q:VK),XL X Ex x g->Rl X.K g E U H Hm F->d x E P->
  (∀E' k v u H' Hm' F' fp,P E' k v->Rl X.K g E' U H' Hm' F'->ah Hm Hm'->Tm X.K g F' H' Hm' k u v fp->Q u H')->WE X e (sel Y U) H Q
noncomputable def ST (X:Cx)(Ex:XK)(Y:VI)(e:Expr)(d:DT):Prop:=
 ∀(g:Gh)(x:XC)(E:En)(U:St)(H Hm:Hp)(F:Nat->VE)(P:En->Bool->Prop)(Q:Bool->Hp->Prop),XL X Ex x g->Rl X.K g E U H Hm F->d x E P->
  (∀E' b H' Hm' F',P E' b->Rl X.K g E' U H' Hm' F'->ah Hm Hm'->Q b H')->WT X e (sel Y U) H Q
inductive aH(X:Cx)(Ex:XK)(Y:VI):VG->List Arg->Prop
 |nil:aH X Ex Y [] []
 |pk {e:Expr}{es:VG}{as:List Arg}{i j:Nat}:PE X e (jw j)->Y[j]?=some i->aH X Ex Y es as->aH X Ex Y (e::es) (.pk i::as)
 |ev {e:Expr}{es:VG}{as:List Arg}{d:DE}:SE X Ex Y e d->aH X Ex Y es as->aH X Ex Y (e::es) (.ev d::as)
inductive Got(K:Frag)(U:St)(Hm:Hp):List Arg->List (Option PyData)->List V->Prop
 |nil:Got K U Hm [] [] []
 |pk {i:Nat}{v:V}{as:List Arg}{os:List (Option PyData)}{vs:List V}:U[i]?=some (some v)->Got K U Hm as os vs->Got K U Hm (.pk i::as) (none::os) (v::vs)
 |ev {e:DE}{v:V}{d:PyData}{as:List Arg}{os:List (Option PyData)}{vs:List V}:Rp K Hm v d->Got K U Hm as os vs->Got K U Hm (.ev e::as) (some d::os) (v::vs)
def kh{F:Nat->VE}(R:Rl K g E U H Hm F){i:Nat}(h:here E i=true):∃v,U[i]?=some (some v):=by unfold here at h;split at h;{rename_i kd e;obtain⟨v,h1,_⟩:=R.slot i kd.1 kd.2 e;exact⟨v,h1⟩};cases h
section
variable{X:Cx}{Ex:XK}{Y:VI}{g:Gh}{x:XC}{U:St}
def iN(hx:XL X Ex x g)(S:aH X Ex Y es as):∀{E:En}{H Hm:Hp}{F:Nat->VE}{P:En->List (Option PyData)->Prop}{Q:List V->Hp->Prop},Rl X.K g E U H Hm F->gx as x E P->(∀E' os vs H' Hm' F',P E' os->Rl X.K g E' U H' Hm' F'->ah Hm Hm'->Got X.K U Hm' as os vs->Q vs H')->oi X es (sel Y U) H Q:=by
 induction S with
 |nil=>exact λR h q=>q _ _ _ _ _ _ h R (ah.refl _) .nil
 |@pk e es as i j hp hj _ ih=>intro E H Hm F P Q R h q;replace h:bK (here E i) _:=h;rw[cZ]at h;obtain⟨h1,h2⟩:=h;obtain⟨v,hv⟩:=kh R h1;refine WE.of hp ⟨v,cP hj hv,ih R h2 λE' os vs H' Hm' F' p R' s G=>q _ _ _ _ _ _ p R' s (.pk hv G)⟩
 |@ev e es as d hd _ ih=>intro E H Hm F P Q R h q;refine hd g x E U H Hm F _ _ hx R h λE1 k v u H1 Hm1 F1 fp p R1 s1 T=>?_;replace p:bK k.fz _:=p;rw[cZ]at p;obtain⟨hk,p⟩:=p;obtain⟨Hm2,s2,R2,r⟩:=T.dI R1 hk;exact ih R2 p λE' os vs H' Hm' F' p' R' s' G=>q _ _ _ _ _ _ p' R' (s1.trans (s2.trans s')) (.ev (r.mono s') G)
def lS{F:Nat->VE}(R:Rl K g E U H Hm F)(s:ah Hm Hm1):∀{as:List Arg}{os:List (Option PyData)}{vs:List V}{ds:VB},Got K U Hm as os vs->fill as E os=some ds->(∀i∈b5 as,∀a∈F i,Hm1 a=H a)->au K Hm1 vs ds:=by
 intro as os vs ds G;induction G generalizing ds with
 |nil=>intro h _;cases h;exact .nil
 |@pk i v as os vs hv G ih=>
  intro h n;rw[fill]at h;split at h
  .rename_i k d e;by_cases hk:k.rd=true
   .rw[if_pos hk]at h;cases hf:fill as E os with
    |none=>rw[hf]at h;cases h
    |some es=>rw[hf]at h;cases h;obtain⟨v',h1,h2⟩:=R.slot i k d e;rw[hv]at h1;cases h1;exact .cons (h2.rp hk s (n i Q4)) (ih hf λj hj=>n j (QB _ hj))
   rw[if_neg hk]at h;cases h
  cases h
 |@ev d v u as os vs r G ih=>
  intro h n;rw[fill]at h;cases hf:fill as E os with
  |none=>rw[hf]at h;cases h
  |some es=>rw[hf]at h;cases h;exact .cons (r.mono s) (ih hf n)
theorem mK:∀{is:VI}{E E2:En},c8 is E=some E2->E2.length=E.length/\∀j,(j∉is->E2[j]?=E[j]?)/\(j∈is->∃k d,E[j]?=some (some (k,d))/\k.fz=true/\E2[j]?=some (some (.sh,d)))
 |[],E,E2,h=>by cases h;exact⟨rfl,λj=>⟨λ_=>rfl,λz=>by cases z⟩⟩
 |i::r,E,E2,h=>by
  have h:(cM E i).bind (c8 r)=some E2:=h;cases hf:cM E i with
  |none=>rw[hf]at h;cases h
  |some E1=>
   rw[hf]at h;obtain⟨l1,g1⟩:=mK (is:=r) (E:=E1) (E2:=E2) h;unfold cM at hf;split at hf
   .rename_i k d e;by_cases hk:k.fz=true
    .rw[if_pos hk]at hf;cases hf;have li:i<E.length:=by rcases Qy i E.length with h|h;{exact h};rw[Qc h]at e;cases e
     rw[QX]at l1;refine⟨l1,λj=>⟨λn=>?_,λm=>?_⟩⟩;{have n1:j≠i:=λz=>n (z▸Q4);rw[(g1 j).1 λz=>n (QB _ z),aj (Ne.symm n1)]};by_cases c:j=i;{subst c;by_cases m':j∈r;{obtain⟨k2,d2,e2,_,e3⟩:=(g1 j).2 m';rw[aB li]at e2;cases e2;exact⟨k,d,e,hk,e3⟩};exact⟨k,d,e,hk,by rw[(g1 j).1 m',aB li]⟩};have m':j∈r:=(QG.mp m).resolve_left c;obtain⟨k2,d2,e2,h2,e3⟩:=(g1 j).2 m';rw[aj (Ne.symm c)]at e2;exact⟨k2,d2,e2,h2,e3⟩
    rw[if_neg hk]at hf;cases hf
   cases hf
def wN{F:Nat->VE}(R:Rl K g E U H Hm F)(hE:(if flat k v=true then some E else c8 is E)=some E2)(sH:ah H H')(s1:ah (lend Hm H (is.flatMap F)) Hm2)(s2:ah Hm2 H')(old:∀a,H a≠none->OE (Hm2 a) (lend Hm H (is.flatMap F) a))(o:Own K H' Hm2 k u v fp)(fr:∀a∈fp,H a=none/\Hm2 a=none) : ∃Hm' F',Rl K g E2 U H' Hm' F'/\ah Hm Hm'/\Tm K g F' H' Hm' k u v fp:=by
 have mem:∀{a i},a∈F i->i∈is->a∈is.flatMap F:=λha hi=>Qj.mpr ⟨_,hi,ha⟩;have off:∀a∈is.flatMap F,Hm a=none:=λa ha=>by obtain⟨i,_,h⟩:=Qj.mp ha;exact R.off i a h
 have up:ah Hm (lend Hm H (is.flatMap F)):=gu off;have aT:∀{i a},a∈F i->H a≠none:=λha z=>by obtain⟨u,hu,_⟩:=R.aT _ _ ha;rw[z]at hu;cases hu
 have nfp:∀a∈fp,∀i,a∉F i:=λa ha i=>R.fresh (fr a ha).1;by_cases hf:flat k v=true
 .rw[if_pos hf]at hE;cases hE;refine⟨back Hm2 (is.flatMap F),F,R.grow sH (λb o e=>?_) (uO s2) (λi a ha=>?_) (λa ha=>?_),λb o e=>?_,⟨o.flat (λa xs h=>?_) hf,λa ha=>?_,nfp,λa ha=>R.eL (fr a ha).1⟩⟩;{rw[cH λz=>by rw[off b z]at e;cases e];exact s1 _ _ (up _ _ e)};{by_cases c:a∈is.flatMap F;{exact ig c};rw[cH c];obtain⟨w,hw,nt⟩:=R.aT i a ha;exact(old a (aT ha)).off (by rw[b7 c];exact R.off i a ha) s2 (sH _ _ hw) nt};{by_cases c:a∈is.flatMap F;{rw[ig c,off a c];exact .inl rfl};have h:=old a (R.oz ha);rw[b7 c]at h;rw[cH c];exact h};{rw[cH λz=>by rw[off b z]at e;cases e];exact s1 _ _ (up _ _ e)}
  .have c:a∉is.flatMap F:=λz=>by obtain⟨i,_,hi⟩:=Qj.mp z;obtain⟨w,hw,nt⟩:=R.aT i a hi;have e2:Hm2 a=some w:=s1 _ _ (by rw[dW z];exact hw);rw[e2]at h;cases h;exact nt xs rfl
   rw[cH c];exact h
  by_cases c:a∈is.flatMap F;{exact ig c};rw[cH c];exact(fr a ha).2
 rw[if_neg hf]at hE;obtain⟨l2,g2⟩:=mK hE;have R':Rl K g E2 U H' Hm2 (λj=>if j∈is then []else F j):={
  len:=l2.trans R.len
  sub:=s2
  slot:=λj k' d' e'=>by
   by_cases c:j∈is
   .obtain⟨k0,d0,e0,hk0,e1⟩:=(g2 j).2 c;rw[e1]at e';cases e';obtain⟨v',h1,h2⟩:=R.slot j k0 _ e0;refine⟨v',h1,?_⟩;rw[if_pos c];exact .sh ((h2.rp (by cases k0<;>first|rfl|cases hk0) up λa ha=>dW (mem ha c)).mono s1)
   .rw[(g2 j).1 c]at e';obtain⟨v',h1,h2⟩:=R.slot j k' d' e';refine⟨v',h1,?_⟩;rw[if_neg c];refine h2.step (up.trans s1) λa ha=>?_
    obtain⟨w,hw,_⟩:=h2.live a ha;rw[hw];exact sH _ _ hw
  off:=λj a ha=>by
   by_cases c:j∈is
   .rw[if_pos c]at ha;cases ha
   .rw[if_neg c]at ha;obtain⟨w,hw,nt⟩:=R.aT j a ha;refine(old a (aT ha)).off ?_ s2 (sH _ _ hw) nt;rw[b7]
    .exact R.off j a ha
    .intro z;obtain⟨i,hi,h⟩:=Qj.mp z;exact c (R.aD i j a h ha▸hi)
  aT:=λj a ha=>by
   by_cases c:j∈is
   .rw[if_pos c]at ha;cases ha
   .rw[if_neg c]at ha;obtain⟨w,hw,nt⟩:=R.aT j a ha;exact⟨w,sH _ _ hw,nt⟩
  aD:=λj l a h1 h2=>by
   by_cases c:j∈is
   .rw[if_pos c]at h1;cases h1
   .rw[if_neg c]at h1
    by_cases c':l∈is
    .rw[if_pos c']at h2;cases h2
    .rw[if_neg c']at h2;exact R.aD j l a h1 h2
  fr:=λp o hp ho=>sH _ _ (R.fr p o hp ho)
  new:=λj a ha=>by
   by_cases c:j∈is
   .rw[if_pos c]at ha;cases ha
   .rw[if_neg c]at ha;exact R.new j a ha
  pin:=λq hq=>by
   obtain⟨h1,ds',h2⟩:=R.pin q hq;have c:q.1∉is:=λz=>by
    obtain⟨k0,d0,e0,hk0,_⟩:=(g2 q.1).2 z;rw[h2]at e0;cases e0;cases hk0
   exact⟨h1,ds',by rw[(g2 q.1).1 c];exact h2⟩
  old:=λa ha=>by
   refine(old a (R.oz ha)).trans ?_;rw[b7]
   .exact R.old a ha
   .intro z;obtain⟨i,hi,h⟩:=Qj.mp z;obtain⟨k0,d0,e0,hk0,_⟩:=(g2 i).2 hi;exact ha (R.notM e0 (by cases k0<;>first|rfl|(rename_i p;cases p<;>first|rfl|cases hk0)|cases hk0) h) }
 refine⟨Hm2,_,R',up.trans s1,⟨o,λa ha=>(fr a ha).2,λa ha i=>?_,λa ha=>R.eL (fr a ha).1⟩⟩;by_cases c:i∈is;{rw[if_pos c];simp};rw[if_neg c];exact nfp a ha i
noncomputable def cg (K:Frag)(f:DR)(r:List V->Hp->VK->Prop):Prop:=
 ∀(H Hm:Hp)(vs:List V)(ds:VB)(P:Kd->PyData->Prop)(Q:VK),ah Hm H->au K Hm vs ds->f ds P->
  (∀k v u H' Hm' fp,P k v->ah H H'->ah Hm Hm'->ah Hm' H'->(∀a,H a≠none->OE (Hm' a) (Hm a))->Own K H' Hm' k u v fp->(∀a∈fp,H a=none/\Hm' a=none)->Q u H')->r vs H Q
def fj(S:aH X Ex Y es as)(hr:∀U H Q,oi X es U H (λvs H1=>r vs H1 Q)->WE X e U H Q)(D:cg X.K f r):SE X Ex Y e (aa f as):=by
 intro g x E U H Hm F P Q hx R h q;refine hr _ _ _ (iN hx S R h λE1 os vs H1 Hm1 F1 p R1 s1 G=>?_);replace p:uY f as E1 os P:=p;unfold uY at p;rw[<-aR,dD]at p;obtain⟨ds,hf,hg⟩:=p;have off:∀a∈(b5 as).flatMap F1,Hm1 a=none:=λa ha=>by obtain⟨i,_,h⟩:=Qj.mp ha;exact R1.off i a h
 have up:=gu (Hm:=Hm1) (H:=H1) off;refine D H1 (lend Hm1 H1 ((b5 as).flatMap F1)) vs ds _ Q (gY R1.sub) (lS R1 up G hf λi hi a ha=>dW (Qj.mpr ⟨i,hi,ha⟩)) hg λk v u H' Hm2 fp p sH sM sS old o fr=>?_;replace p:aq (qf as E1 k v) _:=p;rw[<-aR,yr]at p;obtain⟨E2,ha,p⟩:=p;obtain⟨Hm',F',R',s',T⟩:=wN R1 (is:=b5 as) (rV ha) sH sM sS old o fr;exact q _ _ _ _ _ _ _ _ p R' (s1.trans s') T
end
end Dv
namespace L2
open PySem PySem.Spec PyProof.Rows
section
variable{X:Cx}
noncomputable def AE (i j:Int):Prop:=0<j/\j<115792089237316195423570985008687907853269984665640564039457584007913129639936
def D4:bq X (binaryOp .FloorDiv) (rI AE λi j=>.int (i/j)):=zj λi j _ _ _ _ _ hc q=>by
 have h1:(0:Int)<j:=hc.1;have h2:j<115792089237316195423570985008687907853269984665640564039457584007913129639936:=hc.2;refine floordiv_int (by lia) (by rw[Int.fdiv_eq_ediv_of_nonneg i (by lia)];exact q) (.inl (PyProof.noPylong_of_log2 ?_));have:j.natAbs.log2<256:=(Nat.log2_lt (by lia)).mpr (by
  have:(2:Nat)^256=115792089237316195423570985008687907853269984665640564039457584007913129639936:=by decide
  lia)
 lia
end
end L2
namespace TS
open PySem PyProof.Rows
noncomputable def sA:Bool->Keyed->Array Keyed->Nat->Nat->Nat->StateT SortSt Sem (Option Nat):=sortPriv%PySem.Builtin.gallop
noncomputable def vH:Array Keyed->Array Keyed->StateT SortSt Sem (Array Keyed):=sortPriv%PySem.Builtin.mergeLo
noncomputable def xh:Array Keyed->Array Keyed->StateT SortSt Sem (Array Keyed):=sortPriv%PySem.Builtin.mergeHi
section
variable{prog:Program}{w:World}{A:Around}{E:Uq}{s:Shared}
noncomputable def iw (prog:Program)(w:World)(A:Around)(s:Shared)(kd:SortKind)(P:Value->Prop):Prop:=∀(E:Uq) x y,P x->P y->∀Q:Bool->Shared->Prop,(∀b,Q b s)->wpAny (model prog w) A (keyLt' kd x y) Q E s
noncomputable def Good (P:Value->Prop)(xs:Array Keyed):Prop:=∀(i:Nat)(p:Keyed),xs[i]?=some p->P p.1
variable{kd:SortKind}{P:Value->Prop}
def ask{st:SortSt}(L:iw prog w A s kd P)(hk:kindOf st=kd)(hx:P x.1)(hy:P y.1)(h:∀b,Q (some b) st):wpS (model prog w) A E s (lt' x y) Q st:=by rw[lt'_eq];refine Q2 (wpS_get ?_);rw[hk];refine Q2 (Rw (wpAny_attempt (L _ _ _ hx hy _ λb=>⟨rfl,?_⟩)));exact Q3 (h b)
def jq{st:SortSt}{i:Nat}(hi:i<xs.size)(h:∀p,xs[i]?=some p->Q p st):wpS (model prog w) A E s (elem' xs i) Q st:=by rw[elem'_eq,T8 hi];exact Q3 (h _ (T8 hi))
def nP{st:SortSt}{left:Bool}{base n hint:Nat}(L:iw prog w A s kd P)(hk:kindOf st=kd)(hy:P key.1)(G:Good P xs)(hn:base+n<=xs.size)(hh:hint<n)(h:∀k,k<=n->Q (some k) st) : wpS (model prog w) A E s (sA left key xs base n hint) Q st:=by
 have pJ:∀(i:Nat){R:Option Bool->SortSt->Prop},i<n->(∀b,R (some b) st)->wpS (model prog w) A E s (do
   let x <-elem' xs (base+i)
   if left then lt' x key else return (<-lt' key x).map (!·)) R st:=λi R hi hR=>by
  refine Q2 (jq (by lia) λp hp=>?_)
  cases left with
  |true=>exact ask L hk (G _ _ hp) hy hR
  |false=>exact Q2 (ask L hk hy (G _ _ hp) λb=>Q3 (hR _))
 unfold sA;refine Q2 (pJ hint hh λb=>?_);dsimp only;split;all_goals
  refine Q2 (Qk (Ql (I:=λ_ c st'=>st'=st/\c.1=none) (Q:=λc st'=>st'=st/\c.1=none) ?step (λ_ _ q=>q) ⟨rfl,rfl⟩) ?post)
  case step=>
   rintro x⟨o,a,c⟩st' _ _⟨rfl,rfl⟩;dsimp only;split
   .exact Q3 ⟨rfl,rfl⟩
   .refine Q2 (pJ _ (by lia) λb'=>?_)
    dsimp only;split
    .exact Q3 ⟨rfl,rfl⟩
    .exact Q3 ⟨rfl,rfl⟩
  case post=>
   rintro⟨o,a,c⟩st'⟨rfl,rfl⟩;dsimp only;refine Q2 (Qk (Ql (I:=λ_ c st''=>st''=st'/\c.1=none/\c.2.2<=n) (Q:=λc st''=>st''=st'/\c.1=none/\c.2.2<=n) ?step2 (λ_ _ q=>q) ⟨rfl,rfl,by dsimp only;lia⟩) ?post2)
   case step2=>
    rintro x⟨o,a,c⟩st'' _ _⟨rfl,rfl,le⟩;dsimp only at le⊢;split
    .exact Q3 ⟨rfl,rfl,le⟩
    .refine Q2 (pJ _ (by lia) λb'=>?_)
     dsimp only;split
     .exact Q3 ⟨rfl,rfl,le⟩
     .exact Q3 ⟨rfl,rfl,by dsimp only;lia⟩
   case post2=>
    rintro⟨o,a,c⟩st''⟨rfl,rfl,le⟩;dsimp only;exact Q3 (h _ le)
end
noncomputable def Pm (xs ys out:Array Keyed) (ia ib:Nat):Prop:=out.toList.Perm (xs.toList.take ia++ys.toList.take ib)
section
variable{xs ys out:Array Keyed}{ia ib k:Nat}
def uX(zs:Array Keyed) (i k:Nat):zs.toList.take (i+k)=zs.toList.take i++(zs.extract i (i+k)).toList:=by rw[US,List.take_add,UT];congr 2;lia
def Pm.x(h:Pm xs ys out ia ib) (k:Nat):Pm xs ys (out++xs.extract ia (ia+k)) (ia+k) ib:=by unfold Pm at *;rw[Qv,uX xs ia k,Qh];refine(h.append_right _).trans ?_;rw[Qh];exact SG _ SH
def Pm.y(h:Pm xs ys out ia ib) (k:Nat):Pm xs ys (out++ys.extract ib (ib+k)) ia (ib+k):=by unfold Pm at *;rw[Qv,uX ys ib k,<-Qh];exact h.append_right _
def qp{zs out:Array Keyed}{i:Nat}(hp:zs[i]?=some p):out.push p=out++zs.extract i (i+1):=by
 obtain⟨hi,e⟩:=Tp.mp hp;have:zs.extract i (i+1)=#[p]:=by
  rw[<-e];apply Array.ext;{simp;lia};intro j h1 h2;have:j=0:=by simp at h2;exact h2
  subst this;simp
 rw[this];rfl
def Pm.px{p:Keyed}(h:Pm xs ys out ia ib)(hp:xs[ia]?=some p):Pm xs ys (out.push p) (ia+1) ib:=by rw[qp hp];exact h.x 1
def Pm.py{p:Keyed}(h:Pm xs ys out ia ib)(hp:ys[ib]?=some p):Pm xs ys (out.push p) ia (ib+1):=by rw[qp hp];exact h.y 1
def wG(zs:Array Keyed) (i:Nat):zs.toList=zs.toList.take i++(zs.extract i).toList:=by rw[US,UT];have:List.take (zs.size-i) (List.drop i zs.toList)=List.drop i zs.toList:=SJ (by simp);rw[this,Se]
def Pm.done(h:Pm xs ys out ia ib):(out++xs.extract ia++ys.extract ib).toList.Perm (xs.toList++ys.toList):=by unfold Pm at h;rw[Qv,Qv,wG xs ia,wG ys ib];refine((h.append_right _).append_right _).trans ?_;simp only[Qh];refine SG _ ?_;rw[<-Qh,<-Qh];exact T9 _ SH
def Pm.last(h:Pm xs ys out ia ib):(out++ys.extract ib++xs.extract ia).toList.Perm (xs.toList++ys.toList):=by refine List.Perm.trans ?_ h.done;rw[Qv,Qv,Qv,Qv,Qh,Qh];exact SG _ SH
end
noncomputable def kq (st st':SortSt):Prop:=kindOf st'=kindOf st/\arrOf st'=arrOf st/\pendingOf st'=pendingOf st/\failedOf st'=failedOf st
inductive LB(st:SortSt)(xs ys:Array Keyed) (x:Nat):Option (Array Keyed)×Array Keyed×Nat×Nat×Nat->SortSt->Prop
 |mk:∀(out:Array Keyed) (ia ib mg:Nat)(st':SortSt),kq st st'->Pm xs ys out ia ib->ia+1<xs.size->ib<ys.size->x+1<=ia+ib->LB st xs ys x (none,out,ia,ib,mg) st'
inductive Ai(st:SortSt)(xs ys:Array Keyed):Option (Array Keyed)×Array Keyed×Nat×Nat×Nat->SortSt->Prop
 |mk:∀(r out:Array Keyed) (ia ib mg:Nat)(st':SortSt),kq st st'->r.toList.Perm (xs.toList++ys.toList)->Ai st xs ys (some r,out,ia,ib,mg) st'
inductive Gs(st:SortSt)(xs ys:Array Keyed) (n y:Nat):Option (Array Keyed)×Array Keyed×Nat×Nat×Nat×Nat->SortSt->Prop
 |mk:∀(out:Array Keyed) (ia ib ac bc:Nat),Pm xs ys out ia ib->ia+1<xs.size->ib<ys.size->y+n<=ia+ib->Gs st xs ys n y (none,out,ia,ib,ac,bc) st
inductive pZ(st:SortSt)(xs ys:Array Keyed) (n:Nat):Option (Array Keyed)×Array Keyed×Nat×Nat×Nat×Nat->SortSt->Prop
 |dn:∀(r out:Array Keyed) (ia ib ac bc:Nat),r.toList.Perm (xs.toList++ys.toList)->pZ st xs ys n (some r,out,ia,ib,ac,bc) st
 |go:∀(out:Array Keyed) (ia ib ac bc:Nat),Pm xs ys out ia ib->ia+1<xs.size->ib<ys.size->n+1<=ia+ib->pZ st xs ys n (none,out,ia,ib,ac,bc) st
inductive L5(st:SortSt)(xs ys:Array Keyed) (n:Nat):Option (Array Keyed)×Array Keyed×Nat×Nat×Nat×Nat×Nat->SortSt->Prop
 |mk:∀(out:Array Keyed) (ia ib mg ac bc:Nat)(st':SortSt),kq st st'->Pm xs ys out ia ib->ia+1<xs.size->ib<ys.size->n<=ia+ib->L5 st xs ys n (none,out,ia,ib,mg,ac,bc) st'
inductive l8(st:SortSt)(xs ys:Array Keyed) (n:Nat):Option (Array Keyed)×Array Keyed×Nat×Nat×Nat×Nat×Nat->SortSt->Prop
 |dn:∀(r out:Array Keyed) (ia ib mg ac bc:Nat)(st':SortSt),kq st st'->r.toList.Perm (xs.toList++ys.toList)->l8 st xs ys n (some r,out,ia,ib,mg,ac,bc) st'
 |go:∀(out:Array Keyed) (ia ib mg ac bc:Nat)(st':SortSt),kq st st'->Pm xs ys out ia ib->ia+1<xs.size->ib<ys.size->n<=ia+ib->l8 st xs ys n (none,out,ia,ib,mg,ac,bc) st'
section
variable{prog:Program}{w:World}{A:Around}{E:Uq}{s:Shared}{kd:SortKind}{P:Value->Prop}
def dm{M:Model}{U α:Type}{a b:Nat}{m1 m2:StateT U Sem α}{Q:α->U->Prop}{st:U}(h1:a=b->wpS M A E s m1 Q st)(h2:a≠b->wpS M A E s m2 Q st):wpS M A E s (if(a==b)=true then m1 else m2) Q st:=by by_cases e:a=b;{rw[if_pos (beq_iff_eq.mpr e)];exact h1 e};rw[if_neg (λz=>e (beq_iff_eq.mp z))];exact h2 e
def bU{M:Model}{U α:Type}{c:Prop} [Decidable c]{m1 m2:StateT U Sem α}{Q:α->U->Prop}{st:U}(h1:c->wpS M A E s m1 Q st)(h2:¬c->wpS M A E s m2 Q st):wpS M A E s (if c then m1 else m2) Q st:=by by_cases e:c;{rw[if_pos e];exact h1 e};rw[if_neg e];exact h2 e
def bN{α:Type}{st:SortSt}{zs:Array Keyed}{i:Nat}{f:Keyed->StateT SortSt Sem α}{Q:α->SortSt->Prop}(hi:i<zs.size)(h:∀p,zs[i]?=some p->wpS (model prog w) A E s (f p) Q st):wpS (model prog w) A E s (elem' zs i>>=f) Q st:=Q2 (jq hi h)
def wI{α:Type}{st:SortSt}{x y:Keyed}{f:Option Bool->StateT SortSt Sem α}{Q:α->SortSt->Prop}(L:iw prog w A s kd P)(hk:kindOf st=kd)(hx:P x.1)(hy:P y.1)(h:∀b,wpS (model prog w) A E s (f (some b)) Q st):wpS (model prog w) A E s (lt' x y>>=f) Q st:=Q2 (ask L hk hx hy h)
def mQ{α:Type}{st:SortSt}{left:Bool}{key:Keyed}{xs:Array Keyed}{base n hint:Nat}{f:Option Nat->StateT SortSt Sem α}{Q:α->SortSt->Prop}(L:iw prog w A s kd P)(hk:kindOf st=kd)(hy:P key.1)(G:Good P xs)(hn:base+n<=xs.size)(hh:hint<n)(h:∀k,k<=n->wpS (model prog w) A E s (f (some k)) Q st):wpS (model prog w) A E s (sA left key xs base n hint>>=f) Q st:=Q2 (nP L hk hy G hn hh h)
def Mv{st:SortSt}{xs ys:Array Keyed}{Q:Array Keyed->SortSt->Prop}(L:iw prog w A s kd P)(hk:kindOf st=kd)(G1:Good P xs)(G2:Good P ys)(h1:1<=xs.size)(h2:1<=ys.size)(h:∀zs st',kq st st'->zs.toList.Perm (xs.toList++ys.toList)->Q zs st') : wpS (model prog w) A E s (vH xs ys) Q st:=by
 unfold vH;refine Q2 (Rw (RJ ⟨rfl,?_⟩));dsimp only;refine bN (by lia) λp hp=>?_;have pm0:Pm xs ys #[p] 0 1:=by have:Pm xs ys #[] 0 0:=List.Perm.refl _;exact this.py hp
 have g0:kq st st:=⟨rfl,rfl,rfl,rfl⟩;refine dm (λe1=>Q3 (h _ _ g0 pm0.done)) (λe1=>?_);refine dm (λe2=>Q3 (h _ _ g0 pm0.last)) (λe2=>?_);refine Q2 (wpS_get ?_);refine Q2 (Qk (Ql (I:=LB st xs ys) (Q:=Ai st xs ys) ?step ?fin (.mk _ _ _ _ _ g0 pm0 (by lia) (by lia) (by lia))) ?post)
 case post=>
  rintro _ st'⟨r,out,ia,ib,mg,_,g,pr⟩;dsimp only;exact Q3 (h _ _ g pr)
 case fin=>
  rintro _ st'⟨out,ia,ib,mg,_,_,_,a,b,c⟩;lia
 case step=>
  rintro x _ st' _ _⟨out,ia,ib,mg,_,g,pm,a1,b1,c1⟩;dsimp only;have hk':kindOf st'=kd:=g.1.trans hk;refine Q2 (Qk (Ql (I:=Gs st' xs ys (ia+ib)) (Q:=pZ st' xs ys (ia+ib)) ?step1 ?fin1 (.mk _ _ _ _ _ pm a1 b1 (by lia))) ?post1)
  case fin1=>
   rintro _ _⟨out2,ia2,ib2,ac,bc,_,a,b,c⟩;lia
  case step1=>
   rintro y _ _ _ _⟨out2,ia2,ib2,ac,bc,pm2,a2,b2,c2⟩;dsimp only;refine bN (by lia) λp1 hp1=>?_
   refine bN (by lia) λp2 hp2=>?_
   refine wI L hk' (G2 _ _ hp1) (G1 _ _ hp2) λb=>?_
   dsimp only;cases b with
   |true=>rw[if_pos rfl];refine bN (by lia) λp3 hp3=>?_;have pm3:=pm2.py hp3;refine dm (λe3=>Q3 (pZ.dn _ _ _ _ _ _ pm3.done)) (λe3=>?_);refine bU (λe4=>?_) (λe4=>?_);{exact Q3 (pZ.go _ _ _ _ _ pm3 a2 (by lia) (by lia))};exact Q3 (Gs.mk _ _ _ _ _ pm3 a2 (by lia) (by lia))
   |false=>rw[if_neg QW];refine bN (by lia) λp3 hp3=>?_;have pm3:=pm2.px hp3;refine dm (λe3=>Q3 (pZ.dn _ _ _ _ _ _ pm3.last)) (λe3=>?_);refine bU (λe4=>?_) (λe4=>?_);{exact Q3 (pZ.go _ _ _ _ _ pm3 (by lia) b2 (by lia))};exact Q3 (Gs.mk _ _ _ _ _ pm3 (by lia) b2 (by lia))
  case post1=>
   rintro _ _ (⟨r,out2,ia2,ib2,ac,bc,pr⟩|⟨out2,ia2,ib2,ac,bc,pm2,a2,b2,c2⟩)
   .exact Q3 (Ai.mk _ _ _ _ _ _ g pr)
   .dsimp only;refine Q2 (Rw (RJ ⟨rfl,?_⟩));refine Q2 (Qk (Ql (I:=λ_=>L5 st xs ys (ia2+ib2)) (Q:=l8 st xs ys (ia2+ib2)) ?step2 (λc st3 q=>by cases q;exact .go _ _ _ _ _ _ _ ‹_› ‹_› ‹_› ‹_› ‹_›) (.mk _ _ _ _ _ _ _ g pm2 a2 b2 (Q7 _))) ?post2)
    case step2=>
     rintro y _ st3 _ _⟨out3,ia3,ib3,mg3,ac3,bc3,_,g3,pm3,a3,b3,c3⟩;dsimp only;have hk3:kindOf st3=kd:=g3.1.trans hk;refine bU (λe5=>?b1) (λe5=>?b2)
     generalize mg3-1=v;clear e5;revert v;refine ?key
     case b2=>exact ?key mg3
     intro v;refine Q2 (RA ?_);refine bN (by lia) λp1 hp1=>?_
     refine mQ L hk3 (G2 _ _ hp1) G1 (by lia) (by lia) λk hk1=>?_
     dsimp only;refine bU (λk0=>?c1) (λk0=>?c2)
     have pm4:=pm3.x k;refine dm (λe6=>Q3 (l8.dn _ _ _ _ _ _ _ _ g3 pm4.last)) (λe6=>?_)
     refine dm (λe7=>Q3 (l8.dn _ _ _ _ _ _ _ _ g3 pm4.done)) (λe7=>?_)
     generalize out3++xs.extract ia3 (ia3+k)=o at pm4⊢;have n1:ia3+k+1<xs.size:=by lia
     have n0:ia3<=ia3+k:=by lia
     revert n0 n1 pm4;clear e6 e7 k0;generalize ia3+k=n;clear hk1;generalize k=d;revert o n d;refine ?key2
     case c2=>exact ?key2 out3 ia3 k pm3 a3 (Q7 _)
     intro o n d pm4 n1 n0;refine bN (by lia) λp2 hp2=>?_
     have pm5:=pm4.py hp2;refine dm (λe8=>Q3 (l8.dn _ _ _ _ _ _ _ _ g3 pm5.done)) (λe8=>?_)
     refine bN (by lia) λp3 hp3=>?_
     refine mQ L hk3 (G1 _ _ hp3) G2 (by lia) (by lia) λk2 hk2=>?_
     dsimp only;refine bU (λk20=>?d1) (λk20=>?d2)
     have pm6:=pm5.y k2;refine dm (λe9=>Q3 (l8.dn _ _ _ _ _ _ _ _ g3 pm6.done)) (λe9=>?_)
     generalize o.push _++ys.extract (ib3+1) (ib3+1+k2)=o2 at pm6⊢;have m1:ib3+1+k2<ys.size:=by lia
     have m0:ib3+1<=ib3+1+k2:=by lia
     revert m0 m1 pm6;clear e9 k20;generalize ib3+1+k2=m;clear hk2;generalize k2=d2;revert o2 m d2;refine ?key3
     case d2=>exact ?key3 _ _ _ pm5 (by lia) (Q7 _)
     intro o2 m d2 pm6 m1 m0;refine bN (by lia) λp4 hp4=>?_
     have pm7:=pm6.px hp4;refine dm (λe10=>Q3 (l8.dn _ _ _ _ _ _ _ _ g3 pm7.last)) (λe10=>?_)
     refine bU (λ_=>?_) (λ_=>?_)
     .exact Q3 (l8.go _ _ _ _ _ _ _ g3 pm7 (by lia) (by lia) (by lia))
     .exact Q3 (L5.mk _ _ _ _ _ _ _ g3 pm7 (by lia) (by lia) (by lia))
    case post2=>
     rintro _ st3 (⟨r,out3,ia3,ib3,mg3,ac3,bc3,_,g3,pr⟩|⟨out3,ia3,ib3,mg3,ac3,bc3,_,g3,pm3,a3,b3,c3⟩)
     .exact Q3 (Ai.mk _ _ _ _ _ _ g3 pr)
     .dsimp only;refine Q2 (RA ?_);exact Q3 (LB.mk _ _ _ _ _ g3 pm3 a3 b3 (by lia))
end
noncomputable def Pr (xs ys out:Array Keyed) (na nb:Nat):Prop:=out.toList.Perm (xs.toList.drop na++ys.toList.drop nb)
section
variable{xs ys out:Array Keyed}{na nb k:Nat}
def gU(zs:Array Keyed){i n:Nat}(h:i<=n):zs.toList.drop i=(zs.extract i n).toList++zs.toList.drop n:=by obtain⟨d,rfl⟩:=Nat.exists_eq_add_of_le h;rw[US,UT,Sf,<-List.drop_drop];exact(Se d _).symm
def Pr.x(h:Pr xs ys out na nb)(hk:k<=na):Pr xs ys (out++(xs.extract k na).reverse) k nb:=by unfold Pr at *;rw[Qv,gU xs hk,UU,Qh];refine(h.append_right _).trans ?_;refine SH.trans ?_;exact T9 _ (UW _)
def Pr.y(h:Pr xs ys out na nb)(hk:k<=nb):Pr xs ys (out++(ys.extract k nb).reverse) na k:=by unfold Pr at *;rw[Qv,gU ys hk,UU];refine(h.append_right _).trans ?_;rw[Qh];refine SG _ ?_;refine SH.trans ?_;exact T9 _ (UW _)
def we{zs out:Array Keyed}{i:Nat}(h1:1<=i)(hp:zs[i-1]?=some p):out.push p=out++(zs.extract (i-1) i).reverse:=by
 have e:=qp (out:=#[]) hp;rw[show i-1+1=i by lia]at e;have e2:zs.extract (i-1) i=#[p]:=by rw[Array.empty_append]at e;exact e.symm
 rw[e2];rfl
def Pr.px{p:Keyed}(h:Pr xs ys out na nb)(h1:1<=na)(hp:xs[na-1]?=some p):Pr xs ys (out.push p) (na-1) nb:=by rw[we h1 hp];exact h.x (by lia)
def Pr.py{p:Keyed}(h:Pr xs ys out na nb)(h1:1<=nb)(hp:ys[nb-1]?=some p):Pr xs ys (out.push p) na (nb-1):=by rw[we h1 hp];exact h.y (by lia)
def Pr.done(h:Pr xs ys out na nb):(xs.extract 0 na++ys.extract 0 nb++out.reverse).toList.Perm (xs.toList++ys.toList):=by
 unfold Pr at h;have e1:=gU xs (Qt na);have e2:=gU ys (Qt nb);rw[TF]at e1 e2;rw[Qv,Qv,UU]
 conv=>rhs;rw[e1,e2]
 rw[Qh,Qh];refine SG _ ?_;refine(SG _ ((UW _).trans h)).trans ?_;rw[<-Qh,<-Qh];exact T9 _ SH
def Pr.first(h:Pr xs ys out na nb):(ys.extract 0 nb++xs.extract 0 na++out.reverse).toList.Perm (xs.toList++ys.toList):=by refine List.Perm.trans ?_ h.done;rw[Qv,Qv,Qv,Qv];exact T9 _ SH
end
inductive Jg(st:SortSt)(xs ys:Array Keyed) (x:Nat):Option (Array Keyed)×Nat×Nat×Array Keyed×Nat->SortSt->Prop
 |mk:∀(na nb:Nat)(out:Array Keyed) (mg:Nat)(st':SortSt),kq st st'->Pr xs ys out na nb->1<=na->2<=nb->na<=xs.size->nb<=ys.size->na+nb+x+1<=xs.size+ys.size->Jg st xs ys x (none,na,nb,out,mg) st'
inductive Aj(st:SortSt)(xs ys:Array Keyed):Option (Array Keyed)×Nat×Nat×Array Keyed×Nat->SortSt->Prop
 |mk:∀(r:Array Keyed) (na nb:Nat)(out:Array Keyed) (mg:Nat)(st':SortSt),kq st st'->r.toList.Perm (xs.toList++ys.toList)->Aj st xs ys (some r,na,nb,out,mg) st'
inductive G5(st:SortSt)(xs ys:Array Keyed) (n y:Nat):Option (Array Keyed)×Nat×Nat×Array Keyed×Nat×Nat->SortSt->Prop
 |mk:∀(na nb:Nat)(out:Array Keyed) (ac bc:Nat),Pr xs ys out na nb->1<=na->2<=nb->na<=xs.size->nb<=ys.size->na+nb+y<=n->G5 st xs ys n y (none,na,nb,out,ac,bc) st
inductive qe(st:SortSt)(xs ys:Array Keyed) (n:Nat):Option (Array Keyed)×Nat×Nat×Array Keyed×Nat×Nat->SortSt->Prop
 |dn:∀(r:Array Keyed) (na nb:Nat)(out:Array Keyed) (ac bc:Nat),r.toList.Perm (xs.toList++ys.toList)->qe st xs ys n (some r,na,nb,out,ac,bc) st
 |go:∀(na nb:Nat)(out:Array Keyed) (ac bc:Nat),Pr xs ys out na nb->1<=na->2<=nb->na<=xs.size->nb<=ys.size->na+nb+1<=n->qe st xs ys n (none,na,nb,out,ac,bc) st
inductive Ks(st:SortSt)(xs ys:Array Keyed) (n:Nat):Option (Array Keyed)×Nat×Nat×Array Keyed×Nat×Nat×Nat->SortSt->Prop
 |mk:∀(na nb:Nat)(out:Array Keyed) (mg ac bc:Nat)(st':SortSt),kq st st'->Pr xs ys out na nb->1<=na->2<=nb->na<=xs.size->nb<=ys.size->na+nb<=n->Ks st xs ys n (none,na,nb,out,mg,ac,bc) st'
inductive mS(st:SortSt)(xs ys:Array Keyed) (n:Nat):Option (Array Keyed)×Nat×Nat×Array Keyed×Nat×Nat×Nat->SortSt->Prop
 |dn:∀(r:Array Keyed) (na nb:Nat)(out:Array Keyed) (mg ac bc:Nat)(st':SortSt),kq st st'->r.toList.Perm (xs.toList++ys.toList)->mS st xs ys n (some r,na,nb,out,mg,ac,bc) st'
 |go:∀(na nb:Nat)(out:Array Keyed) (mg ac bc:Nat)(st':SortSt),kq st st'->Pr xs ys out na nb->1<=na->2<=nb->na<=xs.size->nb<=ys.size->na+nb<=n->mS st xs ys n (none,na,nb,out,mg,ac,bc) st'
section
variable{prog:Program}{w:World}{A:Around}{E:Uq}{s:Shared}{kd:SortKind}{P:Value->Prop}
def MH{st:SortSt}(L:iw prog w A s kd P)(hk:kindOf st=kd)(G1:Good P xs)(G2:Good P ys)(h1:1<=xs.size)(h2:1<=ys.size)(h:∀zs st',kq st st'->zs.toList.Perm (xs.toList++ys.toList)->Q zs st') : wpS (model prog w) A E s (xh xs ys) Q st:=by
 unfold xh;refine Q2 (Rw (RJ ⟨rfl,?_⟩));dsimp only;refine bN (by lia) λp hp=>?_;have pm0:Pr xs ys #[p] (xs.size-1) ys.size:=by
  have z:Pr xs ys #[] xs.size ys.size:=by unfold Pr;rw[Tq (by simp),Tq (by simp)];exact List.Perm.refl _
  exact z.px h1 hp
 have g0:kq st st:=⟨rfl,rfl,rfl,rfl⟩;refine dm (λe1=>Q3 (h _ _ g0 pm0.done)) (λe1=>?_);refine dm (λe2=>Q3 (h _ _ g0 pm0.first)) (λe2=>?_);refine Q2 (wpS_get ?_);refine Q2 (Qk (Ql (I:=Jg st xs ys) (Q:=Aj st xs ys) ?step ?fin (.mk _ _ _ _ _ g0 pm0 (by lia) (by lia) (by lia) (by lia) (by lia))) ?post)
 case post=>
  rintro _ st'⟨r,na,nb,out,mg,_,g,pr⟩;dsimp only;exact Q3 (h _ _ g pr)
 case fin=>
  rintro _ st'⟨na,nb,out,mg,_,_,_,a,b,c,d,e⟩;lia
 case step=>
  rintro x _ st' _ _⟨na,nb,out,mg,_,g,pm,a1,b1,c1,d1,f1⟩;dsimp only;have hk':kindOf st'=kd:=g.1.trans hk;refine Q2 (Qk (Ql (I:=G5 st' xs ys (na+nb)) (Q:=qe st' xs ys (na+nb)) ?step1 ?fin1 (.mk _ _ _ _ _ pm a1 b1 c1 d1 (by lia))) ?post1)
  case fin1=>
   rintro _ _⟨na2,mY,out2,ac,bc,_,a,b,c,d,e⟩;lia
  case step1=>
   rintro y _ _ _ _⟨na2,mY,out2,ac,bc,pm2,a2,b2,c2,d2,f2⟩;dsimp only;refine bN (by lia) λp1 hp1=>?_
   refine bN (by lia) λp2 hp2=>?_
   refine wI L hk' (G2 _ _ hp1) (G1 _ _ hp2) λb=>?_
   dsimp only;cases b with
   |true=>rw[if_pos rfl];refine bN (by lia) λp3 hp3=>?_;have pm3:=pm2.px (by lia) hp3;refine dm (λe3=>Q3 (qe.dn _ _ _ _ _ _ pm3.done)) (λe3=>?_);refine bU (λe4=>?_) (λe4=>?_);{exact Q3 (qe.go _ _ _ _ _ pm3 (by lia) (by lia) (by lia) (by lia) (by lia))};exact Q3 (G5.mk _ _ _ _ _ pm3 (by lia) (by lia) (by lia) (by lia) (by lia))
   |false=>rw[if_neg QW];refine bN (by lia) λp3 hp3=>?_;have pm3:=pm2.py (by lia) hp3;refine dm (λe3=>Q3 (qe.dn _ _ _ _ _ _ pm3.first)) (λe3=>?_);refine bU (λe4=>?_) (λe4=>?_);{exact Q3 (qe.go _ _ _ _ _ pm3 (by lia) (by lia) (by lia) (by lia) (by lia))};exact Q3 (G5.mk _ _ _ _ _ pm3 (by lia) (by lia) (by lia) (by lia) (by lia))
  case post1=>
   rintro _ _ (⟨r,na2,mY,out2,ac,bc,pr⟩|⟨na2,mY,out2,ac,bc,pm2,a2,b2,c2,d2,f2⟩)
   .exact Q3 (Aj.mk _ _ _ _ _ _ g pr)
   .dsimp only;refine Q2 (Rw (RJ ⟨rfl,?_⟩));refine Q2 (Qk (Ql (I:=λ_=>Ks st xs ys (na2+mY)) (Q:=mS st xs ys (na2+mY)) ?step2 (λc st3 q=>by cases q;exact .go _ _ _ _ _ _ _ ‹_› ‹_› ‹_› ‹_› ‹_› ‹_› ‹_›) (.mk _ _ _ _ _ _ _ g pm2 a2 b2 c2 d2 (Q7 _))) ?post2)
    case step2=>
     rintro y _ st3 _ _⟨na3,nb3,out3,mg3,ac3,bc3,_,g3,pm3,a3,b3,c3,d3,f3⟩;dsimp only;have hk3:kindOf st3=kd:=g3.1.trans hk;refine bU (λe5=>?b1) (λe5=>?b2)
     generalize mg3-1=v;clear e5;revert v;refine ?key
     case b2=>exact ?key mg3
     intro v;refine Q2 (RA ?_);refine bN (by lia) λp1 hp1=>?_
     refine mQ L hk3 (G2 _ _ hp1) G1 (by lia) (by lia) λk hk1=>?_
     dsimp only;refine bU (λk0=>?c1) (λk0=>?c2)
     have pm4:=pm3.x hk1;refine dm (λe7=>Q3 (mS.dn _ _ _ _ _ _ _ _ g3 pm4.done)) (λe7=>?_)
     generalize out3++(xs.extract k na3).reverse=o at pm4⊢;generalize na3-k=d;have n1:1<=k:=by lia
     revert n1 pm4;clear e7 k0;revert hk1;generalize k=n;revert d o n;refine ?key2
     case c2=>exact ?key2 out3 (na3-k) na3 (Q7 _) pm3 (by lia)
     intro o d n hk1 pm4 n1;refine bN (by lia) λp2 hp2=>?_
     have pm5:=pm4.py (by lia) hp2
     refine dm (λe8=>Q3 (mS.dn _ _ _ _ _ _ _ _ g3 pm5.first)) (λe8=>?_)
     refine bN (by lia) λp3 hp3=>?_
     refine mQ L hk3 (G1 _ _ hp3) G2 (by lia) (by lia) λk2 hk2=>?_
     dsimp only;refine bU (λk20=>?d1) (λk20=>?d2)
     have pm6:=pm5.y hk2;refine dm (λe9=>Q3 (mS.dn _ _ _ _ _ _ _ _ g3 pm6.first)) (λe9=>?_)
     refine dm (λe9'=>Q3 (mS.dn _ _ _ _ _ _ _ _ g3 pm6.done)) (λe9'=>?_)
     have n2:2<=k2:=by lia
     revert n2 pm6;generalize o.push _++(ys.extract k2 (nb3-1)).reverse=o2;generalize nb3-1-k2=d2;clear e9 e9' k20;revert hk2;generalize k2=m;revert d2 o2 m;refine ?key3
     case d2=>exact ?key3 _ _ _ (Q7 _) pm5 (by lia)
     intro o2 d2 m hm pm6 n2;refine bN (by lia) λp4 hp4=>?_
     have pm7:=pm6.px (by lia) hp4
     refine dm (λe10=>Q3 (mS.dn _ _ _ _ _ _ _ _ g3 pm7.done)) (λe10=>?_)
     refine bU (λ_=>?_) (λ_=>?_)
     .exact Q3 (mS.go _ _ _ _ _ _ _ g3 pm7 (by lia) (by lia) (by lia) (by lia) (by lia))
     .exact Q3 (Ks.mk _ _ _ _ _ _ _ g3 pm7 (by lia) (by lia) (by lia) (by lia) (by lia))
    case post2=>
     rintro _ st3 (⟨r,na3,nb3,out3,mg3,ac3,bc3,_,g3,pr⟩|⟨na3,nb3,out3,mg3,ac3,bc3,_,g3,pm3,a3,b3,c3,d3,f3⟩)
     .exact Q3 (Aj.mk _ _ _ _ _ _ g3 pr)
     .dsimp only;refine Q2 (RA ?_);exact Q3 (Jg.mk _ _ _ _ _ g3 pm3 a3 b3 c3 d3 (by lia))
end
structure SB(kd:SortKind)(xs0:Array Keyed)(st:SortSt):Prop where
 perm:(arrOf st).Perm xs0
 kind:kindOf st=kd
 ok:failedOf st=none
theorem SB.size{kd:SortKind}{st:SortSt}(B:SB kd xs0 st):(arrOf st).size=xs0.size:=B.perm.size_eq
def Good.perm(G:Good P ys)(p:xs.Perm ys):Good P xs:=λi q h=>by have m:q∈xs.toList:=Qi (by rw[SK];exact h);have m2:q∈ys.toList:=(UX.mp p).mem_iff.mp m;obtain⟨j,hj⟩:=Rm m2;rw[SK]at hj;exact G j q hj
section
variable{prog:Program}{w:World}{A:Around}{E:Uq}{s:Shared}{kd:SortKind}{P:Value->Prop}{xs0:Array Keyed}
def eK{st:SortSt}{i j:Nat}(L:iw prog w A s kd P)(G:Good P xs0)(B:SB kd xs0 st)(hi:i<xs0.size)(hj:j<xs0.size)(h:∀b,Q (some b) st):wpS (model prog w) A E s (ltAt' i j) Q st:=by rw[ltAt'_eq];refine Q2 (wpS_get ?_);have G':=G.perm B.perm;refine Q2 (jq (by rw[B.size];exact hi) λp hp=>?_);refine Q2 (jq (by rw[B.size];exact hj) λq hq=>?_);exact ask L B.kind (G' _ _ hp) (G' _ _ hq) h
def gO{st:SortSt}{i j:Nat}(B:SB kd xs0 st)(h:∀st',SB kd xs0 st'->pendingOf st'=pendingOf st->Q () st'):wpS (model prog w) A E s (reverseSlice' i j) Q st:=by rw[reverseSlice'_eq];exact RA (h _ ⟨(mirror_perm _ _ _ _).trans B.perm,B.kind,B.ok⟩ rfl)
def Ez{st:SortSt}{lo nrem:Nat}(L:iw prog w A s kd P)(G:Good P xs0)(B:SB kd xs0 st)(h1:1<=nrem)(hn:lo+nrem<=xs0.size)(h:∀m st',SB kd xs0 st'->pendingOf st'=pendingOf st->1<=m->m<=nrem->Q (some m) st') : wpS (model prog w) A E s (countRun' lo nrem) Q st:=by
 unfold countRun';refine Q2 (Qk (Ql (I:=λx c st'=>st'=st/\c.1=none/\c.2=x) (Q:=λc st'=>st'=st/\c.1=none/\1<=c.2/\c.2<=nrem) ?step ?fin ⟨rfl,rfl,rfl⟩) ?post)
 case step=>
  rintro x⟨o,n⟩st' a b⟨rfl,rfl,rfl⟩;dsimp only;refine Q2 (eK L G B (by dsimp only at a b;lia) (by dsimp only at a b;lia) λc=>?_)
  dsimp only;refine bU (λ_=>Q3 ⟨rfl,rfl,by dsimp only at a b⊢;lia,by dsimp only at a b⊢;lia⟩) (λ_=>Q3 ⟨rfl,rfl,rfl⟩)
 case fin=>
  rintro⟨o,n⟩st'⟨rfl,rfl,e⟩;dsimp only at e;exact⟨rfl,rfl,by dsimp only;lia,by dsimp only;lia⟩
 case post=>
  rintro⟨o,n⟩st'⟨rfl,rfl,n1,n2⟩;dsimp only at n1 n2⊢;refine dm (λe=>Q3 (h _ _ B rfl n1 n2)) (λe=>?_)
  refine bU (λn0=>?_) (λn0=>?_)
  .refine Q2 (eK L G B (by lia) (by lia) λc=>?_)
   dsimp only;refine bU (λ_=>Q3 (h _ _ B rfl n1 n2)) (λ_=>?_)
   refine Q2 (gO B λst6 B6 p6=>?_)
   refine Q2 (Rw (RJ ⟨rfl,?_⟩));refine Q2 (Qk (Ql (I:=λx c st2=>SB kd xs0 st2/\pendingOf st2=pendingOf st'/\c.1=none/\c.2.1=x) (Q:=λc st2=>SB kd xs0 st2/\pendingOf st2=pendingOf st'/\c.1=none/\1<=c.2.1/\c.2.1<=nrem) ?step1 ?fin1 ⟨B6,p6,rfl,rfl⟩) ?post1)
   case step1=>
    rintro x⟨o,m,q⟩st2 a b⟨B2,p2,rfl,rfl⟩;dsimp only at a b⊢;refine Q2 (eK L G B2 (by lia) (by lia) λc=>?_)
    dsimp only;refine bU (λ_=>?_) (λ_=>?_)
    .refine bU (λ_=>?_) (λ_=>?_)
     .exact Q2 (gO B2 λst3 B3 p3=>Q3 ⟨B3,p3.trans p2,rfl,rfl⟩)
     .exact Q3 ⟨B2,p2,rfl,rfl⟩
    .refine Q2 (eK L G B2 (by lia) (by lia) λc2=>?_)
     dsimp only;refine bU (λ_=>?_) (λ_=>?_)
     .exact Q3 ⟨B2,p2,rfl,by dsimp only;lia,by dsimp only;lia⟩
     .exact Q3 ⟨B2,p2,rfl,rfl⟩
   case fin1=>
    rintro⟨o,m,q⟩st2⟨B2,p2,rfl,e2⟩;dsimp only at e2;exact⟨B2,p2,rfl,by dsimp only;lia,by dsimp only;lia⟩
   case post1=>
    rintro⟨o,m,q⟩st2⟨B2,p2,rfl,m1,m2⟩;dsimp only at m1 m2⊢;refine bU (λ_=>?_) (λ_=>?_)
    .refine Q2 (gO B2 λst3 B3 p3=>?_)
     refine Q2 (gO B3 λst4 B4 p4=>?_)
     refine Q2 (Qk (Ql (I:=λx c st5=>st5=st4/\c.1=none/\c.2=x) (Q:=λc st5=>st5=st4/\c.1=none/\1<=c.2/\c.2<=nrem) ?stepL2 ?finL2 ⟨rfl,rfl,rfl⟩) ?postL2)
     case stepL2=>
      rintro x⟨o,m⟩st5 a b⟨rfl,rfl,rfl⟩;dsimp only at a b⊢;refine Q2 (eK L G B4 (by lia) (by lia) λc=>?_)
      dsimp only;refine bU (λ_=>Q3 ⟨rfl,rfl,by dsimp only;lia,by dsimp only;lia⟩) (λ_=>Q3 ⟨rfl,rfl,rfl⟩)
     case finL2=>
      rintro⟨o,m⟩st5⟨rfl,rfl,e2⟩;dsimp only at e2;exact⟨rfl,rfl,by dsimp only;lia,by dsimp only;lia⟩
     case postL2=>
      rintro⟨o,m⟩st5⟨rfl,rfl,k1,k2⟩;dsimp only at k1 k2⊢;exact Q3 (h _ _ B4 (p4.trans (p3.trans p2)) k1 k2)
    .refine Q2 (gO B2 λst4 B4 p4=>?_)
     refine Q2 (Qk (Ql (I:=λx c st5=>st5=st4/\c.1=none/\c.2=x) (Q:=λc st5=>st5=st4/\c.1=none/\1<=c.2/\c.2<=nrem) ?stepL3 ?finL3 ⟨rfl,rfl,rfl⟩) ?postL3)
     case stepL3=>
      rintro x⟨o,m⟩st5 a b⟨rfl,rfl,rfl⟩;dsimp only at a b⊢;refine Q2 (eK L G B4 (by lia) (by lia) λc=>?_)
      dsimp only;refine bU (λ_=>Q3 ⟨rfl,rfl,by dsimp only;lia,by dsimp only;lia⟩) (λ_=>Q3 ⟨rfl,rfl,rfl⟩)
     case finL3=>
      rintro⟨o,m⟩st5⟨rfl,rfl,e2⟩;dsimp only at e2;exact⟨rfl,rfl,by dsimp only;lia,by dsimp only;lia⟩
     case postL3=>
      rintro⟨o,m⟩st5⟨rfl,rfl,k1,k2⟩;dsimp only at k1 k2⊢;exact Q3 (h _ _ B4 (p4.trans p2) k1 k2)
  .have p6:pendingOf st'=pendingOf st':=rfl;refine Q2 (Rw (RJ ⟨rfl,?_⟩));refine Q2 (Qk (Ql (I:=λx c st2=>SB kd xs0 st2/\pendingOf st2=pendingOf st'/\c.1=none/\c.2.1=x) (Q:=λc st2=>SB kd xs0 st2/\pendingOf st2=pendingOf st'/\c.1=none/\1<=c.2.1/\c.2.1<=nrem) ?step4 ?fin4 ⟨B,p6,rfl,rfl⟩) ?post4)
   case step4=>
    rintro x⟨o,m,q⟩st2 a b⟨B2,p2,rfl,rfl⟩;dsimp only at a b⊢;refine Q2 (eK L G B2 (by lia) (by lia) λc=>?_)
    dsimp only;refine bU (λ_=>?_) (λ_=>?_)
    .refine bU (λ_=>?_) (λ_=>?_)
     .exact Q2 (gO B2 λst3 B3 p3=>Q3 ⟨B3,p3.trans p2,rfl,rfl⟩)
     .exact Q3 ⟨B2,p2,rfl,rfl⟩
    .refine Q2 (eK L G B2 (by lia) (by lia) λc2=>?_)
     dsimp only;refine bU (λ_=>?_) (λ_=>?_)
     .exact Q3 ⟨B2,p2,rfl,by dsimp only;lia,by dsimp only;lia⟩
     .exact Q3 ⟨B2,p2,rfl,rfl⟩
   case fin4=>
    rintro⟨o,m,q⟩st2⟨B2,p2,rfl,e2⟩;dsimp only at e2;exact⟨B2,p2,rfl,by dsimp only;lia,by dsimp only;lia⟩
   case post4=>
    rintro⟨o,m,q⟩st2⟨B2,p2,rfl,m1,m2⟩;dsimp only at m1 m2⊢;refine bU (λ_=>?_) (λ_=>?_)
    .refine Q2 (gO B2 λst3 B3 p3=>?_)
     refine Q2 (gO B3 λst4 B4 p4=>?_)
     refine Q2 (Qk (Ql (I:=λx c st5=>st5=st4/\c.1=none/\c.2=x) (Q:=λc st5=>st5=st4/\c.1=none/\1<=c.2/\c.2<=nrem) ?stepL5 ?finL5 ⟨rfl,rfl,rfl⟩) ?postL5)
     case stepL5=>
      rintro x⟨o,m⟩st5 a b⟨rfl,rfl,rfl⟩;dsimp only at a b⊢;refine Q2 (eK L G B4 (by lia) (by lia) λc=>?_)
      dsimp only;refine bU (λ_=>Q3 ⟨rfl,rfl,by dsimp only;lia,by dsimp only;lia⟩) (λ_=>Q3 ⟨rfl,rfl,rfl⟩)
     case finL5=>
      rintro⟨o,m⟩st5⟨rfl,rfl,e2⟩;dsimp only at e2;exact⟨rfl,rfl,by dsimp only;lia,by dsimp only;lia⟩
     case postL5=>
      rintro⟨o,m⟩st5⟨rfl,rfl,k1,k2⟩;dsimp only at k1 k2⊢;exact Q3 (h _ _ B4 (p4.trans (p3.trans p2)) k1 k2)
    .refine Q2 (gO B2 λst4 B4 p4=>?_)
     refine Q2 (Qk (Ql (I:=λx c st5=>st5=st4/\c.1=none/\c.2=x) (Q:=λc st5=>st5=st4/\c.1=none/\1<=c.2/\c.2<=nrem) ?stepL6 ?finL6 ⟨rfl,rfl,rfl⟩) ?postL6)
     case stepL6=>
      rintro x⟨o,m⟩st5 a b⟨rfl,rfl,rfl⟩;dsimp only at a b⊢;refine Q2 (eK L G B4 (by lia) (by lia) λc=>?_)
      dsimp only;refine bU (λ_=>Q3 ⟨rfl,rfl,by dsimp only;lia,by dsimp only;lia⟩) (λ_=>Q3 ⟨rfl,rfl,rfl⟩)
     case finL6=>
      rintro⟨o,m⟩st5⟨rfl,rfl,e2⟩;dsimp only at e2;exact⟨rfl,rfl,by dsimp only;lia,by dsimp only;lia⟩
     case postL6=>
      rintro⟨o,m⟩st5⟨rfl,rfl,k1,k2⟩;dsimp only at k1 k2⊢;exact Q3 (h _ _ B4 (p4.trans p2) k1 k2)
def JG{st:SortSt}{lo n k:Nat}(L:iw prog w A s kd P)(G:Good P xs0)(B:SB kd xs0 st)(hn:lo+n<=xs0.size)(h:∀st',SB kd xs0 st'->pendingOf st'=pendingOf st->Q true st') : wpS (model prog w) A E s (binarySort' lo n k) Q st:=by
 unfold binarySort';refine Q2 (Qk (Ql (I:=λx c st'=>SB kd xs0 st'/\pendingOf st'=pendingOf st/\c.1=none) (Q:=λc st'=>SB kd xs0 st'/\pendingOf st'=pendingOf st/\c.1=none) ?step (λ_ _ q=>q) ⟨B,rfl,rfl⟩) ?post)
 case post=>
  rintro⟨o,u⟩st'⟨B1,p1,rfl⟩;exact Q3 (h _ B1 p1)
 case step=>
  rintro x⟨o,u⟩st' a b⟨B1,p1,rfl⟩;dsimp only;refine Q2 (Qk (Ql (I:=λy c st2=>st2=st'/\c.1=none/\c.2.2<=x) (Q:=λc st2=>st2=st'/\c.1=none/\c.2.2<=x) ?step1 (λ_ _ q=>q) ⟨rfl,rfl,Q7 _⟩) ?post1)
  case step1=>
   rintro y⟨o,l,r⟩st2 _ _⟨rfl,rfl,le⟩;dsimp only at le⊢;refine bU (λ_=>Q3 ⟨rfl,rfl,le⟩) (λlr=>?_)
   refine Q2 (eK L G B1 (by lia) (by lia) λc=>?_)
   dsimp only;refine bU (λ_=>Q3 ⟨rfl,rfl,by dsimp only;lia⟩) (λ_=>Q3 ⟨rfl,rfl,le⟩)
  case post1=>
   rintro⟨o,l,r⟩st2⟨rfl,rfl,le⟩;dsimp only;refine Q2 (RA ?_);exact Q3 ⟨⟨(bubble_perm _ _ _).trans B1.perm,B1.kind,B1.ok⟩,p1,rfl⟩
end
theorem wC(sa:Nat):∀(l:List Keyed) (i:Nat)(a:Array Keyed),sa+i+l.length<=a.size->((l.zipIdx i).foldl (λa (x:Keyed×Nat)=>a.setIfInBounds (sa+x.2) x.1) a).toList=a.toList.take (sa+i)++(l++a.toList.drop (sa+i+l.length))
 |[],i,a,h=>by simp
 |p::r,i,a,h=>by
  have hl:(p::r).length=r.length+1:=rfl;rw[hl]at h;rw[List.zipIdx_cons,List.foldl_cons,wC sa r (i+1) _ (by rw[Array.size_setIfInBounds];lia)];rw[Array.toList_setIfInBounds];have lt:sa+i<a.toList.length:=by simp;lia
  have e1:(a.toList.set (sa+i) p).take (sa+(i+1))=a.toList.take (sa+i)++[p]:=by rw[show sa+(i+1)=sa+i+1 by lia,Tr,List.take_set_of_le (Q7 _),Ro lt];rfl
  have e2:(a.toList.set (sa+i) p).drop (sa+(i+1)+r.length)=a.toList.drop (sa+i+(p::r).length):=by rw[List.drop_set_of_lt (by lia),hl];congr 1;lia
  rw[e1,e2];simp
def seg(a:Array Keyed){i j k:Nat}(h1:i<=j)(h2:j<=k):a.toList=a.toList.take i++((a.extract i j).toList++((a.extract j k).toList++a.toList.drop k)):=by have e1:=gU a h1;have e2:=gU a h2;rw[<-e2,<-e1,Se]
section
variable{prog:Program}{w:World}{A:Around}{E:Uq}{s:Shared}{kd:SortKind}{P:Value->Prop}{xs0:Array Keyed}
theorem Good.extract(G:Good P xs) (i j:Nat):Good P (xs.extract i j):=λk p h=>by rw[Array.getElem?_extract]at h;split at h;{exact G _ _ h};cases h
def EK{st:SortSt}{i sa na pw sb nb pb:Nat}(L:iw prog w A s kd P)(G:Good P xs0)(B:SB kd xs0 st)(e1:(pendingOf st)[i]?=some (sa,na,pw))(e2:(pendingOf st)[i+1]?=some (sb,nb,pb))(c:sb=sa+na)(n1:1<=na)(n2:1<=nb)(le:sb+nb<=xs0.size)(h:∀st',SB kd xs0 st'->pendingOf st'=((pendingOf st).setIfInBounds i (sa,na+nb,pw)).eraseIdxIfInBounds (i+1)->Q true st'):wpS (model prog w) A E s (mergeAt' i) Q st:=by
 have G':=G.perm B.perm;have sz:=B.size;unfold mergeAt';refine Q2 (wpS_get ?_);dsimp only;rw[e1,e2];dsimp only;refine Q2 (?_:wpS _ _ _ _ (set _) _ _);unfold wpS;rw[StateT.run_set];refine Q6 ⟨rfl,?_⟩;refine Q2 (jq (by rw[sz];lia) λp hp=>?_);have B1:SB kd xs0 (SortSt.mk' (kindOf st) (arrOf st) (((pendingOf st).setIfInBounds i (sa,na+nb,pw)).eraseIdxIfInBounds (i+1)) (gallopOf st) (failedOf st)):=⟨B.perm,B.kind,B.ok⟩;refine Q2 (nP L B.kind (G' _ _ hp) G' (show sa+na<=(arrOf st).size by lia) (by lia) λk hk=>?_);dsimp only;refine dm (λ_=>Q3 (h _ B1 rfl)) (λe3=>?_);refine Q2 (jq (show sa+k+(na-k)-1<(arrOf st).size by lia) λp2 hp2=>?_);refine Q2 (nP L B.kind (G' _ _ hp2) G' (show sb+nb<=(arrOf st).size by lia) (by lia) λk2 hk2=>?_);dsimp only;refine dm (λ_=>Q3 (h _ B1 rfl)) (λe4=>?_);have x1:((arrOf st).extract (sa+k) sb).size=sb-(sa+k):=by rw[Array.size_extract];lia
 have x2:((arrOf st).extract sb (sb+k2)).size=k2:=by rw[Array.size_extract];lia
 have fin:∀zs:Array Keyed,zs.toList.Perm (((arrOf st).extract (sa+k) sb).toList++((arrOf st).extract sb (sb+k2)).toList)->(zs.toList.zipIdx.foldl (λa (x:Keyed×Nat)=>a.setIfInBounds (sa+k+x.2) x.1) (arrOf st)).Perm xs0:=λzs pm=>by
  have zl:zs.toList.length=sb+k2-(sa+k):=by rw[pm.length_eq,QE,Rq,Rq,x1,x2];lia
  refine Array.Perm.trans (UX.mpr ?_) B.perm;rw[wC (sa+k) zs.toList 0 (arrOf st) (by lia)];have e:=seg (arrOf st) (show sa+k<=sb by lia) (show sb<=sb+k2 by lia);rw[Nat.add_zero,show sa+k+zs.toList.length=sb+k2 by lia]
  conv=>rhs;rw[e]
  refine SG _ ?_;rw[<-Qh];exact pm.append_right _
 refine bU (λ_=>?_) (λ_=>?_)
 .refine Q2 (Mv L B.kind (G'.extract _ _) (G'.extract _ _) (show 1<=((arrOf st).extract (sa+k) sb).size by lia) (show 1<=((arrOf st).extract sb (sb+k2)).size by lia) λzs st2 g pm=>?_);obtain⟨g1,g2,g3,g4⟩:=g;refine Q2 (RA ?_);refine Q2 (wpS_get ?_);refine Q3 ?_;have e:(failedOf st2).isNone=true:=by rw[g4];show(failedOf st).isNone=true;rw[B.ok];rfl
  show Q (failedOf st2).isNone _;rw[e];refine h _ ⟨?_,g1.trans B.kind,g4.trans B.ok⟩ g3;show(zs.toList.zipIdx.foldl (λa (x:Keyed×Nat)=>a.setIfInBounds (sa+k+x.2) x.1) (arrOf st2)).Perm xs0;rw[g2];exact fin zs pm
 refine Q2 (MH L B.kind (G'.extract _ _) (G'.extract _ _) (show 1<=((arrOf st).extract (sa+k) sb).size by lia) (show 1<=((arrOf st).extract sb (sb+k2)).size by lia) λzs st2 g pm=>?_);obtain⟨g1,g2,g3,g4⟩:=g;refine Q2 (RA ?_);refine Q2 (wpS_get ?_);refine Q3 ?_;have e:(failedOf st2).isNone=true:=by rw[g4];show(failedOf st).isNone=true;rw[B.ok];rfl
 show Q (failedOf st2).isNone _;rw[e];refine h _ ⟨?_,g1.trans B.kind,g4.trans B.ok⟩ g3;show(zs.toList.zipIdx.foldl (λa (x:Keyed×Nat)=>a.setIfInBounds (sa+k+x.2) x.1) (arrOf st2)).Perm xs0;rw[g2];exact fin zs pm
end
noncomputable def Cont:Nat->List (Nat×Nat×Nat)->Nat->Prop
 |f,[],lo=>f=lo
 |f,(s,n,_)::r,lo=>s=f/\1<=n/\Cont (f+n) r lo
theorem Cont.le:∀{l:List (Nat×Nat×Nat)}{f lo:Nat},Cont f l lo->f<=lo
 |[],f,lo,h=>T7 h
 | (s,n,p)::r,f,lo,⟨_,h1,h⟩=>by have:=Cont.le h;lia
theorem Cont.two:∀{l:List (Nat×Nat×Nat)}{f lo:Nat} (i:Nat),Cont f l lo->i+1<l.length->∃sa na pw sb nb pb,l[i]?=some (sa,na,pw)/\l[i+1]?=some (sb,nb,pb)/\sb=sa+na/\1<=na/\1<=nb/\sb+nb<=lo
 | (s,n,p)::(s2,n2,p2)::r,f,lo,0,⟨h1,h2,h3,h4,h5⟩,_=>⟨s,n,p,s2,n2,p2,rfl,rfl,by lia,h2,h4,by have:=h5.le;lia⟩
 | (s,n,p)::r,f,lo,i+1,⟨_,_,h⟩,hl=>Cont.two i h (by simpa using hl)
 |[],_,_,_,_,hl=>by simp at hl
 |[_],_,_,0,_,hl=>by simp at hl
theorem Cont.merge:∀{l:List (Nat×Nat×Nat)}{f lo:Nat} (i:Nat){sa na pw sb nb pb:Nat},Cont f l lo->l[i]?=some (sa,na,pw)->l[i+1]?=some (sb,nb,pb)->Cont f ((l.set i (sa,na+nb,pw)).eraseIdx (i+1)) lo
 | (s,n,p)::(s2,n2,p2)::r,f,lo,0,sa,na,pw,sb,nb,pb,⟨h1,h2,h3,h4,h5⟩,e1,e2=>by cases e1;cases e2;refine⟨h1,by lia,?_⟩;rw[<-Ra];exact h5
 | (s,n,p)::r,f,lo,i+1,sa,na,pw,sb,nb,pb,⟨h1,h2,h⟩,e1,e2=>⟨h1,h2,Cont.merge i h e1 e2⟩
 |[],_,_,_,_,_,_,_,_,_,_,e1,_=>by cases e1
 |[_],_,_,0,_,_,_,_,_,_,_,_,e2=>by cases e2
theorem Cont.mod(pw:Nat):∀{l:List (Nat×Nat×Nat)}{f lo:Nat} (j:Nat),Cont f l lo->Cont f (l.modify j λx=>(x.1,x.2.1,pw)) lo
 |[],f,lo,j,h=>by rw[List.modify_nil];exact h
 | (s,n,p)::r,f,lo,0,⟨h1,h2,h⟩=>⟨h1,h2,h⟩
 | (s,n,p)::r,f,lo,j+1,⟨h1,h2,h⟩=>⟨h1,h2,Cont.mod pw j h⟩
theorem Cont.push{n:Nat}(hn:1<=n):∀{l:List (Nat×Nat×Nat)}{f lo:Nat},Cont f l lo->Cont f (l++[(lo,n,0)]) (lo+n)
 |[],f,lo,h=>⟨h.symm,hn,by show f+n=lo+n;rw[show f=lo from h]⟩
 | (s,m,p)::r,f,lo,⟨h1,h2,h⟩=>⟨h1,h2,Cont.push hn h⟩
section
variable{prog:Program}{w:World}{A:Around}{E:Uq}{s:Shared}{kd:SortKind}{P:Value->Prop}{xs0:Array Keyed}
def qb{st:SortSt}{i lo:Nat}(L:iw prog w A s kd P)(G:Good P xs0)(B:SB kd xs0 st)(C:Cont 0 (pendingOf st).toList lo)(le:lo<=xs0.size)(hi:i+1<(pendingOf st).size)(h:∀st',SB kd xs0 st'->Cont 0 (pendingOf st').toList lo->Q true st'):wpS (model prog w) A E s (mergeAt' i) Q st:=by obtain⟨sa,na,pw,sb,nb,pb,e1,e2,c,n1,n2,l2⟩:=C.two i (by simpa using hi);refine EK L G B (by rw[<-SK];exact e1) (by rw[<-SK];exact e2) c n1 n2 (by lia) λst' B' p'=>h st' B' ?_;rw[p',Array.toList_eraseIdxIfInBounds,Array.toList_setIfInBounds];exact C.merge i e1 e2
def Io{st:SortSt}(L:iw prog w A s kd P)(G:Good P xs0)(B:SB kd xs0 st)(p0:pendingOf st=#[])(h:∀st',SB kd xs0 st'->Q () st'):wpS (model prog w) A E s sortRuns' Q st:=by
 rw[sortRuns'_eq];refine Q2 (wpS_get ?_);dsimp only;rw[B.size];refine Q2 (Qk (Ql (I:=λx c st'=>SB kd xs0 st'/\c.1=none/\Cont 0 (pendingOf st').toList c.2/\c.2<=xs0.size) (Q:=λc st'=>SB kd xs0 st'/\c.1=none/\Cont 0 (pendingOf st').toList c.2/\c.2<=xs0.size) ?step (λ_ _ q=>q) ⟨B,rfl,by rw[p0];rfl,Qt _⟩) ?post)
 case step=>
  rintro x⟨o,lo⟩st' _ _⟨B1,rfl,C1,l1⟩;dsimp only at C1 l1⊢;refine bU (λ_=>Q3 ⟨B1,rfl,C1,l1⟩) (λge=>?_)
  refine Q2 (Ez L G B1 (by lia) (by lia) λm st2 B2 p2 m1 m2=>?_)
  dsimp only;have C2:Cont 0 (pendingOf st2).toList lo:=by rw[p2];exact C1
  refine bU (λlt=>?_) (λlt=>?_)
  .refine Q2 (Rw (RJ ⟨rfl,?_⟩));generalize hf:min (xs0.size-lo) (minRun' xs0.size xs0.size 0)=force;have f1:1<=force:=by lia
   have f2:lo+force<=xs0.size:=by lia
   refine Q2 (JG L G B2 f2 λst3 B3 p3=>?_)
   have C3:Cont 0 (pendingOf st3).toList lo:=by rw[p3];exact C2
   refine bU (λz=>absurd z (by decide)) (λ_=>?_)
   refine Q2 (wpS_get ?_);cases hb:(pendingOf st3).back? with
   |none=>
    dsimp only;refine Q2 (RA ?_);refine Q3 ⟨⟨B3.perm,B3.kind,B3.ok⟩,rfl,?_,f2⟩;show Cont 0 ((pendingOf st3).push (lo,force,0)).toList (lo+force);rw[Tt];exact C3.push f1
   |some t=>
    obtain⟨s1,n1',q1⟩:=t;dsimp only;refine Q2 (Qk (Ql (I:=λy c st4=>SB kd xs0 st4/\c.1=none/\Cont 0 (pendingOf st4).toList lo) (Q:=λc st4=>SB kd xs0 st4/\c.1=none/\Cont 0 (pendingOf st4).toList lo) ?step1 (λ_ _ q=>q) ⟨B3,rfl,C3⟩) ?post1)
    case step1=>
     rintro y⟨o,u⟩st4 _ _⟨B4,rfl,C4⟩;refine Q2 (wpS_get ?_);cases hm:(if(pendingOf st4).size>1 then(pendingOf st4)[(pendingOf st4).size-2]? else none)with
     |none=>exact Q3 ⟨B4,rfl,C4⟩
     |some t=>
      obtain⟨f1,f2,older⟩:=t;dsimp only;refine bU (λ_=>Q3 ⟨B4,rfl,C4⟩) (λ_=>?_)
      have s2:(pendingOf st4).size>1:=by
       by_cases z:(pendingOf st4).size>1
       .exact z
       .rw[if_neg z]at hm;cases hm
      refine Q2 (qb L G B4 C4 l1 (by lia) λst5 B5 C5=>?_)
      exact bU (λz=>absurd z (by decide)) (λ_=>Q3 ⟨B5,rfl,C5⟩)
    case post1=>
     rintro⟨o,u⟩st4⟨B4,rfl,C4⟩;dsimp only;refine Q2 (RA ?_);refine Q2 (RA ?_);refine Q3 ⟨⟨B4.perm,B4.kind,B4.ok⟩,rfl,?_,f2⟩;refine id (?_:Cont 0 (((pendingOf st4).modify ((pendingOf st4).size-1) λx=>(x.1,x.2.1,_)).push (lo,force,0)).toList (lo+force))
     rw[Tt,Array.toList_modify];exact(C4.mod _ _).push f1
  .have f2:lo+m<=xs0.size:=by lia
   refine Q2 (wpS_get ?_);cases hb:(pendingOf st2).back? with
   |none=>
    dsimp only;refine Q2 (RA ?_);refine Q3 ⟨⟨B2.perm,B2.kind,B2.ok⟩,rfl,?_,f2⟩;show Cont 0 ((pendingOf st2).push (lo,m,0)).toList (lo+m);rw[Tt];exact C2.push m1
   |some t=>
    obtain⟨s1,n1',q1⟩:=t;dsimp only;refine Q2 (Qk (Ql (I:=λy c st4=>SB kd xs0 st4/\c.1=none/\Cont 0 (pendingOf st4).toList lo) (Q:=λc st4=>SB kd xs0 st4/\c.1=none/\Cont 0 (pendingOf st4).toList lo) ?step2 (λ_ _ q=>q) ⟨B2,rfl,C2⟩) ?post2)
    case step2=>
     rintro y⟨o,u⟩st4 _ _⟨B4,rfl,C4⟩;refine Q2 (wpS_get ?_);cases hm:(if(pendingOf st4).size>1 then(pendingOf st4)[(pendingOf st4).size-2]? else none)with
     |none=>exact Q3 ⟨B4,rfl,C4⟩
     |some t=>
      obtain⟨f1,f2,older⟩:=t;dsimp only;refine bU (λ_=>Q3 ⟨B4,rfl,C4⟩) (λ_=>?_)
      have s2:(pendingOf st4).size>1:=by
       by_cases z:(pendingOf st4).size>1
       .exact z
       .rw[if_neg z]at hm;cases hm
      refine Q2 (qb L G B4 C4 l1 (by lia) λst5 B5 C5=>?_)
      exact bU (λz=>absurd z (by decide)) (λ_=>Q3 ⟨B5,rfl,C5⟩)
    case post2=>
     rintro⟨o,u⟩st4⟨B4,rfl,C4⟩;dsimp only;refine Q2 (RA ?_);refine Q2 (RA ?_);refine Q3 ⟨⟨B4.perm,B4.kind,B4.ok⟩,rfl,?_,f2⟩;refine id (?_:Cont 0 (((pendingOf st4).modify ((pendingOf st4).size-1) λx=>(x.1,x.2.1,_)).push (lo,m,0)).toList (lo+m))
     rw[Tt,Array.toList_modify];exact(C4.mod _ _).push m1
 case post=>
  rintro⟨o,lo⟩st'⟨B1,rfl,C1,l1⟩;dsimp only at C1 l1⊢;refine Q2 (Qk (Ql (I:=λy c st4=>SB kd xs0 st4/\c.1=none/\Cont 0 (pendingOf st4).toList lo) (Q:=λc st4=>SB kd xs0 st4/\c.1=none/\Cont 0 (pendingOf st4).toList lo) ?stepE (λ_ _ q=>q) ⟨B1,rfl,C1⟩) ?postE)
  case stepE=>
   rintro y⟨o,u⟩st4 _ _⟨B4,rfl,C4⟩;refine Q2 (wpS_get ?_);refine bU (λ_=>Q3 ⟨B4,rfl,C4⟩) (λgt=>?_)
   refine Q2 (qb L G B4 C4 l1 (by(repeat' split)<;>lia) λst5 B5 C5=>?_)
   exact bU (λz=>absurd z (by decide)) (λ_=>Q3 ⟨B5,rfl,C5⟩)
  case postE=>
   rintro⟨o,u⟩st4⟨B4,rfl,C4⟩;dsimp only;exact Q3 (h _ B4)
end
noncomputable def IsPair (h:Heap)(v:Value):Prop:=∃(a:Addr)(o:Obj) (i j:Int)(t u:Tok) (n:Nat),v=.ref a/\h.get? a=some o/\o.cls=.type "tuple"/\o.data=.seq #[.int i t,.int j u] n
section
variable{prog:Program}{w:World}{A:Around}{E:Uq}{s:Shared}
def K2(b:Bool){i j:Int}(h:∀c,Q c s):wpAny (model prog w) A (oneLt' b (.int i t) (.int j u)) Q E s:=by
 cases b with
 |true=>exact oneLt_int (h _)
 |false=>rw[oneLt'_eq];rw[if_neg QW];refine Q0 (?_:wpAny _ _ (compareOp .Lt (.int i t) (.int j u)) _ _ _);exact lt_int (SR (h _))
def Ad:iw prog w A s (tuples' true) (IsPair s.heap):=by
 rintro E x y⟨a,o,i,j,t,u,n,rfl,ho,hc,hd⟩⟨a2,o2,i2,j2,t2,u2,n2,rfl,ho2,hc2,hd2⟩Q h;refine Q0 (Tu ho hd ?_);refine Q0 (Tu ho2 hd2 ?_);dsimp only;refine Q0 ?_;refine wpAny_forIn_list _ (λrest r s'=>s'=s/\r.1=none/\∀x∈rest,∃(i j:Int)(t u:Tok),x.1=(Value.int i t,Value.int j u)) _ ?_ ?_ _ _ ⟨rfl,rfl,λx hx=>?_⟩
 .rintro⟨⟨p,q⟩,k⟩rest⟨r,⟨⟩⟩s'⟨rfl,rfl,hall⟩;obtain⟨i3,j3,t3,u3,e⟩:=hall _ Q4;dsimp only at e;cases e;dsimp only;refine Q0 ((intKind prog w).eqBool (a:=i3) (b:=j3) (intKind_is _ _ i3 t3) (intKind_is _ _ j3 u3) ?_);cases decide (i3=j3)with
  |true=>exact Q6 ⟨rfl,rfl,λx hx=>hall x (QB _ hx)⟩
  |false=>exact Q0 (K2 _ λc=>Q6 (Q6 (h c)))
 .rintro⟨r,⟨⟩⟩s'⟨rfl,rfl,_⟩;exact Q6 (h _)
 have hx':x=((Value.int i t,Value.int i2 t2),0)\/x=((Value.int j u,Value.int j2 u2),1):=by simpa using hx
 rcases hx' with rfl|rfl;{exact⟨_,_,_,_,rfl⟩};exact⟨_,_,_,_,rfl⟩
def Az(hv:IsPair s.heap v)(h:∀i t,Q (some (.int i t)) s):wpAny (model prog w) A (firstOfTuple' v) Q E s:=by obtain⟨a,o,i,j,t,u,n,rfl,ho,hc,hd⟩:=hv;unfold firstOfTuple';refine Q0 (Sy (T:="tuple") ⟨o,ho,hc⟩ ?_);rw[if_neg (by decide)];refine Q0 (Tu ho hd (Q6 ?_));exact h i t
theorem firsts:∀{vs:VD},(∀v∈vs,IsPair s.heap v)->(∀os:List (Uz),os.length=vs.length->(∀o∈os,∃i t,o=some (Value.int i t))->Q os s)->wpAny (model prog w) A (vs.mapM firstOfTuple') Q E s
 |[],_,h=>by rw[List.mapM_nil];exact Q6 (h [] rfl λo ho=>(nomatch ho))
 |v::r,hv,h=>by rw[List.mapM_cons];refine Q0 (Az (hv v Q4) λi t=>?_);refine Q0 (firsts (λx hx=>hv x (QB _ hx)) λos ol oh=>?_);refine Q6 (h _ (by simp[ol]) λo ho=>?_);rcases QG.mp ho with rfl|ho;{exact⟨i,t,rfl⟩};exact oh o ho
def AY{Q:SortKind->Shared->Prop}(h0:vs≠[])(hv:∀v∈vs,IsPair s.heap v)(h:Q (tuples' true) s):wpAny (model prog w) A (keyKind' vs.toArray) Q E s:=by
 rw[keyKind'_eq,List.mapM_toArray];rw[map_eq_pure_bind,bind_assoc];refine Q0 (firsts hv λos ol oh=>?_);rw[pure_bind];have all:os.toArray.all (·.isSome)=true:=by rw[List.all_toArray,QY];intro o ho;obtain⟨i,t,rfl⟩:=oh o ho;rfl
 rw[if_pos all];refine Q0 (RJ ?_);have inte:∃us:VD,os.toArray.filterMap id=us.toArray/\us≠[]/\∃ns,IntsAre us ns:=by
  have go:∀os:List (Uz),(∀o∈os,∃i t,o=some (Value.int i t))->∃us ns,os.filterMap id=us/\us.length=os.length/\IntsAre us ns:=λos=>by
   induction os with
   |nil=>exact λ_=>⟨[],[],rfl,rfl,.nil⟩
   |cons o r ih=>intro hh;obtain⟨i,t,rfl⟩:=hh o Q4;obtain⟨us,ns,e,l,I⟩:=ih λx hx=>hh x (QB _ hx);exact⟨.int i t::us,i::ns,by simp[e],by simp[l],.cons i t I⟩
  obtain⟨us,ns,e,l,I⟩:=go os oh;refine⟨us,?_,λz=>h0 ?_,ns,I⟩;{rw[List.filterMap_toArray,e]};rw[z]at l;have:vs.length=0:=by rw[<-ol,<-l];rfl
  exact List.length_eq_zero_iff.mp this
 obtain⟨us,e,un,ns,I⟩:=inte;rw[e,oneTypeOnly'_eq,List.mapM_toArray,mapM_typeOf_ints I];simp only[map_pure,pure_bind];obtain⟨u0,ur,rfl⟩:=List.exists_cons_of_ne_nil un;have hall:((List.map (λ_=>Value.type "int") (u0::ur)).toArray.all λx=>x==Value.type "int")=true:=by simp only[List.all_toArray,List.all_map,QY];intro _ _;rfl
 have h1:(List.map (λ_=>Value.type "int") (u0::ur)).toArray[0]?=some (Value.type "int"):=by simp
 rw[h1];simp only[hall,if_true,pure_bind];exact Q6 h
end
def IsPair.keep{a:Addr}(p:IsPair h v)(ha:h.get? a=some c)(hc:c.cls=.type "list")(k:∀b o,b≠a->h.get? b=some o->h'.get? b=some o):IsPair h' v:=by obtain⟨b,o,i,j,t,u,n,rfl,ho,hco,hd⟩:=p;refine⟨b,o,i,j,t,u,n,rfl,k b o (λz=>?_) ho,hco,hd⟩;rw[z,ha]at ho;cases ho;rw[hc]at hco;injection hco with z;exact absurd z (by decide)
section
variable{prog:Program}{w:World}{A:Around}{E:Uq}{s:Shared}
def AS{a:Addr}{n:Nat}(ho:s.heap.get? a=some (seqObj "list" vs.toArray n))(hv:∀v∈vs,IsPair s.heap v)(few:vs.length<=1000)(h:∀us:VA,us.toList.Perm vs->R (.done (.ret .none)) { s with heap:=sortedHeap s.heap a vs us }):wpAny (model prog w) A (Builtin.«list.sort» ⟨[.ref a],[]⟩) R E s:=by
 have line:(1000:Nat)<=sizeLine:=by decide
 have az:a<s.heap.objs.size:=QD ho;rw[list_sort_plain (a:Addr)];refine Q0 (Tu ho rfl (?_:_));refine Q0 (listUpdate_at ho rfl (?_:_) (by simp;lia) (by simp));obtain⟨ep,g1⟩:∃ep,(s.heap.update a (Obj.mapSeq λ_=>#[])).get? a=some (seqObj "list" #[] ep):=⟨_,get?_update_seq ho λ_=>#[]⟩;refine Q0 (seqEpoch_at g1 rfl (?_:_));refine Q0 (wpAny_newTuple (?_:_) (by simp;lia));refine Q0 (wpAny_newList (?_:_));refine RU (?_:_);have g6:(((s.heap.update a (Obj.mapSeq λ_=>#[])).push (seqObj "tuple" vs.toArray 0)).push (seqObj "list" #[] 0)).get? a=some (seqObj "list" #[] ep):=QU _ (QU _ g1);have keep:∀b o,b≠a->s.heap.get? b=some o->(((s.heap.update a (Obj.mapSeq λ_=>#[])).push (seqObj "tuple" vs.toArray 0)).push (seqObj "list" #[] 0)).get? b=some o:=λb o hb e=>QU _ (QU _ ((RP _ _ (Ne.symm hb)).trans e));have hv6:∀v∈vs,IsPair (((s.heap.update a (Obj.mapSeq λ_=>#[])).push (seqObj "tuple" vs.toArray 0)).push (seqObj "list" #[] 0)) v:=λv m=>(hv v m).keep ho rfl keep;refine id (?_:wpAny (model prog w) A _ R E { s with heap:=((s.heap.update a (Obj.mapSeq λ_=>#[])).push (seqObj "tuple" vs.toArray 0)).push (seqObj "list" #[] 0) });dsimp only;have psz:(vs.toArray.zip vs.toArray).size=vs.length:=by simp
 have out:∀zs:Array Keyed,zs.Perm (vs.toArray.zip vs.toArray)->(zs.map (·.2)).toList.Perm vs:=λzs p=>by
  have p2:=(UX.mp p).map (·.2);rw[Array.toList_map];refine p2.trans ?_;have:((vs.toArray.zip vs.toArray).toList.map (·.2))=vs:=by rw[Array.toList_zip];simp[List.map_snd_zip]
  rw[this]
 by_cases h2:vs.toArray.size<2;{rw[if_pos h2,if_pos h2];refine Q0 (Q6 (?_:_));rw[StateT.run_pure];refine Q0 (Q6 (?_:_));dsimp only;refine Q0 (seqEpoch_at g6 rfl (?_:_));have o1:=out (vs.toArray.zip vs.toArray) (Array.Perm.refl _);have l1:=o1.length_eq;rw[Rq]at l1;refine Q0 (listUpdate_at g6 rfl (?_:_) (by simp) (Qd (T7 l1) (by lia)));simp only[bne_self_eq_false,TH,RZ];refine Q6 (?_:_);exact h _ o1};rw[if_neg h2,if_neg h2];have ne:vs≠[]:=λz=>h2 (by rw[z];decide);refine Q0 (AY (s:={ s with heap:=((s.heap.update a (Obj.mapSeq λ_=>#[])).push (seqObj "tuple" vs.toArray 0)).push (seqObj "list" #[] 0) }) ne hv6 (?_:_));refine Q0 (RC (Io (kd:=tuples' true) (P:=IsPair (((s.heap.update a (Obj.mapSeq λ_=>#[])).push (seqObj "tuple" vs.toArray 0)).push (seqObj "list" #[] 0))) (xs0:=vs.toArray.zip vs.toArray) (s:={ s with heap:=((s.heap.update a (Obj.mapSeq λ_=>#[])).push (seqObj "tuple" vs.toArray 0)).push (seqObj "list" #[] 0) }) (Q:=λ_ st'=>SB (tuples' true) (vs.toArray.zip vs.toArray) st') Ad (λk p hp=>?_) ⟨Array.Perm.refl _,rfl,rfl⟩ rfl λst' B=>B) ?_ λ_ _ e=>e);{have m:p∈(vs.toArray.zip vs.toArray).toList:=Qi (by rw[SK];exact hp);rw[Array.toList_zip]at m;exact hv6 _ (Te m).1};rintro⟨⟨⟩,st'⟩s'⟨rfl,B⟩;dsimp only;refine Q0 (seqEpoch_at g6 rfl (?_:_));have o1:=out _ B.perm;have l1:=o1.length_eq;rw[Rq]at l1;refine Q0 (listUpdate_at g6 rfl (?_:_) (by simp) (Qd (T7 l1) (by lia)));rw[B.ok];simp only[bne_self_eq_false,TH,RZ];refine Q6 (?_:_);exact h _ o1
end
end TS
namespace L2
open PySem PySem.Spec PyProof.Rows
def CU(p:us.Perm its):∀{ys:List V},Vals ys its->∃zs,zs.Perm ys/\Vals zs us:=by
 induction p with
 |nil=>exact λ{ys} r=>⟨ys,List.Perm.refl _,r⟩
 |cons x _ ih=>
  intro ys r;cases r with
  |cons h r=>obtain⟨zs,p1,r1⟩:=ih r;exact⟨_::zs,p1.cons _,.cons h r1⟩
 |swap x y l=>
  intro ys r;cases r with
  |cons h r=>
   cases r with
   |cons h2 r=>exact⟨_::_::_,List.Perm.swap _ _ _,.cons h2 (.cons h r)⟩
 |trans _ _ ih1 ih2=>intro ys r;obtain⟨zs,p1,r1⟩:=ih2 r;obtain⟨ws,p2,r2⟩:=ih1 r1;exact⟨ws,p2.trans p1,r2⟩
section
variable{X:Cx}
inductive yG(K:Uy)(xs:List V)(H:Hp)(Q:VK):Prop
 |mk:∀(a:Addr)(ys:List V),(xs=[.ref a])->(bA K H a ys)->((∀y∈ys,∃(b:Addr) (i j:Int),y=.ref b/\bE K H b [.int i,.int j]))->(ys.length<=1000)->(∀(zs:List V)(p:Addr),zs.Perm ys->H p=none->Q (.ref p) (upd H p (.lst zs)))->yG K xs H Q
noncomputable def Cj (K:Uy):List V->Hp->VK->Prop:=λxs H Q=>yG K xs H Q
def vO:bZ X (.builtin "sorted") (Cj X.K):=by
 intro pins s U H xs us Q I r h;obtain⟨a,ys,rfl,hq,tu,few,q⟩:=h;obtain⟨u,rfl,ru⟩:=r.one;cases ru;obtain⟨its,rv,p,_⟩:=I.list hq;have hlen:its.length=ys.length:=rv.length.symm;have hv:∀v∈its,TS.IsPair s.heap v:=λv m=>by
  obtain⟨i,hi⟩:=Rm m;have go:∀{ys:List V}{its:VD},Vals ys its->∀(i:Nat)(u:Value),its[i]?=some u->∃x,ys[i]?=some x/\RelV x u:=λ{ys its} r=>by
   induction r with
   |nil=>exact λi u h=>(nomatch h)
   |cons h _ ih=>
    intro i u e;cases i with
    |zero=>cases e;exact⟨_,rfl,h⟩
    |succ i=>exact ih i u e
  obtain⟨x,hx,rx⟩:=go rv i v hi;obtain⟨b,i1,j1,rfl,sb⟩:=tu x (Qi hx);cases rx;obtain⟨its2,r2,⟨o2,e2,c2,n2,d2⟩,_⟩:=I.tuple sb;cases r2 with
  |cons ra r3=>
   cases r3 with
   |cons rb r4=>cases r4;obtain⟨t,rfl⟩:=ra;obtain⟨u,rfl⟩:=rb;exact⟨b,o2,i1,j1,t,u,n2,rfl,e2,c2,d2⟩
 have line:(1000:Nat)<=sizeLine:=by decide
 refine Calls.call_function_entry kind_sorted plain_sorted entry_sorted (args_sorted1 _) (?_:_);unfold Builtin.«sorted»;refine Q0 (m:=checkCount "sorted" 1 1 _) (Q6 (?_:_));refine Q0 (collect_list p.isList (?_:_) (by lia));refine Q0 (wpAny_newList (?_:_) (by lia));have sz:((s.heap.push (seqObj "list" #[] 0)).update s.heap.objs.size (Obj.mapSeq (·++its.toArray))).objs.size=s.heap.objs.size+1:=by rw[Heap.size_update];exact size_push' _ _
 have g0:(((s.heap.push (seqObj "list" #[] 0)).update s.heap.objs.size (Obj.mapSeq (·++its.toArray))).push (seqObj "list" its.toArray 0)).get? (s.heap.objs.size+1)=some (seqObj "list" its.toArray 0):=by rw[<-sz];exact Qn _ rfl
 have old:∀b o,s.heap.get? b=some o->(((s.heap.push (seqObj "list" #[] 0)).update s.heap.objs.size (Obj.mapSeq (·++its.toArray))).push (seqObj "list" its.toArray 0)).get? b=some o:=λb o e=>QU _ ((RP _ _ (SV (QD e))).trans (QU _ e));refine id (?_:wpAny _ _ _ _ _ { s with heap:=((s.heap.push (seqObj "list" #[] 0)).update s.heap.objs.size (Obj.mapSeq (·++its.toArray))).push (seqObj "list" its.toArray 0) });rw[sz];have hv2:∀v∈its,TS.IsPair (((s.heap.push (seqObj "list" #[] 0)).update s.heap.objs.size (Obj.mapSeq (·++its.toArray))).push (seqObj "list" its.toArray 0)) v:=λv m=>by obtain⟨b,o,i,j,t,u,n,e,ho,r⟩:=hv v m;exact⟨b,o,i,j,t,u,n,e,old b o ho,r⟩
 refine Q0 (RU (Ru slot_list_sort ⟨_,g0,rfl⟩ entry_list_sort (TS.AS g0 hv2 (by lia) λout pm=>⟨_,rfl,(?_:_)⟩) (args_list_sort _)));obtain⟨n,hn⟩:=sortedHeap_at (vs:=its) (out:=out) g0;obtain⟨zs,pz,rz⟩:=CU pm rv;have new:s.heap.get? (s.heap.objs.size+1)=none:=UJ (Nat.le_succ _);have I2:=I.FZ (a:=s.heap.objs.size+1) (o:=.lst zs) (t':=s.toks) (h':=sortedHeap (((s.heap.push (seqObj "list" #[] 0)).update s.heap.objs.size (Obj.mapSeq (·++its.toArray))).push (seqObj "list" its.toArray 0)) (s.heap.objs.size+1) its out) (λb o hb=>by
   have lt:=QD hb;rw[sortedHeap_old (QV (TJ lt)) (by rw[size_push',sz];exact TJ (TJ lt))]
   exact old b o hb) new
  ⟨by rw[pz.length_eq];lia,out.toList,n,rz,by simpa using hn⟩
 exact Q6 ⟨_,rfl,.ref (s.heap.objs.size+1),_,I2,rfl,q zs _ pz (I.lR new)⟩
end
noncomputable def JC (K:Uy)(a:Addr):It:=
 ⟨λi H=>∃xs x,bA K H a xs/\xs[i]?=some x,λi H v H'=>∃T,H T=none/\v=.ref T/\∀xs,bA K H a xs->∃x,xs[i]?=some x/\H'=upd H T (.tup [.int i,x]),λi H=>∃xs,bA K H a xs/\xs.length<=i⟩
def AZ{P:Program}{w:World}{K:Uy}{elts:VG}{x1:Nat}{pos:Pos}(a e it:Addr)(hne:e≠it) : Turn P w K (.Tuple elts x1 pos) (JC K a) [e,it] e (λi h=>(∃old,IsEnum h e it i old)/\h.IsListIter it a i) where
 mem:=by simp
 obj:=λi h st b hb=>by
  obtain⟨⟨old,he⟩,o,e1,c,d⟩:=st;rcases QG.mp hb with z|z
  .subst z;exact⟨_,he,λv q=>by cases q⟩
  .have z:b=it:=by simpa using z
   subst z;exact⟨o,e1,λv q=>by rw[d]at q;cases q⟩
 keep:=λi h h' st k=>by
  obtain⟨⟨old,he⟩,li⟩:=st;exact⟨⟨old,k e (by simp) _ he⟩,li.at λo q=>k it (by simp) o q⟩
 item:=by
  intro X hP hw hK hc i pins s U H E I hf st hg;subst hP hw hK;obtain⟨xs,x,hq,hx⟩:=hg;obtain⟨its,rv,p,hz⟩:=I.list hq;obtain⟨u,hu,ru⟩:=rv.get hx;obtain⟨⟨old,he⟩,hit⟩:=st;have fe:=hf e (by simp)
  have fi:=hf it (by simp)
  refine wpAny_pyNext_enum_item he hit p.isList (x:=u) (by simpa using hu) hne λh1 heo hit1 ht1 hz1 hk1=>⟨_,rfl,?_⟩
  refine wpAny_letOwnedTupleGo_enum heo λh2 he2 hs2=>?_
  have elt:e<s.heap.objs.size:=QD he;have ht2:h2.get? s.heap.objs.size=some { cls:=.type "tuple",data:=.seq #[.int i s.toks,u] }:=(hs2.2 _ (SV elt)).trans ht1;have hfr:H s.heap.objs.size=none:=I.hok.fresh (Q7 _);have k2:∀b o,b≠e->b≠it->s.heap.get? b=some o->h2.get? b=some o:=λb o b1 b2 q=>hs2.extBut b o b1 (hk1 b o b1 b2 q)
  have neT:∀b o,H b=some o->b≠s.heap.objs.size:=λb o q z=>by rw[z,hfr]at q;cases q
  have neS:∀b o,s.heap.get? b=some o->b≠s.heap.objs.size:=λb o q=>QV (QD q)
  have nt:∀b o,H b=some o->b≠e/\b≠it:=λb o q=>⟨(λz=>by rw[z,fe.1]at q;cases q),(λz=>by rw[z,fi.1]at q;cases q)⟩
  have nin:∀b,b∉[e,it]->b≠e/\b≠it:=λb hb=>⟨λz=>hb (by simp[z]),λz=>hb (by simp[z])⟩
  have I2:Inv X pins U (upd H s.heap.objs.size (.tup [.int i,x])) { s with heap:=h2,toks:=s.toks+1 }:=by
   refine I.step (g':=s.gens) (d':=s.drawn) (ch:=[e,it]) (λb hb=>?_) (λb o _ _ hc' q _=>k2 b o (nin b hc').1 (nin b hc').2 q) (λb o _ _ hc' q _=>⟨o.slots,k2 b o (nin b hc').1 (nin b hc').2 q⟩)
    (λb o _ q n=>by rw[ai (neS b o q)];exact n) (λb o hc' q=>⟨o,k2 b o (nin b hc').1 (nin b hc').2 q⟩) (λb ys q=>by rw[ai (neT b _ q)];exact q) (λb o v q=>by rw[ai (neT b _ q)];exact q)
    (λb ps q=>⟨#[],by rw[ai (neT b _ q),q];simp⟩) (λm hm=>?_) (λb o q=>?_) I.bare
   .rcases QG.mp hb with z|z
    .subst z;exact⟨fe.2.2.2.1,fe.2.1,fe.2.2.2.2.1,fe.2.2.2.2.2⟩
    .have z:b=it:=by simpa using z
     subst z;exact⟨fi.2.2.2.1,fi.2.1,fi.2.2.2.2.1,fi.2.2.2.2.2⟩
   .obtain⟨o,es,ep,ho,r⟩:=hm;exact⟨o,es,ep,k2 _ o (Ne.symm fe.2.1) (Ne.symm fi.2.1) ho,r⟩
   .by_cases z:b=s.heap.objs.size
    .subst z;rw[ay]at q;cases q;exact⟨(by show 2<=sizeLine;decide),[.int i s.toks,u],.cons ⟨_,rfl⟩ (.cons ru .nil),_,ht2,rfl,_,rfl⟩
    .rw[ai z]at q;refine(I.hok b o q).stay (λc v hc' r=>k2 c v ?_ ?_ r) (λc r=>by rw[ai (neT c _ r)];exact r) λc ys r=>by rw[ai (neT c _ r)];exact r
     .rcases hc' with y|y
      .rw[y];exact(nt b o q).1
      .exact(nt c _ y).1
     .rcases hc' with y|y
      .rw[y];exact(nt b o q).2
      .exact(nt c _ y).2
  refine⟨.ref s.heap.objs.size,_,I2,rfl,⟨s.heap.objs.size,hfr,rfl,λys hy=>⟨x,by rw[I.mE hy hq];exact hx,rfl⟩⟩,⟨⟨_,he2⟩,?_⟩,λb hb=>?_⟩
  .exact hit1.at λo q=>hs2.extBut it o (Ne.symm hne) q
  .rcases QG.mp hb with z|z
   .subst z;rw[ai (QV elt)];exact fe.1
   .have z:b=it:=by simpa using z
    subst z;obtain⟨o,q,_⟩:=id hit;rw[ai (QV (QD q))];exact fi.1
 done:=by
  intro X hP hw hK hc i pins s U H E I hf st hg;subst hP hw hK;obtain⟨xs,hq,hx⟩:=hg;obtain⟨its,rv,p,hz⟩:=I.list hq;obtain⟨⟨old,he⟩,hit⟩:=st;obtain⟨f0,f1,f2,f3,f4,f5⟩:=hf it (by simp)
  have hl:=rv.length;exact wpAny_pyNext_enum_end (I.ok.hd hc) he hit p.isList (by simp;lia) λh' eb=>⟨rfl,I.turned (t':=s.toks) (λb o hb q=>eb b o hb q) f0 f1 f3 f4 f5⟩
 self:=λ_ _ _ _ _ st h=>by
  obtain⟨⟨old,he⟩,_⟩:=st;exact wpAny_pyIter_enum he h
section
variable{X:Cx}
inductive Ds(K:Uy)(R:(It->Hp->Prop))(vs:List V)(H1:Hp):Prop
 |mk:∀a,(vs=[.ref a])->((∃xs,bA K H1 a xs))->(R (JC K a) H1)->Ds K R vs H1
noncomputable def M5 (K:Uy)(ta:TA):TI:=λU H R=>ta U H λvs H1=>Ds K R vs H1
def IK{elts:VG}{x1:Nat}{tp p pos:Pos}{e:Expr}{ta:TA}(hg:Gl X "enumerate")(hm:X.mg "enumerate"=none)(ha:PA X [e] ta)(hs:starEach [e] X.env=[(false,eval e X.env)]:=by rfl) : PI X (.Tuple elts x1 tp) (.Call (.Name "enumerate" p) [e] [] pos) (M5 X.K ta):=by
 intro pins s U H R I h;refine Call_ (iJ I hg hm boot_enumerate (SW (aJ (ha pos pins s U H _ I h) λus s1 ⟨vs,H1,I1,r1,q1⟩=>?_) hs rfl));obtain⟨a,ev,⟨xs,hq⟩,q⟩:=q1;subst ev;obtain⟨u,rfl,ru⟩:=r1.one;cases ru;obtain⟨its,rv,pl,hz⟩:=I1.list hq;refine call_enumerate_list pl.isList λh' he hit hsz hk=>?_;refine wpAny_pyIter_enum he ?_;have I2:Inv X pins U H1 { s1 with heap:=h' }:=I1.kept (t':=s1.toks) hk;refine⟨s1.heap.objs.size+1,[s1.heap.objs.size+1,s1.heap.objs.size],_,_,H1,rfl,I2,AZ a _ _ (Nat.succ_ne_self _),⟨⟨_,he⟩,hit⟩,λb hb=>?_,q⟩;have hb:s1.heap.objs.size<=b:=by
  rcases QG.mp hb with z|z;{rw[z];exact Nat.le_succ _};have z:b=s1.heap.objs.size:=by simpa using z
  rw[z];exact Q7 _
 exact I1.tB hb (I1.hok.fresh hb)
end
section
variable{prog:Program}{w:World}{A:Around}{R:Result->Shared->Prop}{s:Shared}
noncomputable abbrev mY (prog:Program)(w:World)(A:Around)(env:Env)(R:Result->Shared->Prop):Uq:=notedBy (model prog w) A env λe s'=>R (.error e) s'
end
noncomputable def K0 (K:Uy)(a b:Addr):It:=
 ⟨λi H=>∃xs ys x y,bA K H a xs/\bA K H b ys/\xs[i]?=some x/\ys[i]?=some y,λi H v H'=>∃T,H T=none/\v=.ref T/\∀xs ys,bA K H a xs->bA K H b ys->∃x y,xs[i]?=some x/\ys[i]?=some y/\H'=upd H T (.tup [x,y]),
  λi H=>∃xs ys,bA K H a xs/\bA K H b ys/\(xs.length<=i\/ys.length<=i)⟩
def Ei{P:Program}{w:World}{K:Uy}{elts:VG}{x1:Nat}{pos:Pos}(a b z TI TO i1 i2:Addr)(D:PySem.ZipApart z TI TO i1 i2 a b) : Turn P w K (.Tuple elts x1 pos) (K0 K a b) [z,TI,TO,i1,i2] z (λi h=>PySem.IsZip h z TI TO .none/\PySem.IsPair h TI (.ref i1) (.ref i2)/\(∃u v,PySem.IsPair h TO u v)/\h.IsListIter i1 a i/\h.IsListIter i2 b i) where
 mem:=by simp
 obj:=λi h st c hc=>by
  obtain⟨h1,h2,⟨u,v,h3⟩,h4,h5⟩:=st;simp only[QG,R9,Rb]at hc;rcases hc with rfl|rfl|rfl|rfl|rfl
  .exact⟨_,h1,λv q=>by cases q⟩
  .exact⟨_,h2,λv q=>by cases q⟩
  .exact⟨_,h3,λv q=>by cases q⟩
  .obtain⟨o,e1,_,d⟩:=h4;exact⟨o,e1,λv q=>by rw[d]at q;cases q⟩
  .obtain⟨o,e1,_,d⟩:=h5;exact⟨o,e1,λv q=>by rw[d]at q;cases q⟩
 keep:=λi h h' st k=>by
  obtain⟨h1,h2,⟨u,v,h3⟩,h4,h5⟩:=st;exact⟨k z (by simp) _ h1,k TI (by simp) _ h2,⟨u,v,k TO (by simp) _ h3⟩,h4.at λo q=>k i1 (by simp) o q,h5.at λo q=>k i2 (by simp) o q⟩
 item:=by
  intro X hP hw hK hc i pins s U H E I hf st hg;subst hP hw hK;obtain⟨xs,ys,x,y,hq,hq2,hx,hy⟩:=hg;obtain⟨its,rv,p,_⟩:=I.list hq;obtain⟨its2,rv2,p2,_⟩:=I.list hq2;obtain⟨u,hu,ru⟩:=rv.get hx;obtain⟨u2,hu2,ru2⟩:=rv2.get hy;obtain⟨h1,h2,⟨ua,ub,h3⟩,h4,h5⟩:=st;have fz:=hf z (by simp)
  have fI:=hf TI (by simp)
  have fO:=hf TO (by simp)
  have f1:=hf i1 (by simp)
  have f2:=hf i2 (by simp)
  refine PySem.wpAny_pyNext_zip_item D h1 h2 h3 h4 h5 p.isList p2.isList (x:=u) (y:=u2) (by simpa using hu) (by simpa using hu2) λhA a1 a2 a3 a4 a5 a6 a7=>⟨_,rfl,?_⟩
  refine PySem.wpAny_letOwnedTupleGo_zip a1 λhB b1 hs=>?_
  have zlt:z<s.heap.objs.size:=QD h1;have ht2:hB.get? s.heap.objs.size=some { cls:=.type "tuple",data:=.seq #[u,u2] }:=(hs.2 _ (SV zlt)).trans a5;have hfr:H s.heap.objs.size=none:=I.hok.fresh (Q7 _);have k2:∀c o,c≠z->c≠TO->c≠i1->c≠i2->s.heap.get? c=some o->hB.get? c=some o:=λc o c1 c2 c3 c4 q=>hs.extBut c o c1 (a7 c o c1 c2 c3 c4 q)
  have neT:∀c o,H c=some o->c≠s.heap.objs.size:=λc o q z=>by rw[z,hfr]at q;cases q
  have neS:∀c o,s.heap.get? c=some o->c≠s.heap.objs.size:=λc o q=>QV (QD q)
  have nt:∀c o,H c=some o->c≠z/\c≠TO/\c≠i1/\c≠i2:=λc o q=>⟨(λe=>by rw[e,fz.1]at q;cases q),(λe=>by rw[e,fO.1]at q;cases q),(λe=>by rw[e,f1.1]at q;cases q),(λe=>by rw[e,f2.1]at q;cases q)⟩
  have nin:∀c,c∉[z,TO,i1,i2]->c≠z/\c≠TO/\c≠i1/\c≠i2:=λc hc=>⟨λe=>hc (by simp[e]),λe=>hc (by simp[e]),λe=>hc (by simp[e]),λe=>hc (by simp[e])⟩
  have kk:∀c o,(c≠z/\c≠TO/\c≠i1/\c≠i2)->s.heap.get? c=some o->hB.get? c=some o:=λc o n q=>k2 c o n.1 n.2.1 n.2.2.1 n.2.2.2 q
  have I2:Inv X pins U (upd H s.heap.objs.size (.tup [x,y])) { s with heap:=hB }:=by
   refine I.step (g':=s.gens) (d':=s.drawn) (t':=s.toks) (ch:=[z,TO,i1,i2]) (λc hc=>?_) (λc o _ _ hc' q _=>kk c o (nin c hc') q) (λc o _ _ hc' q _=>⟨o.slots,kk c o (nin c hc') q⟩)
    (λc o _ q n=>by rw[ai (neS c o q)];exact n) (λc o hc' q=>⟨o,kk c o (nin c hc') q⟩) (λc ys q=>by rw[ai (neT c _ q)];exact q) (λc o v q=>by rw[ai (neT c _ q)];exact q)
    (λc ps q=>⟨#[],by rw[ai (neT c _ q),q];simp⟩) (λm hm=>?_) (λc o q=>?_) I.bare
   .simp only[QG,R9,Rb]at hc;rcases hc with rfl|rfl|rfl|rfl
    .exact⟨fz.2.2.2.1,fz.2.1,fz.2.2.2.2.1,fz.2.2.2.2.2⟩
    .exact⟨fO.2.2.2.1,fO.2.1,fO.2.2.2.2.1,fO.2.2.2.2.2⟩
    .exact⟨f1.2.2.2.1,f1.2.1,f1.2.2.2.2.1,f1.2.2.2.2.2⟩
    .exact⟨f2.2.2.2.1,f2.2.1,f2.2.2.2.2.1,f2.2.2.2.2.2⟩
   .obtain⟨o,es,ep,ho,r⟩:=hm;exact⟨o,es,ep,kk _ o ⟨Ne.symm fz.2.1,Ne.symm fO.2.1,Ne.symm f1.2.1,Ne.symm f2.2.1⟩ ho,r⟩
   .by_cases e:c=s.heap.objs.size
    .subst e;rw[ay]at q;cases q;exact⟨(by show 2<=sizeLine;decide),[u,u2],.cons ru (.cons ru2 .nil),_,ht2,rfl,_,rfl⟩
    .rw[ai e]at q;refine(I.hok c o q).stay (λd v hd r=>kk d v ?_ r) (λd r=>by rw[ai (neT d _ r)];exact r) λd ys r=>by rw[ai (neT d _ r)];exact r
     rcases hd with y|y
     .rw[y];exact nt c o q
     .exact nt d _ y
  refine⟨.ref s.heap.objs.size,_,I2,rfl,⟨s.heap.objs.size,hfr,rfl,λxs2 ys2 hx2 hy2=>⟨x,y,by rw[I.mE hx2 hq];exact hx,by rw[I.mE hy2 hq2];exact hy,rfl⟩⟩,⟨b1,?_,⟨_,_,hs.extBut _ _ D.TOz a2⟩,a3.at λo q=>hs.extBut _ _ D.i1z q,a4.at λo q=>hs.extBut _ _ D.i2z q⟩,λc hc=>?_⟩
  .exact k2 _ _ D.TIz D.TITO D.TIi1 D.TIi2 h2
  .have old:∀c,(∃o,s.heap.get? c=some o)->H c=none->upd H s.heap.objs.size (.tup [x,y]) c=none:=λc ⟨o,q⟩ hn=>by rw[ai (neS c o q)];exact hn
   simp only[QG,R9,Rb]at hc;rcases hc with rfl|rfl|rfl|rfl|rfl
   .exact old _ ⟨_,h1⟩ fz.1
   .exact old _ ⟨_,h2⟩ fI.1
   .exact old _ ⟨_,h3⟩ fO.1
   .obtain⟨o,q,_⟩:=id h4;exact old _ ⟨o,q⟩ f1.1
   .obtain⟨o,q,_⟩:=id h5;exact old _ ⟨o,q⟩ f2.1
 done:=by
  intro X hP hw hK hc i pins s U H E I hf st hg;subst hP hw hK;obtain⟨xs,ys,hq,hq2,hx⟩:=hg;obtain⟨its,rv,p,_⟩:=I.list hq;obtain⟨its2,rv2,p2,_⟩:=I.list hq2;obtain⟨h1,h2,⟨ua,ub,h3⟩,h4,h5⟩:=st;have hl:=rv.length;have hl2:=rv2.length;have fz:=hf z (by simp)
  have fO:=hf TO (by simp)
  have f1:=hf i1 (by simp)
  have f2:=hf i2 (by simp)
  refine PySem.wpAny_pyNext_zip_end (I.ok.hd hc) D h1 h2 h3 h4 h5 p.isList p2.isList (hx.imp (λe=>by simp;lia) (λe=>by simp;lia)) λhA k=>⟨rfl,?_⟩
  have nin:∀c,c∉[z,TO,i1,i2]->c≠z/\c≠TO/\c≠i1/\c≠i2:=λc hc=>⟨λe=>hc (by simp[e]),λe=>hc (by simp[e]),λe=>hc (by simp[e]),λe=>hc (by simp[e])⟩
  have kk:∀c o,(c≠z/\c≠TO/\c≠i1/\c≠i2)->s.heap.get? c=some o->hA.get? c=some o:=λc o n q=>k c o n.1 n.2.1 n.2.2.1 n.2.2.2 q
  have nt:∀c o,H c=some o->c≠z/\c≠TO/\c≠i1/\c≠i2:=λc o q=>⟨(λe=>by rw[e,fz.1]at q;cases q),(λe=>by rw[e,fO.1]at q;cases q),(λe=>by rw[e,f1.1]at q;cases q),(λe=>by rw[e,f2.1]at q;cases q)⟩
  refine I.step (g':=s.gens) (d':=s.drawn) (t':=s.toks) (ch:=[z,TO,i1,i2]) (λc hc=>?_) (λc o _ _ hc' q _=>kk c o (nin c hc') q) (λc o _ _ hc' q _=>⟨o.slots,kk c o (nin c hc') q⟩)
   (λc o _ q n=>n) (λc o hc' q=>⟨o,kk c o (nin c hc') q⟩) (λc ys q=>q) (λc o v q=>q) (λc ps q=>⟨#[],by rw[q];simp⟩) (λm hm=>?_) (λc o q=>?_) I.bare
  .simp only[QG,R9,Rb]at hc;rcases hc with rfl|rfl|rfl|rfl
   .exact⟨fz.2.2.2.1,fz.2.1,fz.2.2.2.2.1,fz.2.2.2.2.2⟩
   .exact⟨fO.2.2.2.1,fO.2.1,fO.2.2.2.2.1,fO.2.2.2.2.2⟩
   .exact⟨f1.2.2.2.1,f1.2.1,f1.2.2.2.2.1,f1.2.2.2.2.2⟩
   .exact⟨f2.2.2.2.1,f2.2.1,f2.2.2.2.2.1,f2.2.2.2.2.2⟩
  .obtain⟨o,es,ep,ho,r⟩:=hm;exact⟨o,es,ep,kk _ o ⟨Ne.symm fz.2.1,Ne.symm fO.2.1,Ne.symm f1.2.1,Ne.symm f2.2.1⟩ ho,r⟩
  .refine(I.hok c o q).stay (λd v hd r=>kk d v ?_ r) (λd r=>r) λd ys r=>r
   rcases hd with y|y
   .rw[y];exact nt c o q
   .exact nt d _ y
 self:=λ_ _ _ _ _ st h=>PySem.wpAny_pyIter_zip st.1 h
section
variable{X:Cx}
inductive Gb(K:Uy)(R:(It->Hp->Prop))(vs:List V)(H1:Hp):Prop
 |mk:∀a b,(vs=[.ref a,.ref b])->((∃xs,bA K H1 a xs))->((∃ys,bA K H1 b ys))->(R (K0 K a b) H1)->Gb K R vs H1
noncomputable def z9 (K:Uy)(ta:TA):TI:=λU H R=>ta U H λvs H1=>Gb K R vs H1
def L0{x1:Nat}(hg:Gl X "zip")(hm:X.mg "zip"=none)(ha:PA X [e1,e2] ta)(hs:starEach [e1,e2] X.env=[(false,eval e1 X.env),(false,eval e2 X.env)]:=by rfl)(hs2:starEach [e2] X.env=[(false,eval e2 X.env)]:=by rfl) : PI X (.Tuple elts x1 tp) (.Call (.Name "zip" p) [e1,e2] [] pos) (z9 X.K ta):=by
 intro pins s U H R I h;refine Call_ (iJ I hg hm PyProof.Rows.boot_zip (SW (aJ (ha pos pins s U H _ I h) λus s1 ⟨vs,H1,I1,r1,q1⟩=>?_) (by rw[hs,hs2]) (by rw[hs2];rfl)));obtain⟨a,b,ev,⟨xs,hq⟩,⟨ys,hq2⟩,q⟩:=q1;subst ev;obtain⟨u1,u2,rfl,ru1,ru2⟩:=r1.two;cases ru1;cases ru2;obtain⟨its,rv,pl,_⟩:=I1.list hq;obtain⟨its2,rv2,pl2,_⟩:=I1.list hq2;have la:a<s1.heap.objs.size:=by obtain⟨o,ho,_⟩:=pl.isList;exact QD ho
 have lb:b<s1.heap.objs.size:=by obtain⟨o,ho,_⟩:=pl2.isList;exact QD ho
 refine PySem.call_zip_2 pl.isList pl2.isList λh' hz h2 h3 h4 h5 hsz hk=>?_;refine PySem.wpAny_pyIter_zip hz ?_;have I2:Inv X pins U H1 { s1 with heap:=h' }:=I1.kept (t':=s1.toks) hk;have ga:∀k:Nat,a≠s1.heap.objs.size+k:=λk=>QV (Qg la (S5 _ _));have gb:∀k:Nat,b≠s1.heap.objs.size+k:=λk=>QV (Qg lb (S5 _ _));have D:PySem.ZipApart (s1.heap.objs.size+4) (s1.heap.objs.size+2) (s1.heap.objs.size+3) s1.heap.objs.size (s1.heap.objs.size+1) a b:=by constructor<;>first|exact ga 4|exact ga 3|exact ga 1|exact ga 0|exact gb 4|exact gb 3|exact gb 1|exact gb 0|exact QV (by lia)|exact SV (by lia)
 refine⟨s1.heap.objs.size+4,[s1.heap.objs.size+4,s1.heap.objs.size+2,s1.heap.objs.size+3,s1.heap.objs.size,s1.heap.objs.size+1],_,_,H1,rfl,I2,Ei a b _ _ _ _ _ D,⟨hz,h2,⟨_,_,h3⟩,h4,h5⟩,λc hc=>?_,q⟩;have hb:s1.heap.objs.size<=c:=by simp only[QG,R9,Rb]at hc;rcases hc with rfl|rfl|rfl|rfl|rfl;{exact S5 _ _};{exact S5 _ _};{exact S5 _ _};{exact Q7 _};exact S5 _ _
 exact I1.tB hb (I1.hok.fresh hb)
theorem oB:∀{ns:VJ}{us:VD},Vals (ns.map V.int) us->∃ps:List (Int×Tok),us=ps.map (λp=>Value.int p.1 p.2)/\ns=ps.map (·.1)
 |[],_,.nil=>⟨[],rfl,rfl⟩
 |n::ns,_,.cons h r=>by obtain⟨t,rfl⟩:=h;obtain⟨ps,rfl,rfl⟩:=oB r;exact⟨(n,t)::ps,rfl,rfl⟩
end
end L2
namespace L2
open PySem PySem.Spec PyProof.Rows PySem.W
section
variable{X:Cx}
def CM(hc:X.calm=true):bZ X (.builtin "min") (λxs H Q=>∃(a:Addr)(ns:VJ),xs=[.ref a]/\bA X.K H a (ns.map V.int)/\ns≠[]/\∀M,M∈ns->(∀n∈ns,M<=n)->Q (.int M) H):=by
 intro pins s U H xs us Q I r h;obtain⟨a,ns,rfl,hq,ne,q⟩:=h;obtain⟨u,rfl,ru⟩:=vals1 r;cases ru;obtain⟨its,rv,p,_⟩:=I.list hq;obtain⟨ps,rfl,rfl⟩:=oB rv;have hl:s.heap.IsList a (intItems ps.toArray):=by have:=p.isList;simpa[intItems]using this
 refine min_intList (I.ok.hd hc) hl (by simpa using Sg.mpr (λe=>ne (by rw[e];rfl))) λv h' tk hv hk=>?_;obtain⟨t,rfl⟩:=TM hv;obtain⟨g1,g2⟩:=argBest_lt (numAt ps.toArray) (ps.toArray.size-1);have pos:0<ps.length:=Sg.mpr λe=>ne (by rw[e];rfl);refine⟨.int _,H,I.kept (t':=tk) hk,⟨_,rfl⟩,q _ ?_ λn hn=>?_⟩;{rw[numAt_eq];exact getD_mem (by simp at g1⊢;lia)};obtain⟨j,hj,rfl⟩:=mem_getD hn;rw[Q5]at hj;have e:(ps.map (·.1)).getD j 0=numAt ps.toArray j:=by rw[numAt_eq]
 rw[e];exact g2 j (by simp;lia)
theorem pC(ns:VJ):∀k,k<=ns.length->preSum (λi=>ns.getD i 0) k=(ns.take k).sum
 |0,_=>rfl
 |k+1,h=>by have ih:=pC ns k (by lia);rw[preSum,ih,Tr,QO (show k<ns.length by lia),QS,QO (show k<ns.length by lia)];rw[TN];simp
def int_at{ns:VJ}{its:VD}(rv:Vals (ns.map V.int) its){i:Nat}(h:its[i]?=some v):∃t,v=.int (ns.getD i 0) t:=by
 obtain⟨x,hx,rx⟩:=yC rv i v h;rw[QF]at hx;cases e:ns[i]? with
 |none=>rw[e]at hx;cases hx
 |some b=>rw[e]at hx;cases hx;obtain⟨t,rfl⟩:=rx;exact⟨t,by rw[QS,e];rfl⟩
def By(hc:X.calm=true):bZ X (.builtin "sum") (λxs H Q=>∃(a:Addr)(ns:VJ),xs=[.ref a]/\bA X.K H a (ns.map V.int)/\Q (.int ns.sum) H):=by
 intro pins s U H xs us Q I r h;obtain⟨a,ns,rfl,hq,q⟩:=h;obtain⟨u,rfl,ru⟩:=vals1 r;cases ru;obtain⟨its,rv,p,_⟩:=I.list hq;have hl:=p.isList;have hlt:a<s.heap.objs.size:=by obtain⟨o,ho,_⟩:=id hl;exact QD ho
 have hh:X.A.in1.handled=none:=by simp[I.ok.hd hc]
 have hn:its.toArray.size=ns.length:=by rw[QI,<-rv.length,Q5]
 refine call_sum_walkAnyB (wpAny_pyIter_list hl ?_);refine⟨_,_,_,_,_,_,_,λi=>ns.getD i 0,rfl,(Walks.list hh _ a (QV hlt) its.toArray).toS,?_,?_,?_,?_⟩;{exact⟨⟨_,Qn _ rfl,rfl,rfl⟩,hl.push _⟩};{intro b hb;show b<(s.heap.push _).objs.size;rw[Heap.size_push];rcases QG.mp hb with rfl|hb;{exact TQ _};rcases QG.mp hb with rfl|hb;{exact TJ hlt};cases hb}
 .intro i v hP;have hP':its[i]?=some v:=by simpa using hP
  obtain⟨t,rfl⟩:=int_at rv hP';exact .inl ⟨t,rfl⟩
 intro s' t' mv;obtain⟨h',g,d,t,os⟩:=s';obtain⟨m1,m2,m3,m4,m5⟩:=mv;dsimp only at m1 m2 m3 m4;subst m2 m3 m4;rw[hn,pC ns _ (Q7 _),Rc];exact⟨.int _,H,I.kept (t':=t) (old_kept m1),⟨_,rfl⟩,q⟩
end
end L2
namespace Dv
open PySem L2 PySem.W
section
variable{K:Frag}{H Hm:Hp}{P:Kd->PyData->Prop}{Q:VK}
noncomputable def bz (K:Frag)(H Hm:Hp)(P:Kd->PyData->Prop)(Q:VK):Prop:=∀k v u H' Hm' fp,P k v->ah H H'->ah Hm Hm'->ah Hm' H'->(∀a,H a≠none->OE (Hm' a) (Hm a))->Own K H' Hm' k u v fp->(∀a∈fp,H a=none/\Hm' a=none)->Q u H'
def bz.sc(q:bz K H Hm P Q)(s:ah Hm H)(p:P .sh v)(r:Rp K Hm u v):Q u H:=q _ _ _ _ _ [] p (ah.refl _) (ah.refl _) s (λ_ _=>.inl rfl) (.sh r) λ_ z=>by cases z
def fQ(s:ah Hm H){p:Addr}(h:H p=none):Hm p=none:=by
 cases e:Hm p with
 |none=>rfl
 |some o=>rw[s _ _ e]at h;cases h
def bz.nl(q:bz K H Hm P Q)(s:ah Hm H){p:Addr}(pp:P (.ow false) (.list ds))(hp:H p=none)(r:au K Hm xs ds):Q (.ref p) (upd H p (.lst xs)):=
 q _ _ _ _ Hm [p] pp (bQ hp) (ah.refl _) (s.trans (bQ hp)) (λ_ _=>.inl rfl) (.ow ay r) λa ha=>by rw[Q8.mp ha];exact⟨hp,fQ s hp⟩
def bz.nt(q:bz K H Hm P Q)(s:ah Hm H){p:Addr}(pp:P .sh (.tuple ds))(hp:H p=none)(r:au K Hm xs ds):Q (.ref p) (upd H p (.tup xs)):=by
 have n:=fQ s hp;have s2:=bQ (o:=.tup xs) n;refine q _ _ _ _ (upd Hm p (.tup xs)) [] pp (bQ hp) s2 (λb o e=>?_) (λa ha=>.inl (ai λz=>ha (z▸hp))) (.sh (.tup ay (r.mono s2))) λ_ z=>by cases z
 by_cases c:b=p;{rw[c,ay]at e⊢;exact e};rw[ai c]at e⊢;exact s _ _ e
end
noncomputable def r2 (r:R2):List V->Hp->VK->Prop:=λvs H Q=>match vs with
 |[x,y]=>r x y H Q
 |_=>False
noncomputable def r1 (r:V->Hp->VK->Prop):List V->Hp->VK->Prop:=λvs H Q=>match vs with
 |[x]=>r x H Q
 |_=>False
def dB(h:au K H vs [a]):∃x,vs=[x]/\Rp K H x a:=by
 cases h with
 |cons h t=>cases t;exact⟨_,rfl,h⟩
def eU(h:au K H vs [a,b]):∃x y,vs=[x,y]/\Rp K H x a/\Rp K H y b:=by
 cases h with
 |cons h t=>obtain⟨y,rfl,h2⟩:=dB t;exact⟨_,_,rfl,h,h2⟩
def bq.or(h:bq X f r)(k:bq X f s):bq X f λx y H Q=>r x y H Q\/s x y H Q:=λpins st U H x y v u Q I a b z=>z.elim (h pins st U H x y v u Q I a b) (k pins st U H x y v u Q I a b)
section
variable{X:Cx}{Ex:XK}{Y:VI}
def iK(ho:bq X (binaryOp op) r)(D:cg X.K f (r2 r))(S:aH X Ex Y [a,b] as):SE X Ex Y (.BinOp a op b pos) (aa f as):=fj (r:=r2 r) S (λU H Q h=>WE.of (MT ho aS aS) h) D
def MS(ho:GG X (unaryOp op) r)(D:cg X.K f (r1 r))(S:aH X Ex Y [a] as):SE X Ex Y (.UnaryOp op a pos) (aa f as):=fj (r:=r1 r) S (λU H Q h=>WE.of (Nt ho aS) h) D
def vA(ho:bq X (compareOp op) r)(hm:behindInMarks op b=false)(D:cg X.K f (r2 r))(S:aH X Ex Y [a,b] as):SE X Ex Y (.Compare a [op] [b] pos) (aa f as):=fj (r:=r2 r) S (λU H Q h=>WE.of (Ic ho aS aS hm) h) D
def Mt(ho:ni X r)(hs:lI b)(D:cg X.K f (r2 r))(S:aH X Ex Y [a,b] as):SE X Ex Y (.Subscript a b pos) (aa f as):=fj (r:=r2 r) S (λU H Q h=>WE.of (Gv ho aS aS hs) h) D
end
noncomputable def mT (g:Int->Int->PyData):DR:=λds P=>match ds with
 |[.int a,.int b]=>P .sh (g a b)
 |_=>False
noncomputable def oF (C:Int->Int->Prop)(g:Int->Int->PyData):DR:=λds P=>match ds with
 |[.int a,.int b]=>C a b/\P .sh (g a b)
 |_=>False
def sZ{Z:Prop}{f:Int->Int->Prop}(h:match ds with|[PyData.int a,.int b]=>f a b|_=>False)(k:∀a b,ds=[.int a,.int b]->f a b->Z):Z:=by split at h;{exact k _ _ rfl h};exact h.elim
def jI{g:Int->Int->PyData}{gv:Int->Int->V}(hg:∀a b Hm,Rp K Hm (gv a b) (g a b)):cg K (mT g) (r2 (mZ gv)):=by intro H Hm vs ds P Q s r h q;refine sZ h λa b e p=>?_;subst e;obtain⟨x,y,rfl,h1,h2⟩:=eU r;cases h1;cases h2;exact⟨a,b,rfl,rfl,bz.sc q s p (hg a b Hm)⟩
def kY{g:Int->Int->PyData}{gv:Int->Int->V}(hg:∀a b Hm,Rp K Hm (gv a b) (g a b)):cg K (oF C g) (r2 (rI C gv)):=by intro H Hm vs ds P Q s r h q;refine sZ h λa b e p=>?_;subst e;obtain⟨x,y,rfl,h1,h2⟩:=eU r;cases h1;cases h2;exact⟨a,b,rfl,rfl,p.1,bz.sc q s p.2 (hg a b Hm)⟩
inductive DP(K:Frag) (x:V) (y:V)(H:Hp)(Q:VK):Prop
 |mk:∀l b xs zs,(x=.ref l)->(y=.ref b)->(bM K H l xs)->(bM K H b zs)->(xs.length+zs.length<=sizeLine)->(∀p,H p=none->Q (.ref p) (upd H p (.lst (xs++zs))))->DP K x y H Q
noncomputable def GI (K:Frag):R2:=λx y H Q=>DP K x y H Q
section
variable{X:Cx}
def Hu:bq X (binaryOp .Add) (GI X.K):=by
 intro pins s U H x y v u Q I rx ry h;obtain⟨l,b,xs,zs,rfl,rfl,hH,hB,hz,q⟩:=h;cases rx;cases ry;obtain⟨z,its,n,r,e⟩:=hH.get I;obtain⟨z2,its2,n2,r2,e2⟩:=hB.get I;have hl:=r.length;have hl2:=r2.length;refine PySem.P.add_list e e2 ?_ (by rw[QI,QI];lia);have ea:its.toArray++its2.toArray=(its++its2).toArray:=by simp
 rw[ea];exact⟨.ref _,_,I.Ku (t':=s.toks) (r.append r2) (by rw[QE];lia),rfl,q _ I.fresh⟩
end
noncomputable def N1 (f:PyData->Prop):VB->Prop
 |[x]=>f x
 |_=>False
noncomputable def zk (f:PyData->PyData->Prop):VB->Prop
 |[x,y]=>f x y
 |_=>False
noncomputable def NH (f:PyData->PyData->PyData->Prop):VB->Prop
 |[x,y,z]=>f x y z
 |_=>False
noncomputable def uP (d:PyData)(f:Int->Prop):Prop:=match d with
 |.int i=>f i
 |_=>False
def oM(r:Rp K H x d)(h:uP d f):∃i,x=.int i/\f i:=by
 cases r with
 |int i=>exact⟨i,rfl,h⟩
 |_=>exact h.elim
def L7(r:au K H vs ds)(h:N1 f ds):∃x d,vs=[x]/\ds=[d]/\Rp K H x d/\f d:=by
 cases r with
 |nil=>exact h.elim
 |cons h1 r=>
  cases r with
  |nil=>exact⟨_,_,rfl,rfl,h1,h⟩
  |cons=>exact h.elim
def nK(r:au K H vs ds)(h:zk f ds):∃x y d e,vs=[x,y]/\ds=[d,e]/\Rp K H x d/\Rp K H y e/\f d e:=by
 cases r with
 |nil=>exact h.elim
 |cons h1 r=>
  cases r with
  |nil=>exact h.elim
  |cons h2 r=>
   cases r with
   |nil=>exact⟨_,_,_,_,rfl,rfl,h1,h2,h⟩
   |cons=>exact h.elim
def Jb(r:au K H vs ds)(h:NH f ds):∃x y z d e d',vs=[x,y,z]/\ds=[d,e,d']/\Rp K H x d/\Rp K H y e/\Rp K H z d'/\f d e d':=by
 cases r with
 |nil=>exact h.elim
 |cons h1 r=>
  cases r with
  |nil=>exact h.elim
  |cons h2 r=>
   cases r with
   |nil=>exact h.elim
   |cons h3 r=>
    cases r with
    |nil=>exact⟨_,_,_,_,_,_,rfl,rfl,h1,h2,h3,h⟩
    |cons=>exact h.elim
noncomputable def cA:DR:=λds P=>zk (λx y=>match x,y with
 |.int a,.int b=>P .sh (.int (a+b))
 |.list a,.list b=>a.length+b.length<=sizeLine/\P (.ow false) (.list (a++b))
 |.tuple a,.tuple b=>(a≠[]/\a.length+b.length<=sizeLine)/\P .sh (.tuple (a++b))
 |.str a,.str b=>a.length+b.length<=sizeLine/\P .sh (.str (a++b))
 |_,_=>False) ds
noncomputable def FH (K:Frag):R2:=λx y H Q=>(((mZ λi j=>.int (i+j)) x y H Q\/GI K x y H Q)\/FG K x y H Q)\/∃i j,x=.str i/\y=.str j/\i.length+j.length<=sizeLine/\Q (.str (i++j)) H
def Hr:bq X (binaryOp .Add) (FH X.K):=((K8.or Hu).or Im).or zY
def G8:cg K cA (r2 (FH K)):=by
 intro H Hm vs ds P Q s r h q;obtain⟨x,y,d,e,rfl,rfl,h1,h2,h⟩:=nK r h;cases h1 with
 |int a=>
  cases h2 with
  |int b=>exact .inl (.inl (.inl ⟨_,_,rfl,rfl,bz.sc q s h (.int _)⟩))
  |_=>exact h.elim
 |lst a1 r1=>
  cases h2 with
  |lst a2 r2=>exact .inl (.inl (.inr ⟨_,_,_,_,rfl,rfl,bM.mono s a1,bM.mono s a2,by rw[r1.len,r2.len];exact h.1,λp hp=>bz.nl q s h.2 hp (r1.app r2)⟩))
  |_=>exact h.elim
 |@tup a xs ds1 a1 r1=>
  cases h2 with
  |@tup b ys ds2 a2 r2=>refine .inl (.inr ⟨_,_,_,_,rfl,rfl,bE.of (s _ _ a1),bE.of (s _ _ a2),λz=>h.1.1 ?_,by rw[r1.len,r2.len];exact h.1.2,λz=>?_,λ_ p hp=>bz.nt q s h.2 hp (r1.app r2)⟩);{subst z;cases r1;rfl};subst z;cases r2;have h:P .sh (.tuple (ds1++[])):=h.2;rw[Qz]at h;exact bz.sc q s h (.tup a1 r1)
  |_=>exact h.elim
 |str a=>
  cases h2 with
  |str b=>exact .inr ⟨_,_,rfl,rfl,h.1,bz.sc q s h.2 (.str _)⟩
  |_=>exact h.elim
 |_=>exact h.elim
inductive Dz(K:Frag) (x:V) (y:V)(H:Hp)(Q:VK):Prop
 |mk:∀l k xs,(x=.ref l)->(y=.int k)->(bM K H l xs)->(-(2^63)<=k)->(k<2^63)->(xs.length*k.toNat<=sizeLine)->(∀p,H p=none->Q (.ref p) (upd H p (.lst (List.replicate k.toNat xs).flatten)))->Dz K x y H Q
noncomputable def GO (K:Frag):R2:=λx y H Q=>Dz K x y H Q
section
variable{X:Cx}
open PyProof.Rows in
def HL:bq X (binaryOp .Mult) (GO X.K):=by
 intro pins s U H x y v u Q I rx ry h;obtain⟨l,k,xs,rfl,rfl,hH,h1,h2,hz,q⟩:=h;cases rx;obtain⟨t,rfl⟩:=ry;obtain⟨z,its,n,r,e⟩:=hH.get I;have hl:=r.length;have hlen:its.toArray.size*k.toNat<=sizeLine:=by rw[QI,<-hl];exact hz
 have hcap:¬its.toArray.size*k.toNat>(2^63-1)/8:=by
  have:(sizeLine:Nat)<=(2^63-1)/8:=by decide
  lia
 have hfit:¬(!Builtin.List.listFitsIndex k)=true:=by rw[fitsIndex_both h1 h2];exact QW
 have hlong:¬Builtin.List.listTooLong (its.toArray.size*k.toNat)=true:=by rw[qi hlen];exact QW
 have hnew:List.foldl (λx1 x2=>x1++x2) #[] (List.replicate (if its.toArray.isEmpty=true then 0 else k.toNat) its.toArray)=(List.replicate k.toNat its).flatten.toArray:=by
  have f0:∀m:Nat,List.foldl (λx1 x2=>x1++x2) #[] (List.replicate m its.toArray)=(List.replicate m its).flatten.toArray:=λm=>by have:=foldl_rep its m [];rw[Rx]at this;exact this
  rw[f0];cases its with
  |nil=>simp
  |cons a r'=>rw[if_neg (by simp)]
 refine wpAny_binaryOp_repeat_ref (T:="list") (U:="int") (by decide) ⟨_,e,rfl⟩ (λs'=>typeIs_int s' k t) noFill_list_mul F.fills_int_mul F.slot_int_rmul repeat_list F.slot_int_index.lookup
  (Sb F.slot_int_rmul (typeIs_int s k t) F.entry_int_rmul (F.args_int_rmul_2 _ _) (int___rmul___int_list k t l its.toArray n)
   ⟨e,rfl,⟨_,e,rfl⟩,Sb F.slot_list_mul ⟨_,e,rfl⟩ F.entry_list_mul (F.args_list_mul_2 _ _) (AutoListH.list___mul___list_int_3 l its.toArray n k t hfit hcap hlong) ⟨e,?_⟩⟩)
 rw[hnew];exact⟨.ref _,_,I.Ku (t':=s.toks) (r.rep k.toNat) (by rw[len_rep,Nat.mul_comm];exact hz),rfl,q _ I.fresh⟩
end
theorem au.rep(r:au K H xs ds):∀n:Nat,au K H (List.replicate n xs).flatten (List.replicate n ds).flatten
 |0=>.nil
 |n+1=>by rw[S9,S9,Sa,Sa];exact r.app (r.rep n)
noncomputable def dO:DR:=λds P=>match ds with
 |[.int a,.int b]=>sV a b/\P .sh (.int (a*b))
 |[.list a,.int k]=>(-(2^63)<=k/\k<2^63/\a.length*k.toNat<=sizeLine)/\P (.ow false) (.list (List.replicate k.toNat a).flatten)
 |_=>False
noncomputable def GS (K:Frag):R2:=λx y H Q=>(rI sV λi j=>.int (i*j)) x y H Q\/GO K x y H Q
def Hy:bq X (binaryOp .Mult) (GS X.K):=Mh.or HL
def Iw:cg K dO (r2 (GS K)):=by
 intro H Hm vs ds P Q s r h q;unfold dO at h;split at h;{obtain⟨x,y,rfl,h1,h2⟩:=eU r;cases h1;cases h2;exact .inl ⟨_,_,rfl,rfl,h.1,bz.sc q s h.2 (.int _)⟩}
 .obtain⟨x,y,rfl,h1,h2⟩:=eU r;cases h2;cases h1 with
  |lst a1 r1=>exact .inr ⟨_,_,_,rfl,rfl,bM.mono s a1,h.1.1,h.1.2.1,by rw[r1.len];exact h.1.2.2,λp hp=>bz.nl q s h.2 hp (r1.rep _)⟩
 exact h.elim
end Dv
namespace L2
open PySem PySem.Spec PyProof.Rows
section
variable{prog:Program}{w:World}{A:Around}{E:Uq}{s:Shared}
def uC{t sl:Addr}{items:VA}{vl vu:Value}{lo hi:Option Int}{Q:Uq}(ht:IsTup s.heap t items)(hs:s.heap.IsSliceOf sl vl vu .none)(pl:IsPart vl lo)(pu:IsPart vu hi)(w0:HT.aF items.size 0 lo=0)(w1:HT.aF items.size items.size hi=items.size)(h:Q (.ref t) s):wpAny (model prog w) A (getItem (.ref t) (.ref sl)) Q E s:=by
 obtain⟨os,hos,hcs,hds⟩:=id hs;have hTs:s.TypeIs (.ref sl) "slice":=⟨os,hos,hcs⟩;unfold getItem;refine RU (?_:_);refine Q0 (wpAny_sequenceKey ht.typeIs (by decide) (?_:_));refine Q0 (Tj (name:=Str.ofString "__getitem__") ht.typeIs Tn
  (Ru Tn ht.typeIs entry_tuple_getitem (?_:_) (args_tuple_getitem _ _)))
 refine id (?_:wpAny _ _ (Builtin.Tuple.tupleItemsOf (.ref t)>>=_) _ _ s);refine Q0 (tupleItemsOf_ ht (?_:_));refine Q0 (Sy hTs (?_:_));rw[if_pos (by decide)];refine Q0 (HT.jW hs pl pu (?_:_));have yes:(((HT.aF items.size 0 lo:Nat):Int)==0&&(1:Int)==1&&(HT.aF items.size items.size hi-HT.aF items.size 0 lo)==items.size)=true:=by rw[w0,w1,Tv];simp
 refine id (?_:wpAny _ _ (if(((HT.aF items.size 0 lo:Nat):Int)==0&&(1:Int)==1&&(HT.aF items.size items.size hi-HT.aF items.size 0 lo)==items.size)=true then _ else _) _ _ s);rw[if_pos yes];refine Q0 (m:=Builtin.Tuple.tupleIsExact _) (Q0 (Sy ht.typeIs (Q6 (?_:_))));rw[if_pos (by decide)];refine Q0 (RJ (?_:_));exact Q6 ⟨_,rfl,Q6 h⟩
end
section
variable{X:Cx}
noncomputable def FW (K:Uy):V->Option Int->Option Int->Hp->VK->Prop:=λx lo hi H Q=>∃a xs,x=.ref a/\bE K H a xs /\
 (HT.aF xs.length 0 lo=0/\HT.aF xs.length xs.length hi=xs.length->Q (.ref a) H)/\(¬(HT.aF xs.length 0 lo=0/\HT.aF xs.length xs.length hi=xs.length)->∀p,H p=none->Q (.ref p) (upd H p (.tup (mP xs lo hi))))
def HG:Dy X (FW X.K):=by
 intro pins s U H x v vl vu lo hi sl Q I rx hs pl pu h;obtain⟨a,xs,rfl,hx,q1,q2⟩:=h;by_cases c:HT.aF xs.length 0 lo=0/\HT.aF xs.length xs.length hi=xs.length
 .cases rx;obtain⟨its,r,ht,hz⟩:=I.tuple hx;have hlen:its.toArray.size=xs.length:=by rw[QI];exact r.length.symm
  refine⟨"tuple",_,Ui,ht.typeIs,?_⟩;exact uC ht hs pl pu (by rw[hlen];exact c.1) (by rw[hlen];exact c.2) ⟨.ref a,H,I,rfl,q1 c⟩
 exact Jx pins s U H (.ref a) v vl vu lo hi sl Q I rx hs pl pu ⟨a,xs,rfl,hx,c,q2 c⟩
end
end L2
namespace Dv
open PySem L2 PySem.W
noncomputable def dl:Nat->PyData->Bool
 |_,.none=>true
 |_,.int _=>true
 |_,.str x=>PyData.strOk x
 |n+1,.list ds=>ds.all (dl n)
 |n+1,.tuple ds=>ds.all (dl n)
 |_,_=>false
theorem lV:∀{ds:VB},(∀d∈ds,d.canLay0=true)->PyData.canLayAll0 ds=true
 |[],_=>rfl
 |d::ds,h=>by rw[PyData.canLayAll0,h d Q4,lV λe he=>h e (QB _ he)];rfl
theorem nA{n:Nat}:∀{ds:VB},(∀d∈ds,d.depth<=n)->PyData.depthAll ds<=n
 |[],_=>by rw[PyData.depthAll];exact Qt _
 |d::ds,h=>by rw[PyData.depthAll];exact Nat.max_le.mpr ⟨h d Q4,nA λe he=>h e (QB _ he)⟩
theorem gK:∀{n:Nat}{d:PyData},dl n d=true->d.canLay0=true/\d.depth<=n
 |_,.none,_=>⟨rfl,Qt _⟩
 |_,.int _,_=>⟨rfl,Qt _⟩
 |n,.str x,h=>⟨by cases n<;>exact h,Qt _⟩
 |n+1,.list ds,h=>by have h:ds.all (dl n)=true:=h;rw[QY]at h;refine⟨by rw[PyData.canLay0];exact lV λd hd=>(gK (h d hd)).1,?_⟩;rw[PyData.depth];have:=nA (n:=n) (ds:=ds) λd hd=>(gK (h d hd)).2;lia
 |n+1,.tuple ds,h=>by have h:ds.all (dl n)=true:=h;rw[QY]at h;refine⟨by rw[PyData.canLay0];exact lV λd hd=>(gK (h d hd)).1,?_⟩;rw[PyData.depth];have:=nA (n:=n) (ds:=ds) λd hd=>(gK (h d hd)).2;lia
 |0,.list _,h=>by cases h
 |0,.tuple _,h=>by cases h
 |n,.bool _,h=>by cases n<;>cases h
 |n,.dict _,h=>by cases n<;>cases h
theorem nq:∀{ds:VB},(∀d∈ds,nd d=true)->nd.nds ds=true
 |[],_=>rfl
 |d::ds,h=>by rw[nd.nds,h d Q4,nq λe he=>h e (QB _ he)];rfl
theorem kj:∀{n:Nat}{d:PyData},dl n d=true->nd d=true
 |_,.none,_=>rfl
 |_,.int _,_=>rfl
 |_,.str _,_=>rfl
 |_,.bool _,_=>rfl
 |n+1,.list ds,h=>by have h:ds.all (dl n)=true:=h;rw[QY]at h;rw[nd];exact nq λd hd=>kj (h d hd)
 |n+1,.tuple ds,h=>by have h:ds.all (dl n)=true:=h;rw[QY]at h;rw[nd];exact nq λd hd=>kj (h d hd)
 |0,.list _,h=>by cases h
 |0,.tuple _,h=>by cases h
 |n,.dict _,h=>by cases n<;>cases h
theorem nN(hf:∀a b,f a=true->f b=true->SeqAt.noMix a b=true):∀{xs ys:VB},xs.all f=true->ys.all f=true->SeqAt.noMixAll xs ys=true
 |[],[],_,_=>rfl
 |[],_::_,_,_=>rfl
 |_::_,[],_,_=>rfl
 |x::xs,y::ys,h1,h2=>by rw[QH,QA]at h1 h2;rw[SeqAt.noMixAll,hf x y h1.1 h2.1,nN hf h1.2 h2.2];rfl
def Bu:∀(n:Nat)(a b:PyData),dl n a=true->dl n b=true->SeqAt.noMix a b=true:=by
 intro n;induction n with
 |zero=>intro a b ha hb;cases a<;>first|(cases ha;done)|(cases b<;>first|(cases hb;done)|rfl)
 |succ n ih=>
  intro a b ha hb;cases a with
  |list xs=>
   cases b with
   |list ys=>rw[SeqAt.noMix];exact nN ih ha hb
   |dict _=>cases hb
   |bool _=>cases hb
   |_=>rfl
  |tuple xs=>
   cases b with
   |tuple ys=>rw[SeqAt.noMix];exact nN ih ha hb
   |dict _=>cases hb
   |bool _=>cases hb
   |_=>rfl
  |dict _=>cases ha
  |bool _=>cases ha
  |_=>cases b<;>first|(cases hb;done)|rfl
def BB{n:Nat}(ha:dl n a=true)(hb:dl n b=true):PyData.eqv a b=decide (a=b):=by rw[<-SeqAt.same_eq_eqv a b (Bu n a b ha hb),Rn,PyProof.Rows.same_iff,Rf]
def tL{n:Nat}(h:dl n d=true)(l:n<=60):SeqAt.shaped d=true:=by obtain⟨h1,h2⟩:=gK h;unfold SeqAt.shaped;rw[h1,Qp (Qd h2 (by lia))];rfl
noncomputable def Gy (a b:PyData)(P:Bool->Prop):Prop:=match a,b with
 |.int a,.int b=>P (decide (a=b))
 |.str a,.str b=>P (decide (a=b))
 |.bool a,.bool b=>P (decide (a=b))
 |.none,.none=>P true
 |a,b=>(dl 8 a=true/\dl 8 b=true)/\P (decide (a=b))
noncomputable def eV:DR:=λds P=>match ds with
 |[a,b]=>Gy a b λc=>P .sh (.bool c)
 |_=>False
noncomputable def nX:DR:=λds P=>match ds with
 |[a,b]=>Gy a b λc=>P .sh (.bool !c)
 |_=>False
noncomputable def qm (K:Frag)(neg:Bool):R2:=λx y H Q=>EG K neg x y H Q\/(if neg then NV x y H Q else NN x y H Q)
section
variable{X:Cx}
def Dj(hu:X.A.units+64<cLine):bq X (compareOp .Eq) (qm X.K false):=(L1 hu).or (Nq (X:=X))
def Bf(hu:X.A.units+64<cLine):bq X (compareOp .NotEq) (qm X.K true):=(Ma hu).or (M1 (X:=X))
end
def B0(neg:Bool)(s:ah Hm H)(h1:Rp K Hm x a)(h2:Rp K Hm y b)(h:Gy a b Pb)(q:∀c,Pb c->Q (.bl (if neg then !c else c)) H):qm K neg x y H Q:=by
 have gen:dl 8 a=true/\dl 8 b=true->Pb (decide (a=b))->qm K neg x y H Q:=λhd p=>by
  refine .inl ⟨a,b,(h1.mono s).tO (kj hd.1),(h2.mono s).tO (kj hd.2),tL hd.1 (by decide),tL hd.2 (by decide),Bu 8 a b hd.1 hd.2,?_⟩;have e:Spec.same a b=decide (a=b):=by rw[Rn,PyProof.Rows.same_iff,Rf]
  rw[e];exact q _ p
 have sc:E7 x y=true->Pb (decide (x=y))->qm K neg x y H Q:=λhs p=>by
  refine .inr ?_;cases neg with
  |true=>exact⟨hs,q _ p⟩
  |false=>exact⟨hs,q _ p⟩
 unfold Gy at h;split at h;{cases h1;cases h2;refine sc rfl ?_;simpa using h};{cases h1;cases h2;refine sc rfl ?_;simpa using h};{cases h1;cases h2;refine sc rfl ?_;simpa using h};{cases h1;cases h2;exact gen ⟨rfl,rfl⟩ (by simpa using h)};exact gen h.1 h.2
def BO:cg K eV (r2 (qm K false)):=by intro H Hm vs ds P Q s r h q;unfold eV at h;split at h;{obtain⟨x,y,rfl,h1,h2⟩:=eU r;exact B0 false s h1 h2 h λc p=>bz.sc q s p (.bl _)};exact h.elim
def DW:cg K nX (r2 (qm K true)):=by intro H Hm vs ds P Q s r h q;unfold nX at h;split at h;{obtain⟨x,y,rfl,h1,h2⟩:=eU r;exact B0 true s h1 h2 h λc p=>bz.sc q s p (.bl _)};exact h.elim
noncomputable def dM (neg:Bool):DR:=λds P=>match ds with
 |[a,.none]=>P .sh (.bool (if neg then !decide (a=.none)else decide (a=.none)))
 |_=>False
def Ie(h:Rp K H x d):decide (x=.aU)=decide (d=.none):=by cases h<;>simp
def Ia:cg K (dM false) (r2 λx y H Q=>y=.aU/\Q (.bl (decide (x=.aU))) H):=by intro H Hm vs ds P Q s r h q;unfold dM at h;split at h;{obtain⟨x,y,rfl,h1,h2⟩:=eU r;cases h2;refine⟨rfl,?_⟩;rw[Ie h1];exact bz.sc q s h (.bl _)};exact h.elim
noncomputable def GZ (neg:Bool):DR:=λds P=>match ds with
 |[d,.list xs]=>(xs.all (dl 8)=true/\dl 8 d=true)/\P .sh (.bool (if neg then !decide (d∈xs)else decide (d∈xs)))
 |[d,.tuple xs]=>(xs.all (dl 8)=true/\dl 8 d=true)/\P .sh (.bool (if neg then !decide (d∈xs)else decide (d∈xs)))
 |_=>False
inductive Gj(K:Frag)(neg:Bool) (x:V) (y:V)(H:Hp)(Q:VK):Prop
 |mk:∀(d:PyData)(xs:VB),(jE K H x d)->((jE K H y (.list xs)\/jE K H y (.tuple xs)))->(PyData.canLayAll0 xs=true)->(d.canLay0=true)->(d.depth<=60)->(Q (.bl (if neg then !xs.any λy=>PyData.eqv y d else xs.any λy=>PyData.eqv y d)) H)->Gj K neg x y H Q
noncomputable def An (K:Frag)(neg:Bool):R2:=λx y H Q=>Gj K neg x y H Q
section
variable{X:Cx}
def K3(hu:X.A.units+64<cLine):bq X (compareOp .In) (An X.K false):=by intro pins s U H x y v u Q I rx ry h;obtain⟨d,xs,hx,hy,l1,l2,dp,q⟩:=h;obtain⟨bs,rb⟩:=I.reads hx rx;rcases hy with hy|hy;{obtain⟨as,ra⟩:=I.reads hy ry;exact SeqAt.in_list_reads ra rb l1 l2 (by lia) ⟨.bl _,H,I,rfl,q⟩};obtain⟨as,ra⟩:=I.reads hy ry;exact SeqAt.in_tuple_reads ra rb l1 l2 (by lia) ⟨.bl _,H,I,rfl,q⟩
def Cy(hu:X.A.units+64<cLine):bq X (compareOp .NotIn) (An X.K true):=by intro pins s U H x y v u Q I rx ry h;obtain⟨d,xs,hx,hy,l1,l2,dp,q⟩:=h;obtain⟨bs,rb⟩:=I.reads hx rx;rcases hy with hy|hy;{obtain⟨as,ra⟩:=I.reads hy ry;exact SeqAt.notIn_list_reads ra rb l1 l2 (by lia) ⟨.bl _,H,I,rfl,q⟩};obtain⟨as,ra⟩:=I.reads hy ry;exact SeqAt.notIn_tuple_reads ra rb l1 l2 (by lia) ⟨.bl _,H,I,rfl,q⟩
end
def x6{n:Nat}{xs:VB}(h:xs.all (dl n)=true)(hd:dl n d=true):(xs.any λy=>PyData.eqv y d)=decide (d∈xs):=by rw[Rn,List.any_eq_true,Rf];rw[QY]at h;constructor;{rintro⟨y,hy,e⟩;rw[BB (h y hy) hd,Rf]at e;exact e▸hy};intro m;exact⟨d,m,by rw[BB hd hd];simp⟩
def JA{K:Frag}(neg:Bool):cg K (GZ neg) (r2 (An K neg)):=by intro H Hm vs ds P Q s r h q;unfold GZ at h;split at h;{rename_i d xs;obtain⟨x,y,rfl,h1,h2⟩:=eU r;obtain⟨⟨ha,hd⟩,p⟩:=h;refine⟨d,xs,(h1.mono s).tO (kj hd),.inl ((h2.mono s).tO (by rw[nd];exact nq λd hd=>kj (QY.mp ha d hd))),lV λe he=>(gK (QY.mp ha e he)).1,(gK hd).1,Qd (gK hd).2 (by decide),?_⟩;rw[x6 ha hd];exact bz.sc q s p (.bl _)};{rename_i d xs;obtain⟨x,y,rfl,h1,h2⟩:=eU r;obtain⟨⟨ha,hd⟩,p⟩:=h;refine⟨d,xs,(h1.mono s).tO (kj hd),.inr ((h2.mono s).tO (by rw[nd];exact nq λd hd=>kj (QY.mp ha d hd))),lV λe he=>(gK (QY.mp ha e he)).1,(gK hd).1,Qd (gK hd).2 (by decide),?_⟩;rw[x6 ha hd];exact bz.sc q s p (.bl _)};exact h.elim
noncomputable def FL:DR:=λds P=>match ds with
 |[.list xs,.int i]=>∃d,cX xs i=some d/\P .sh d
 |[.tuple xs,.int i]=>∃d,cX xs i=some d/\P .sh d
 |_=>False
theorem au.cX(r:au K H vs ds){i:Int}(h:L2.cX ds i=some d):∃v,L2.cX vs i=some v/\Rp K H v d:=by
 unfold L2.cX at h⊢;rw[r.len];cases e:ko ds.length i with
 |none=>rw[e]at h;cases h
 |some j=>rw[e]at h;exact r.get h
def Ln:cg K FL (r2 (Kl K)):=by
 intro H Hm vs ds P Q s r h q;unfold FL at h;split at h
 .obtain⟨x,y,rfl,h1,h2⟩:=eU r;obtain⟨d,e,p⟩:=h;cases h2;cases h1 with
  |lst a1 r1=>obtain⟨v,e2,rv⟩:=r1.cX e;exact .inl ⟨_,_,_,v,rfl,rfl,(bM.mono s a1).sq,e2,bz.sc q s p rv⟩
 .obtain⟨x,y,rfl,h1,h2⟩:=eU r;obtain⟨d,e,p⟩:=h;cases h2;cases h1 with
  |tup a1 r1=>obtain⟨v,e2,rv⟩:=r1.cX e;exact .inr (.inl ⟨_,_,_,v,rfl,rfl,bE.of (s _ _ a1),e2,bz.sc q s p rv⟩)
 exact h.elim
noncomputable def cutD (xs:VB)(lo hi:Option Int):VB:=(xs.drop (HT.aF xs.length 0 lo)).take (HT.aF xs.length xs.length hi-HT.aF xs.length 0 lo)
def au.cut(r:au K H vs ds)(lo hi:Option Int):au K H (mP vs lo hi) (cutD ds lo hi):=by unfold mP cutD;rw[r.len];exact(r.drop _).take _
noncomputable def Cn (d:PyData)(lo hi:Option Int)(P:Kd->PyData->Prop):Prop:=match d with
 |.list xs=>P (.ow false) (.list (cutD xs lo hi))
 |.tuple xs=>P .sh (.tuple (cutD xs lo hi))
 |_=>False
noncomputable def kg (bl bh:Bool):DR:=λds P=>match bl,bh with
 |false,false=>N1 (λd=>Cn d none none P) ds
 |true,false=>zk (λd e=>uP e λa=>Cn d (some a) none P) ds
 |false,true=>zk (λd e=>uP e λb=>Cn d none (some b) P) ds
 |true,true=>NH (λd e e'=>uP e λa=>uP e' λb=>Cn d (some a) (some b) P) ds
noncomputable def sY (K:Frag):V->Option Int->Option Int->Hp->VK->Prop:=λx lo hi H Q=>Jt K x lo hi H Q\/FW K x lo hi H Q
def Ef:Dy X (sY X.K):=λpins s U H x v vl vu lo hi sl Q I rx hs pl pu h=>h.elim (HV pins s U H x v vl vu lo hi sl Q I rx hs pl pu) (HG pins s U H x v vl vu lo hi sl Q I rx hs pl pu)
noncomputable def BS (bl bh:Bool)(K:Frag):List V->Hp->VK->Prop:=λvs H Q=>match bl,bh,vs with
 |false,false,[x]=>sY K x none none H Q
 |true,false,[x,a]=>∃i,a=.int i/\sY K x (some i) none H Q
 |false,true,[x,b]=>∃i,b=.int i/\sY K x none (some i) H Q
 |true,true,[x,a,b]=>∃i,a=.int i/\∃j,b=.int j/\sY K x (some i) (some j) H Q
 |_,_,_=>False
def zB(h:HT.aF xs.length 0 lo=0/\HT.aF xs.length xs.length hi=xs.length):cutD xs lo hi=xs:=by unfold cutD;rw[h.1,h.2,TF,Tv,Rc]
def rM(q:bz K H Hm P Q)(s:ah Hm H)(h1:Rp K Hm x d)(h:Cn d lo hi P):sY K x lo hi H Q:=by
 cases h1 with
 |lst a1 r1=>exact .inl ⟨_,_,rfl,(bM.mono s a1).sq,λp hp=>bz.nl q s h hp (r1.cut lo hi)⟩
 |tup a1 r1=>refine .inr ⟨_,_,rfl,bE.of (s _ _ a1),λw=>?_,λ_ p hp=>bz.nt q s h hp (r1.cut lo hi)⟩;rw[r1.len]at w;have h:P .sh (.tuple (cutD _ lo hi)):=h;rw[zB w]at h;exact bz.sc q s h (.tup a1 r1)
 |_=>exact h.elim
def wH(bl bh:Bool):cg K (kg bl bh) (BS bl bh K):=by
 intro H Hm vs ds P Q s r h q;cases bl with
 |false=>
  cases bh with
  |false=>obtain⟨x,d,rfl,rfl,h1,h⟩:=L7 r h;exact rM q s h1 h
  |true=>obtain⟨x,y,d,e,rfl,rfl,h1,h2,h⟩:=nK r h;obtain⟨i,rfl,h⟩:=oM h2 h;exact⟨_,rfl,rM q s h1 h⟩
 |true=>
  cases bh with
  |false=>obtain⟨x,y,d,e,rfl,rfl,h1,h2,h⟩:=nK r h;obtain⟨i,rfl,h⟩:=oM h2 h;exact⟨_,rfl,rM q s h1 h⟩
  |true=>obtain⟨x,y,z,d,e,e',rfl,rfl,h1,h2,h3,h⟩:=Jb r h;obtain⟨i,rfl,h⟩:=oM h2 h;obtain⟨j,rfl,h⟩:=oM h3 h;exact⟨_,rfl,_,rfl,rM q s h1 h⟩
section
variable{X:Cx}{Ex:XK}{Y:VI}{a l u:Expr}{pos p2:Pos}{as:List Arg}
def IW(S:aH X Ex Y [a,l] as):SE X Ex Y (.Subscript a (.Slice (some l) none none p2) pos) (aa (kg true false) as):=fj (r:=BS true false X.K) S (λU H Q h=>WE.of (v8 Ef aS (zf aS) yE) h) (wH _ _)
def Cf(S:aH X Ex Y [a,u] as):SE X Ex Y (.Subscript a (.Slice none (some u) none p2) pos) (aa (kg false true) as):=fj (r:=BS false true X.K) S (λU H Q h=>WE.of (v8 Ef aS yE (zf aS)) h) (wH _ _)
open PyProof.Rows in
def K6(h:oi X [a,l,u] U H λvs H1=>BS true true X.K vs H1 Q):WE X (.Subscript a (.Slice (some l) (some u) none p2) pos) U H Q:=by intro pins s I;refine Subscript_ (aJ (h pins s I) λv s1 ⟨x,H1,I1,r1,q1⟩=>?_);refine wpAny_Slice ?_;rw[evalPart_some];refine aJ (q1 pins s1 I1) λvl s2 ⟨y,H2,I2,pl,q2⟩=>?_;rw[evalPart_some];refine aJ (q2 pins s2 I2) λvu s3 ⟨z,H3,I3,pu,q3⟩=>?_;obtain⟨i,rfl,j,rfl,q3⟩:=q3;obtain⟨t1,rfl⟩:=pl;obtain⟨t2,rfl⟩:=pu;rw[evalPart_none];refine Q6 ?_;have I4:Inv X pins U H3 { s3 with heap:=s3.heap.push { cls:=.type "slice",data:=.fields #[.int i t1,.int j t2,.none] } }:=I3.kept (t':=s3.toks) λb ob q=>QU _ q;obtain⟨T,id,hT,ht,hg⟩:=Ef pins { s3 with heap:=s3.heap.push { cls:=.type "slice",data:=.fields #[.int i t1,.int j t2,.none] } } U H3 x v (.int i t1) (.int j t2) (some i) (some j) s3.heap.objs.size Q I4 r1 (Heap.IsSliceOf.new ..) (.int i t1) (.int j t2) q3;show wpAny (model X.prog X.w) X.A (subscriptTail a (.Slice (some l) (some u) none p2) v (.ref s3.heap.objs.size)) (EP X pins U Q) X.xe { s3 with heap:=s3.heap.push { cls:=.type "slice",data:=.fields #[.int i t1,.int j t2,.none] } };exact tail_any (ops:=[.ref s3.heap.objs.size,v]) ht hT hg (by with_unfolding_all rfl)
def LS(S:aH X Ex Y [a,l,u] as):SE X Ex Y (.Subscript a (.Slice (some l) (some u) none p2) pos) (aa (kg true true) as):=fj (r:=BS true true X.K) S (λU H Q h=>K6 h) (wH _ _)
end
end Dv
namespace L2
open PySem PySem.Spec PyProof.Rows
section
variable{X:Cx}
def xT:bZ X (.type "range") (λxs H Q=>∃j:Int,xs=[.int j]/\∀p,H p=none->Q (.ref p) (upd H p (.pP 0 j))):=by intro pins s U H xs us Q I r h;obtain⟨j,rfl,q⟩:=h;obtain⟨u,rfl,ru⟩:=vals1 r;obtain⟨t,rfl⟩:=ru;refine call_range_1 (?_:_);exact⟨.ref s.heap.objs.size,_,I.laid (o:=.pP 0 j) (λb o e=>QU _ e) (Q7 _) ⟨_,_,_,Qn _ rfl⟩,rfl,q _ (I.hok.fresh (Q7 _))⟩
def Ab(hc:X.calm=true):bZ X (.type "list") (λxs H Q=>∃(a:Addr) (j:Int),xs=[.ref a]/\H a=some (.pP 0 j)/\0<=j/\j<=1000/\∀l,H l=none->Q (.ref l) (upd H l (.lst (((List.range j.toNat).map λi:Nat=>(i:Int)).map V.int)))):=by
 intro pins s U H xs us Q I r h;obtain⟨a,j,rfl,ha,j0,j1,q⟩:=h;obtain⟨u,rfl,ru⟩:=vals1 r;cases ru;obtain⟨t,u,v,e⟩:=I.hok a _ ha;refine call_list_range (n:=j.toNat) (I.ok.hd hc) e (small_one (by decide) (by decide) (by lia) (by lia)) (by rw[rangeSize_one];split<;>lia) (by lia) λh' tk acc c kp hS its=>?_;obtain⟨z1,z2⟩:=its;have rv:Vals (((List.range j.toNat).map λi:Nat=>(i:Int)).map V.int) acc.toList:=by
  have go:∀(l:VD) (k:Nat),(∀(i:Nat)(v:Value),l[i]?=some v->∃t:Tok,v=Value.int ((k+i:Nat):Int) t)->Vals (((List.range' k l.length).map λi:Nat=>(i:Int)).map V.int) l:=λl=>by
   induction l with
   |nil=>exact λk _=>.nil
   |cons x l ih=>intro k h;obtain⟨t,e⟩:=h 0 x rfl;refine .cons ⟨t,by simpa using e⟩ (ih (k+1) λi v hv=>?_);obtain⟨t,e⟩:=h (i+1) v hv;exact⟨t,by rw[e,Ra,Nat.add_comm 1 i]⟩
  have:=go acc.toList 0 λi v hv=>by obtain⟨t,e⟩:=z2 i v (by simpa using hv);exact⟨t,by rw[e];simp⟩
  rw[List.range_eq_range'];simpa[z1]using this
 exact⟨.ref s.heap.objs.size,_,I.laid (t':=tk) kp (Q7 _) (o:=.lst _) ⟨by rw[Q5,Q5,QC];exact Qd (show j.toNat<=1000 by lia) (by decide),acc.toList,c,rv,by simpa using hS⟩,rfl,q _ (I.hok.fresh (Q7 _))⟩
end
end L2
namespace Dv
open PySem L2 PySem.W
section
variable{X:Cx}{Ex:XK}{Y:VI}
def vD(h:PE X e (tC u))(r:∀Hm,Rp X.K Hm u v):SE X Ex Y e (dC v):=λg x E U H Hm F P Q hx R p q=>WE.of h (q _ _ _ _ _ _ _ [] p R (ah.refl _) (Tm.sh (r Hm)))
def Lg{i j:Nat}(h:PE X e (jw j))(hj:Y[j]?=some i):SE X Ex Y e (bJ i):=by
 intro g x E U H Hm F P Q hx R p q;replace p:Cm E i P:=p;unfold Cm at p;split at p
 rotate_left
 .exact p.elim
 rename_i k d e1;rw[<-aR,yq]at p;obtain⟨E',e2,p⟩:=p;obtain⟨v,Hm',F',h1,s,R',r⟩:=R.cM e1 e2;exact WE.of h ⟨v,cP hj h1,q _ _ _ _ _ _ _ [] p R' s (Tm.sh r)⟩
noncomputable def bG (X:Cx)(Ex:XK)(Y:VI)(e:Expr)(d:DE):Prop:=
 ∀(g:Gh)(x:XC)(E:En)(U:St)(H Hm:Hp)(F:Nat->VE)(P:En->Kd->PyData->Prop)(Q:Bool->Hp->Prop),XL X Ex x g->Rl X.K g E U H Hm F->d x E P->
  (∀E' k v H' Hm' F',P E' k v->Rl X.K g E' U H' Hm' F'->ah Hm Hm'->∃b,k7 v=some b/\Q b H')->WT X e (sel Y U) H Q
def bG.st{e:Expr}{d:DE}(h:bG X Ex Y e d):ST X Ex Y e (bI d):=by rw[Iz];exact λg x E U H Hm F P Q hx R p q=>h g x E U H Hm F _ Q hx R p λE' k v H' Hm' F' ⟨b,e1,p⟩ R' s=>⟨b,e1,q _ _ _ _ _ p R' s⟩
theorem Rp.k7{b:Bool}(r:Rp K H u v)(h:Dv.k7 v=some b):sj K u H b:=by
 cases r with
 |aU=>cases h;rfl
 |bl c=>cases h;rfl
 |int i=>cases h;show(!decide (i=0))=(i != 0);rw[bne,Bool.beq_eq_decide_eq]
 |str _=>cases h
 |lst a r1=>cases h;refine .inl ⟨_,a.sq,?_⟩;cases r1<;>rfl
 |tup a r1=>cases h;refine .inr (.inl ⟨_,bE.of a,?_⟩);cases r1<;>rfl
 |dk _ _=>cases h
 |dt _ _=>cases h
 |exc _ _=>cases h
theorem Own.k7{b:Bool}(o:Own K H Hm k u v fp)(s:ah Hm H)(h:Dv.k7 v=some b):sj K u H b:=by by_cases hk:k.rd=true;{exact(o.rp (Hm':=H) hk s λ_ _=>rfl).k7 h};cases o<;>first|exact absurd rfl hk|cases h
def SE.tS(h:SE X Ex Y e d)(he:∀whole,isTrue e X.env whole=(do let v <-whole;standAt e.pos;holding [v] (truthy v))):bG X Ex Y e d:=by intro g x E U H Hm F P Q hx R p q;refine WT.of (v7 aS he) (h g x E U H Hm F P _ hx R p λE' k v u H' Hm' F' fp p' R' s T=>?_);obtain⟨b,e1,q'⟩:=q _ _ _ _ _ _ p' R' s;exact⟨b,T.own.k7 R'.sub e1,q'⟩
def KI(ho:bq X (compareOp op) r)(hm:behindInMarks op b=false)(h:oi X [a,b] U H λvs H1=>r2 r vs H1 λx H'=>∃k,sj X.K x H' k/\Q k H'):WT X (.Compare a [op] [b] pos) U H Q:=by intro pins s I;refine wpAny_isTrue_Compare1 (aJ (h pins s I) λv s1 ⟨x,H1,I1,r1,q1⟩=>aJ (q1 pins s1 I1) λu s2 ⟨y,H2,I2,r2,q2⟩=>aJ (ho pins s2 U H2 x y v u _ I2 r1 r2 q2) λc s3 ⟨z,H3,I3,r3,q3⟩=>?_) hm;exact BU pins s3 U H3 z c Q I3 r3 q3
def KY(S:aH X Ex Y es as)(hr:∀U H (Q:Bool->Hp->Prop),oi X es U H (λvs H1=>r vs H1 λx H'=>∃k,sj X.K x H' k/\Q k H')->WT X e U H Q)(D:cg X.K f r):bG X Ex Y e (aa f as):=by
 intro g x E U H Hm F P Q hx R h q;refine hr _ _ _ (iN hx S R h λE1 os vs H1 Hm1 F1 p R1 s1 G=>?_);replace p:uY f as E1 os P:=p;unfold uY at p;rw[<-aR,dD]at p;obtain⟨ds,hf,hg⟩:=p;have off:∀a∈(b5 as).flatMap F1,Hm1 a=none:=λa ha=>by obtain⟨i,_,h⟩:=Qj.mp ha;exact R1.off i a h
 have up:=gu (Hm:=Hm1) (H:=H1) off;refine D H1 (lend Hm1 H1 ((b5 as).flatMap F1)) vs ds _ _ (gY R1.sub) (lS R1 up G hf λi hi a ha=>dW (Qj.mpr ⟨i,hi,ha⟩)) hg λk v u H' Hm2 fp p sH sM sS old o fr=>?_;replace p:aq (qf as E1 k v) _:=p;rw[<-aR,yr]at p;obtain⟨E2,ha,p⟩:=p;obtain⟨Hm',F',R',s',T⟩:=wN R1 (is:=b5 as) (rV ha) sH sM sS old o fr;obtain⟨b,e1,q'⟩:=q _ _ _ _ _ _ p R' (s1.trans s');exact⟨b,o.k7 sS e1,q'⟩
def gf(ho:bq X (compareOp op) r)(hm:behindInMarks op b=false)(D:cg X.K f (r2 r))(S:aH X Ex Y [a,b] as):bG X Ex Y (.Compare a [op] [b] pos) (aa f as):=KY S (λU H Q h=>KI ho hm h) D
theorem Own.bool{c:Bool}(o:Own K H Hm k u (.bool c) fp):u=.bl c:=by
 cases o with
 |sh r=>cases r;rfl
theorem Own.int{i:Int}(o:Own K H Hm k u (.int i) fp):u=.int i:=by
 cases o with
 |sh r=>cases r;rfl
def Cz(h:SE X Ex Y a d):SE X Ex Y (.BoolOp op [a] pos) d:=λg x E U H Hm F P Q hx R p q=>WE.of (LR aS) (h g x E U H Hm F P Q hx R p q)
def JB{a b:Expr}{rest:VG}{pos:Pos}{d e:DE}(ha:SE X Ex Y a d)(hb:SE X Ex Y (.BoolOp .And (b::rest) pos) e):SE X Ex Y (.BoolOp .And (a::b::rest) pos) (kK d e):=by
 rw[zw];intro g x E U H Hm F P Q hx R p q;refine WE.of (Jc aS aS) (ha g x E U H Hm F _ _ hx R p λE1 k v u H1 Hm1 F1 fp p1 R1 s1 T=>?_);obtain⟨c,rfl,p1⟩:=p1;refine⟨c,T.own.bool,?_⟩;cases c with
 |true=>exact l7 (hb g x E1 U H1 Hm1 F1 P Q hx R1 p1 λE' k v u H' Hm' F' fp p' R' s' T'=>q _ _ _ _ _ _ _ _ p' R' (s1.trans s') T')
 |false=>exact l6 (q _ _ _ _ _ _ _ [] p1 R1 s1 (Tm.sh (.bl false)))
def Mr{a b:Expr}{rest:VG}{pos:Pos}{d e:DE}(ha:SE X Ex Y a d)(hb:SE X Ex Y (.BoolOp .Or (b::rest) pos) e):SE X Ex Y (.BoolOp .Or (a::b::rest) pos) (rT d e):=by
 rw[Dd];intro g x E U H Hm F P Q hx R p q;refine WE.of (Nb aS aS) (ha g x E U H Hm F _ _ hx R p λE1 k v u H1 Hm1 F1 fp p1 R1 s1 T=>?_);obtain⟨c,rfl,p1⟩:=p1;refine⟨c,T.own.bool,?_⟩;cases c with
 |true=>exact l7 (q _ _ _ _ _ _ _ [] p1 R1 s1 (Tm.sh (.bl true)))
 |false=>exact l6 (hb g x E1 U H1 Hm1 F1 P Q hx R1 p1 λE' k v u H' Hm' F' fp p' R' s' T'=>q _ _ _ _ _ _ _ _ p' R' (s1.trans s') T')
noncomputable def WW (X:Cx)(e:Expr):TT:=λU H Q=>∀(whole:Sem Value)(pins:Ut)(s:Shared),Inv X pins U H s->wpAny (model X.prog X.w) X.A (isTrue e X.env whole) (TP X pins U Q) X.xe s
def pw_ww:PW X e (WW X e):=λwh pins s _ _ _ I h=>h wh pins s I
def WW.of(h:PW X e t)(q:t U H Q):WW X e U H Q:=λwh pins s I=>h wh pins s U H Q I q
noncomputable def lM (X:Cx)(Ex:XK)(Y:VI)(e:Expr)(d:DE):Prop:=
 ∀(g:Gh)(x:XC)(E:En)(U:St)(H Hm:Hp)(F:Nat->VE)(P:En->Kd->PyData->Prop)(Q:Bool->Hp->Prop),XL X Ex x g->Rl X.K g E U H Hm F->d x E P->
  (∀E' k v H' Hm' F',P E' k v->Rl X.K g E' U H' Hm' F'->ah Hm Hm'->∃b,k7 v=some b/\Q b H')->WW X e (sel Y U) H Q
def lM.tS(h:lM X Ex Y e d):bG X Ex Y e d:=λg x E U H Hm F P Q hx R p q=>WT.of (PW.pt pw_ww) (h g x E U H Hm F P Q hx R p q)
def jk(h:bG X Ex Y a d):lM X Ex Y (.BoolOp op [a] pos) d:=λg x E U H Hm F P Q hx R p q=>by
 cases op with
 |And=>exact WW.of (pw_and1 jd) (h g x E U H Hm F P Q hx R p q)
 |Or=>exact WW.of (pw_or1 jd) (h g x E U H Hm F P Q hx R p q)
def oA{a b:Expr}{rest:VG}{pos:Pos}{d e:DE}(ha:bG X Ex Y a d)(hb:lM X Ex Y (.BoolOp .And (b::rest) pos) e):lM X Ex Y (.BoolOp .And (a::b::rest) pos) (kK d e):=by
 rw[zw];intro g x E U H Hm F P Q hx R p q;refine WW.of (pw_and jd pw_ww) (ha g x E U H Hm F _ _ hx R p λE1 k v H1 Hm1 F1 p1 R1 s1=>?_);obtain⟨c,rfl,p1⟩:=p1;refine⟨c,rfl,?_⟩;cases c with
 |true=>exact l7 (hb g x E1 U H1 Hm1 F1 P Q hx R1 p1 λE' k v H' Hm' F' p' R' s'=>q _ _ _ _ _ _ p' R' (s1.trans s'))
 |false=>obtain⟨b,e1,q'⟩:=q _ _ _ _ _ _ p1 R1 s1;cases e1;exact l6 q'
def w4{a b:Expr}{rest:VG}{pos:Pos}{d e:DE}(ha:bG X Ex Y a d)(hb:lM X Ex Y (.BoolOp .Or (b::rest) pos) e):lM X Ex Y (.BoolOp .Or (a::b::rest) pos) (rT d e):=by
 rw[Dd];intro g x E U H Hm F P Q hx R p q;refine WW.of (pw_or jd pw_ww) (ha g x E U H Hm F _ _ hx R p λE1 k v H1 Hm1 F1 p1 R1 s1=>?_);obtain⟨c,rfl,p1⟩:=p1;refine⟨c,rfl,?_⟩;cases c with
 |true=>obtain⟨b,e1,q'⟩:=q _ _ _ _ _ _ p1 R1 s1;cases e1;exact l7 q'
 |false=>exact l6 (hb g x E1 U H1 Hm1 F1 P Q hx R1 p1 λE' k v H' Hm' F' p' R' s'=>q _ _ _ _ _ _ p' R' (s1.trans s'))
def Cw(ho:bq X (compareOp op) (mZ λi j=>.bl (f i j)))(ho':bq X (compareOp op') (mZ λi j=>.bl (f' i j)))(hm:lastMarks [op,op'] [b,c]=false)(ha:SE X Ex Y a da)(hb:SE X Ex Y b db)(hc:SE X Ex Y c dc):bG X Ex Y (.Compare a [op,op'] [b,c] pos) (oq f f' da db dc):=by rw[DX];intro g x E U H Hm F P Q hx R p q;refine WT.of (Ey ho ho' aS aS aS hm) (ha g x E U H Hm F _ _ hx R p λE1 k1 v1 u1 H1 Hm1 F1 fp1 p1 R1 s1 T1=>?_);obtain⟨i,rfl,p1⟩:=p1;cases T1.own.int;refine hb g x E1 U H1 Hm1 F1 _ _ hx R1 p1 λE2 k2 v2 u2 H2 Hm2 F2 fp2 p2 R2 s2 T2=>?_;obtain⟨j,rfl,p2⟩:=p2;cases T2.own.int;refine⟨i,j,rfl,rfl,f i j,rfl,?_⟩;by_cases z:f i j=true;{rw[if_pos z]at p2⊢;refine hc g x E2 U H2 Hm2 F2 _ _ hx R2 p2 λE3 k3 v3 u3 H3 Hm3 F3 fp3 p3 R3 s3 T3=>?_;obtain⟨k,rfl,p3⟩:=p3;cases T3.own.int;obtain⟨b',e1,q'⟩:=q _ _ _ _ _ _ p3 R3 (s1.trans (s2.trans s3));cases e1;exact⟨j,k,rfl,rfl,_,rfl,q'⟩};rw[if_neg z]at p2⊢;obtain⟨b',e1,q'⟩:=q _ _ _ _ _ _ p2 R2 (s1.trans s2);cases e1;exact⟨_,rfl,q'⟩
def uL(hc:ST X Ex Y c t)(ha:SE X Ex Y a d)(hb:SE X Ex Y b e):SE X Ex Y (.IfExp c a b pos) (t8 t d e):=by
 rw[JE];intro g x E U H Hm F P Q hx R p q;refine WE.of (EY jd aS aS) (hc g x E U H Hm F _ _ hx R p λE1 b H1 Hm1 F1 p1 R1 s1=>?_);cases b with
 |true=>exact l7 (ha g x E1 U H1 Hm1 F1 P Q hx R1 (by simpa using p1) λE' k v u H' Hm' F' fp p' R' s' T'=>q _ _ _ _ _ _ _ _ p' R' (s1.trans s') T')
 |false=>exact l6 (hb g x E1 U H1 Hm1 F1 P Q hx R1 (by simpa using p1) λE' k v u H' Hm' F' fp p' R' s' T'=>q _ _ _ _ _ _ _ _ p' R' (s1.trans s') T')
def OA{i j:Nat}(h:PE X e (jw j))(hj:Y[j]?=some i)(he:∀whole,isTrue e X.env whole=(do let v <-whole;standAt e.pos;holding [v] (truthy v))):ST X Ex Y e (GD i):=by
 intro g x E U H Hm F P Q hx R p q;replace p:Br E i P:=p;unfold Br at p;split at p
 rotate_left
 .exact p.elim
 rename_i k d e1;rw[cZ,<-Gp]at p;obtain⟨hk,b,ht,p⟩:=p;obtain⟨v,h1,h2⟩:=R.slot i k d e1;exact WT.of (v7 h he) ⟨v,cP hj h1,b,h2.k7 R.sub ht,q _ _ _ _ _ p R (ah.refl _)⟩
def O4(ha:ST X Ex Y a t):ST X Ex Y (.UnaryOp .Not a pos) (KL t):=by intro g x E U H Hm F P Q hx R p q;exact WT.of (L3 jd) (ha g x E U H Hm F _ _ hx R p λE1 b H1 Hm1 F1 p1 R1 s1=>q _ _ _ _ _ p1 R1 s1)
end
noncomputable def noStar:Expr->Bool
 |.Starred ..=>false
 |_=>true
def aO(h:noStar e=true):starEach (e::es) env=(false,eval e env)::starEach es env:=by cases e<;>first|rfl|cases h
theorem eY:∀{es:VG},es.all noStar=true->(backTo pos (starEach es env)).any (·.1)=false
 |[],_=>rfl
 |e::es,h=>by rw[QH,QA]at h;rw[aO h.1];show(false||(backTo pos (starEach es env)).any (·.1))=false;rw[eY h.2];rfl
section
variable{X:Cx}{Ex:XK}{Y:VI}
theorem cY:∀{es:VG},es.all noStar=true->PA X es (oi X es)
 |[],_=>lU
 |e::es,h=>by rw[QH,QA]at h;exact gh aS (cY h.2) (aO h.1)
def fX{x:Str}{id:String}{p pos:Pos}{e:Expr}{es:VG}{as:List Arg}{f:DR}{r:List V->Hp->VK->Prop}(hc:bZ X (.builtin id) r)(D:cg X.K f r)(hg:Gl X x)(hm:X.mg x=none)(hv:bootBuiltins x=some (.builtin id))(hn:x≠"__name__")(hd:(x==("__debug__":Str))=false)(ns:(e::es).all noStar=true)(S:aH X Ex Y (e::es) as):SE X Ex Y (.Call (.Name x p) (e::es) [] pos) (aa f as):=
 fj S (λU H Q h=>WE.of (xm hc hg hm hv (cY ns) hn hd (aO (by rw[QH,QA]at ns;exact ns.1)) (eY (by rw[QH,QA]at ns;exact ns.2))) h) D
def oj(hc:bZ X (.type T) r)(D:cg X.K f r)(hg:Gl X x)(hm:X.mg x=none)(hv:bootBuiltins x=some (.type T))(hn:x≠"__name__")(hd:(x==("__debug__":Str))=false)(ns:(e::es).all noStar=true)(S:aH X Ex Y (e::es) as):SE X Ex Y (.Call (.Name x p) (e::es) [] pos) (aa f as):=
 fj S (λU H Q h=>WE.of (ki hc hg hm hv (cY ns) hn hd (aO (by rw[QH,QA]at ns;exact ns.1)) (eY (by rw[QH,QA]at ns;exact ns.2))) h) D
noncomputable def cI:DR:=λds P=>ds.length<=sizeLine/\P (.ow false) (.list ds)
noncomputable def cy:DR:=λds P=>ds.length<=sizeLine/\P .sh (.tuple ds)
def Iv:cg K cI λxs H Q=>xs.length<=sizeLine/\∀p,H p=none->Q (.ref p) (upd H p (.lst xs)):=λH Hm vs ds P Q s r h q=>⟨by rw[r.len];exact h.1,λp hp=>bz.nl q s h.2 hp r⟩
def HS:cg K cy λxs H Q=>xs.length<=sizeLine/\∀p,H p=none->Q (.ref p) (upd H p (.tup xs)):=λH Hm vs ds P Q s r h q=>⟨by rw[r.len];exact h.1,λp hp=>bz.nt q s h.2 hp r⟩
def Lr(ns:es.all noStar=true)(S:aH X Ex Y es as):SE X Ex Y (.List es pos) (aa cI as):=fj S (λU H Q h=>WE.of (J1 (cY ns)) h) Iv
def Lx{k:Nat}(ns:es.all noStar=true)(S:aH X Ex Y es as):SE X Ex Y (.Tuple es k pos) (aa cy as):=fj S (λU H Q h=>WE.of (Je (cY ns)) h) HS
noncomputable def Fg:DR:=λds P=>match ds with
 |[.list xs]=>P .sh (.int xs.length)
 |[.tuple xs]=>P .sh (.int xs.length)
 |_=>False
def Ig:cg K Fg λxs H Q=>∃p ys,xs=[.ref p]/\(bA K H p ys\/bE K H p ys)/\Q (.int ys.length) H:=by
 intro H Hm vs ds P Q s r h q;unfold Fg at h;split at h
 .obtain⟨x,rfl,h1⟩:=dB r;cases h1 with
  |lst a r1=>exact⟨_,_,rfl,.inl (bM.mono s a).sq,by rw[r1.len];exact bz.sc q s h (.int _)⟩
 .obtain⟨x,rfl,h1⟩:=dB r;cases h1 with
  |tup a r1=>exact⟨_,_,rfl,.inr (bE.of (s _ _ a)),by rw[r1.len];exact bz.sc q s h (.int _)⟩
 exact h.elim
noncomputable def oO:DR:=λds P=>match ds with
 |[.list xs]=>P (.ow false) (.list xs)
 |[.tuple xs]=>P (.ow false) (.list xs)
 |_=>False
def Ek:cg K oO λxs H Q=>∃p ys,xs=[.ref p]/\(bA K H p ys\/bE K H p ys)/\∀l,H l=none->Q (.ref l) (upd H l (.lst ys)):=by
 intro H Hm vs ds P Q s r h q;unfold oO at h;split at h
 .obtain⟨x,rfl,h1⟩:=dB r;cases h1 with
  |lst a r1=>exact⟨_,_,rfl,.inl (bM.mono s a).sq,λp hp=>bz.nl q s h hp r1⟩
 .obtain⟨x,rfl,h1⟩:=dB r;cases h1 with
  |tup a r1=>exact⟨_,_,rfl,.inr (bE.of (s _ _ a)),λp hp=>bz.nl q s h hp r1⟩
 exact h.elim
noncomputable def lB:DR:=λds P=>match ds with
 |[.list xs]=>P .sh (.tuple xs)
 |[.tuple xs]=>P .sh (.tuple xs)
 |_=>False
def DQ:cg K lB λxs H Q=>∃p ys,xs=[.ref p]/\((bA K H p ys/\∀l,H l=none->Q (.ref l) (upd H l (.tup ys)))\/(bE K H p ys/\Q (.ref p) H)):=by
 intro H Hm vs ds P Q s r h q;unfold lB at h;split at h
 .obtain⟨x,rfl,h1⟩:=dB r;cases h1 with
  |lst a r1=>exact⟨_,_,rfl,.inl ⟨(bM.mono s a).sq,λp hp=>bz.nt q s h hp r1⟩⟩
 .obtain⟨x,rfl,h1⟩:=dB r;cases h1 with
  |tup a r1=>exact⟨_,_,rfl,.inr ⟨bE.of (s _ _ a),bz.sc q s h (.tup a r1)⟩⟩
 exact h.elim
noncomputable def uI:DR:=mT λi j=>.int (if j<i then j else i)
noncomputable def MU:DR:=mT λi j=>.int (if j>i then j else i)
def MC{f:Int->Int->Int}:cg K (mT λi j=>.int (f i j)) λxs H Q=>∃i j,xs=[.int i,.int j]/\Q (.int (f i j)) H:=by intro H Hm vs ds P Q s r h q;refine sZ h λa b e p=>?_;subst e;obtain⟨x,y,rfl,h1,h2⟩:=eU r;cases h1;cases h2;exact⟨a,b,rfl,bz.sc q s p (.int _)⟩
noncomputable def O5:DR:=λds P=>match ds with
 |[.int i]=>P .sh (.int (if i<0 then-i else i))
 |_=>False
noncomputable def lQ:DR:=λds P=>match ds with
 |[.int i]=>P .sh (.int i)
 |[.bool k]=>P .sh (.int (if k then 1 else 0))
 |_=>False
def BH:cg K lQ λxs H Q=>(∃i,xs=[.int i]/\Q (.int i) H)\/∃k,xs=[.bl k]/\Q (.int (if k then 1 else 0)) H:=by intro H Hm vs ds P Q s r h q;unfold lQ at h;split at h;{obtain⟨x,rfl,h1⟩:=dB r;cases h1;exact .inl ⟨_,rfl,bz.sc q s h (.int _)⟩};{obtain⟨x,rfl,h1⟩:=dB r;cases h1;exact .inr ⟨_,rfl,bz.sc q s h (.int _)⟩};exact h.elim
theorem qh:∀{vs:List V}{ns:VJ},au K H vs (ns.map PyData.int)->vs=ns.map V.int
 |_,[],h=>by cases h;rfl
 |_,n::ns,h=>by
  cases h with
  |cons h t=>cases h;rw[qh t];rfl
theorem pW:∀(ns:VJ),au K H (ns.map V.int) (ns.map PyData.int)
 |[]=>.nil
 |n::ns=>.cons (.int n) (pW ns)
def gg(h:Rp K H x (.list ds)):∃a xs,x=.ref a/\bM K H a xs/\au K H xs ds:=by
 cases h with
 |lst a r=>exact⟨_,_,rfl,a,r⟩
noncomputable def AL:DR:=λds P=>∃ns:VJ,ds=[.list (ns.map .int)]/\P .sh (.int ns.sum)
def HB:cg K AL λxs H Q=>∃(a:Addr)(ns:VJ),xs=[.ref a]/\bA K H a (ns.map V.int)/\Q (.int ns.sum) H:=by rintro H Hm vs ds P Q s r⟨ns,rfl,h⟩q;obtain⟨x,rfl,h1⟩:=dB r;obtain⟨a,xs,rfl,ha,r1⟩:=gg h1;cases qh r1;exact⟨a,ns,rfl,(bM.mono s ha).sq,bz.sc q s h (.int _)⟩
noncomputable def qN:DR:=λds P=>∃ns:VJ,ds=[.list (ns.map .int)]/\ns≠[]/\∀M,M∈ns->(∀n∈ns,M<=n)->P .sh (.int M)
def EE:cg K qN λxs H Q=>∃(a:Addr)(ns:VJ),xs=[.ref a]/\bA K H a (ns.map V.int)/\ns≠[]/\∀M,M∈ns->(∀n∈ns,M<=n)->Q (.int M) H:=by rintro H Hm vs ds P Q s r⟨ns,rfl,hn,h⟩q;obtain⟨x,rfl,h1⟩:=dB r;obtain⟨a,xs,rfl,ha,r1⟩:=gg h1;cases qh r1;exact⟨a,ns,rfl,(bM.mono s ha).sq,hn,λM m1 m2=>bz.sc q s (h M m1 m2) (.int _)⟩
noncomputable def pD (p:Int×Int):PyData:=.tuple [.int p.1,.int p.2]
inductive yW(vs:List V)(H:Hp)(Q:VK):Prop
 |mk:∀j:Int,(vs=[.int j])->(∀p,H p=none->0<=j/\j<=1000/\∀l,upd H p (.pP 0 j) l=none->Q (.ref l) (upd (upd H p (.pP 0 j)) l (.lst (((List.range j.toNat).map λi:Nat=>(i:Int)).map V.int))))->yW vs H Q
noncomputable def Be:List V->Hp->VK->Prop:=λvs H Q=>yW vs H Q
noncomputable def lu:DR:=λds P=>match ds with
 |[.int j]=>(0<=j/\j<=1000)/\P (.ow false) (.list (i8 0 j.toNat))
 |_=>False
def G7(n:Nat):au K H (((List.range n).map λi:Nat=>(i:Int)).map V.int) (i8 0 n):=by have:=pW (K:=K) (H:=H) ((List.range n).map λi:Nat=>(i:Int));rw[QN (l:=List.range n) (g:=PyData.int)]at this;unfold i8;rw[show(λi:Nat=>PyData.int (0+i))=PyData.int∘λi:Nat=>(i:Int)from funext λi=>by simp];exact this
def CC:cg K lu Be:=by intro H Hm vs ds P Q s r h q;unfold lu at h;split at h;{obtain⟨x,rfl,h1⟩:=dB r;cases h1;rename_i j;refine⟨j,rfl,λp hp=>⟨h.1.1,h.1.2,λl hl=>?_⟩⟩;have s1:=bQ (o:=.pP 0 j) hp;have s2:=bQ (o:=.lst (((List.range j.toNat).map λi:Nat=>(i:Int)).map V.int)) hl;refine q _ _ _ _ Hm [l] h.2 (s1.trans s2) (ah.refl _) (s.trans (s1.trans s2)) (λ_ _=>.inl rfl) (.ow ay (G7 _)) λa ha=>?_;rw[Q8.mp ha];have:H l=none:=s1.free hl;exact⟨this,fQ s this⟩};exact h.elim
def ET(hc:X.calm=true)(g1:Gl X "list")(m1:X.mg "list"=none)(g2:Gl X "range")(m2:X.mg "range"=none)(ns:noStar a=true)(S:aH X Ex Y [a] as) : SE X Ex Y (.Call (.Name "list" p1) [.Call (.Name "range" p2) [a] [] pos2] [] pos) (aa lu as):=
 fj (r:=Be) S (λU H Q h=>WE.of (ki (Ab hc) g1 m1 UY (gh (ki xT g2 m2 PyProof.Rows.boot_range (cY (es:=[a]) (by rw[QH,ns];rfl)) (by decide) (by decide) (aO ns) (by rfl)) lU)) (by
  refine λpins s I=>aJ (h pins s I) λv s1 ⟨x,H1,I1,r1,j,e,q⟩=>⟨x,H1,I1,r1,?_⟩
  cases e;refine⟨j,rfl,λp hp=>?_⟩
  obtain⟨q1,q2,q3⟩:=q p hp;exact⟨p,j,rfl,ay,q1,q2,q3⟩)) CC
end
inductive Ag(K:Frag)(H Hm:Hp):VF->List V->VB->VE->Prop
 |nil:Ag K H Hm [] [] [] []
 |sh {ms:VF}{vs:List V}{ds:VB}{as:VE}{v:V}{d:PyData}:Rp K Hm v d->Ag K H Hm ms vs ds as->Ag K H Hm (false::ms) (v::vs) (d::ds) as
 |mu {ms:VF}{vs:List V}{ds:VB}{as:VE}{a:Addr}{xs:List V}{es:VB}:H a=some (.lst xs)->au K Hm xs es->Hm a=none->a∉as->Ag K H Hm ms vs ds as->Ag K H Hm (true::ms) (.ref a::vs) (.list es::ds) (a::as)
inductive Bk(K:Frag)(H Hm:Hp):VE->VB->Prop
 |nil:Bk K H Hm [] []
 |cons {a:Addr}{xs:List V}{es:VB}{as:VE}{us:VB}:H a=some (.lst xs)->au K Hm xs es->Hm a=none->Bk K H Hm as us->Bk K H Hm (a::as) (.list es::us)
noncomputable def b8 (mg:Us)(K:Frag)(ms:VF)(sp:bF):Sp:=λvs H Q Ex=>∃(ds:VB)(as:VE)(Hm:Hp)(P:VB->Kd->PyData->Prop)(x:XC),ah Hm H/\Ag K H Hm ms vs ds as/\sp ds P x /\
 (∀us k r u H' Hm' fp,P us k r->ah Hm Hm'->ah Hm' H'->(∀p o,p∉as->H p=some o->H' p=some o)->(∀a,a∉as->H a≠none->OE (Hm' a) (Hm a))->Bk K H' Hm' as us->Own K H' Hm' k u r fp->(∀a∈fp,H a=none/\Hm' a=none)->Q u H') /\
 (∀c d C a H',mg c=some (.ref C)->x c d->(∀p o,p∉as->H p=some o->H' p=some o)->H' a=some (.ext (lg a C none))->H a=none->Ex (.ref C) (some a) H')
section
variable{K:Frag}{g:Gh}{U:St}
def Mp{F:Nat->VE}(R:Rl K g E U H Hm F)(s:ah Hm Hm1):∀{ms:VF}{as:List Arg}{os:List (Option PyData)}{vs:List V}{ds:VB},Got K U Hm as os vs->fill as E os=some ds->shape ms as=true->(lent ms as).Nodup->(∀i∈lent ms as,∃p es,E[i]?=some (some (.ow p,.list es)))->(∀i∈kept ms as,∀a∈F i,Hm1 a=H a)->(∀i∈lent ms as,∀a∈F i,Hm1 a=none)->∃ix:List (Nat×Addr),ix.map (·.1)=lent ms as/\Ag K H Hm1 ms vs ds (ix.map (·.2))/\∀q∈ix,U[q.1]?=some (some (.ref q.2))/\F q.1=[q.2]:=by
 intro ms as os vs ds G;induction G generalizing ms ds with
 |nil=>
  intro h sh nd hl hk hn;cases ms with
  |nil=>cases h;exact⟨[],rfl,.nil,λ_ z=>by cases z⟩
  |cons b ms=>cases b<;>cases sh
 |@pk i v as os vs hv G ih=>
  intro h sh nd hl hk hn;cases ms with
  |nil=>cases sh
  |cons b ms=>
   cases b with
   |false=>
    rw[fill]at h;split at h
    .rename_i k d e;by_cases hr:k.rd=true
     .rw[if_pos hr]at h;cases hf:fill as E os with
      |none=>rw[hf]at h;cases h
      |some es=>rw[hf]at h;cases h;obtain⟨v',h1,h2⟩:=R.slot i k d e;rw[hv]at h1;cases h1;obtain⟨ix,e1,e2,e3⟩:=ih (ms:=ms) hf sh nd hl (λj hj=>hk j (QB _ hj)) hn;exact⟨ix,e1,.sh (h2.rp hr s (hk i Q4)) e2,e3⟩
     rw[if_neg hr]at h;cases h
    cases h
   |true=>
    rw[fill]at h;obtain⟨p,es0,e0⟩:=hl i Q4;rw[e0]at h;have h:(if(Kd.ow p).rd=true then(fill as E os).map (PyData.list es0::·)else none)=some _:=h;rw[if_pos (show(Kd.ow p).rd=true from rfl)]at h;cases hf:fill as E os with
    |none=>rw[hf]at h;cases h
    |some es=>
     rw[hf]at h;cases h;obtain⟨v',h1,h2⟩:=R.slot i _ _ e0;rw[hv]at h1;cases h1;have nd':=RE.mp (show(i::lent ms as).Nodup from nd);obtain⟨ix,e1,e2,e3⟩:=ih (ms:=ms) hf sh nd'.2 (λj hj=>hl j (QB _ hj)) hk (λj hj=>hn j (QB _ hj));have hFi:=hn i Q4;generalize hF:F i=fi at h2 hFi;cases h2 with
     |@ow _ a xs _ ha hr=>refine⟨(i,a)::ix,?_,.mu ha (hr.mono s) (hFi a Q4) ?_ e2,?_⟩;{show i::ix.map (·.1)=i::lent ms as;rw[e1]};{intro m;obtain⟨q,hq,rfl⟩:=Q9.mp m;have:=R.aD i q.1 q.2 (by rw[hF];exact Q4) (by rw[(e3 q hq).2];exact Q4);exact nd'.1 (e1▸(this▸Q9.mpr ⟨q,hq,rfl⟩))};intro q hq;rcases QG.mp hq with rfl|hq;{exact⟨hv,hF⟩};exact e3 q hq
 |@ev d0 v u as os vs r G ih=>
  intro h sh nd hl hk hn;cases ms with
  |nil=>cases sh
  |cons b ms=>
   cases b with
   |true=>cases sh
   |false=>
    rw[fill]at h;cases hf:fill as E os with
    |none=>rw[hf]at h;cases h
    |some es=>rw[hf]at h;cases h;obtain⟨ix,e1,e2,e3⟩:=ih (ms:=ms) hf sh nd hl hk hn;exact⟨ix,e1,.sh (r.mono s) e2,e3⟩
theorem mL:∀{ms:VF}{as:List Arg}{us:VB}{E E2:En},qj ms as us E=some E2->(lent ms as).Nodup->E2.length=E.length/\(∀j,j∉lent ms as->E2[j]?=E[j]?)/\(lent ms as).length=us.length /\ ∀(n i:Nat)(u:PyData),(lent ms as)[n]?=some i->us[n]?=some u->∃p es es',u=.list es'/\E[i]?=some (some (.ow p,.list es))/\E2[i]?=some (some (.ow p,.list es'))
 |[],[],[],E,E2,h,_=>by cases h;exact⟨rfl,λ_ _=>rfl,rfl,λ_ _ _ z=>by cases z⟩
 |[],[],_::_,E,E2,h,_=>by cases h
 |[],_::_,_,E,E2,h,_=>by cases h
 |false::ms,.pk j::r,us,E,E2,h,nd=>mL (ms:=ms) (as:=r) (us:=us) h nd
 |false::ms,.ev _::r,us,E,E2,h,nd=>mL (ms:=ms) (as:=r) (us:=us) h nd
 |false::ms,[],us,E,E2,h,_=>by cases h
 |true::ms,[],us,E,E2,h,_=>by cases h
 |true::ms,.ev _::r,us,E,E2,h,_=>by cases h
 |true::ms,.pk i::r,[],E,E2,h,_=>by cases h
 |true::ms,.pk i::r,u::us,E,E2,h,nd=>by
  rw[qj]at h;obtain⟨n1,n2⟩:=RE.mp (show(i::lent ms r).Nodup from nd);split at h
  .rename_i p es e;by_cases hu:yj u=true
   .rw[if_pos hu]at h;cases u with
    |list es'=>
     have li:i<E.length:=by rcases Qy i E.length with h|h;{exact h};rw[Qc h]at e;cases e
     obtain⟨l1,g1,l2,g2⟩:=mL (ms:=ms) (as:=r) (us:=us) h n2;rw[QX]at l1;refine⟨l1,λj hj=>?_,congrArg (·+1) l2,λn j v h1 h2=>?_⟩;{have hj':j∉lent ms r:=λz=>hj (QB _ z);have hne:i≠j:=λz=>hj (z▸Q4);rw[g1 j hj',aj hne]};cases n with
     |zero=>cases h1;cases h2;exact⟨p,es,es',rfl,e,by rw[g1 i n1,aB li]⟩
     |succ n=>have h1:(lent ms r)[n]?=some j:=h1;have h2:us[n]?=some v:=h2;obtain⟨p',fs,fs',e1,e2,e3⟩:=g2 n j v h1 h2;have hne:i≠j:=λz=>n1 (z▸Qi h1);rw[aj hne]at e2;exact⟨p',fs,fs',e1,e2,e3⟩
    |_=>cases hu
   rw[if_neg hu]at h;cases h
  cases h
theorem Bk.get:∀{as:VE}{us:VB}{n:Nat}{a:Addr},Bk K H Hm as us->as[n]?=some a->∃xs es,us[n]?=some (.list es)/\H a=some (.lst xs)/\au K Hm xs es/\Hm a=none
 |_,_,_,_,.nil,h=>by simp at h
 |_,_,0,_,.cons h1 h2 h3 _,h=>by simp at h;subst h;exact⟨_,_,rfl,h1,h2,h3⟩
 |_,_,n+1,_,.cons _ _ _ t,h=>t.get (n:=n) (by simpa using h)
def qJ{E E2 E3:En}{H H' Hm Hm2:Hp}{F:Nat->VE}{is:VI}{ix:List (Nat×Addr)}{us:VB}{k:Kd}{u:V}{v:PyData}{fp:VE}(R:Rl K g E U H Hm F)(hix:∀q∈ix,U[q.1]?=some (some (.ref q.2))/\F q.1=[q.2])(hik:∀q∈ix,q.1∉is)(l2:E2.length=E.length)(hs:∀j,j∉ix.map (·.1)->E2[j]?=E[j]?)(hu:∀q∈ix,∃p es xs' es',PyData.list es'∈us/\E[q.1]?=some (some (.ow p,.list es))/\E2[q.1]?=some (some (.ow p,.list es'))/\H' q.2=some (.lst xs')/\au K Hm2 xs' es'/\Hm2 q.2=none)(hE:(if(flat k v&&us.all (flat (.ow false)))=true then some E2 else c8 is E2)=some E3)(s1:ah (lend Hm H (is.flatMap F)) Hm2)(s2:ah Hm2 H')(sH:∀p o,p∉ix.map (·.2)->H p=some o->H' p=some o)(old:∀a,a∉ix.map (·.2)->H a≠none->OE (Hm2 a) (lend Hm H (is.flatMap F) a))(o:Own K H' Hm2 k u v fp)(fr:∀a∈fp,H a=none/\Hm2 a=none) : ∃Hm' F',Rl K g E3 U H' Hm' F'/\ah Hm Hm'/\Tm K g F' H' Hm' k u v fp:=by
 have mem:∀{a i},a∈F i->i∈is->a∈is.flatMap F:=λha hi=>Qj.mpr ⟨_,hi,ha⟩;have off:∀a∈is.flatMap F,Hm a=none:=λa ha=>by obtain⟨i,_,h⟩:=Qj.mp ha;exact R.off i a h
 have up:ah Hm (lend Hm H (is.flatMap F)):=gu off;have aT:∀{i a},a∈F i->H a≠none:=λha z=>by obtain⟨u,hu,_⟩:=R.aT _ _ ha;rw[z]at hu;cases hu
 have own:∀q∈ix,q.2∈F q.1:=λq hq=>by rw[(hix q hq).2];exact Q4
 have lentF:∀{i a},a∈F i->a∈ix.map (·.2)->i∈ix.map (·.1):=λ{i a} ha m=>by obtain⟨q,hq,rfl⟩:=Q9.mp m;exact Q9.mpr ⟨q,hq,(R.aD i q.1 q.2 ha (own q hq)).symm⟩
 have lis:∀a,a∈ix.map (·.2)->a∉is.flatMap F:=λa m z=>by obtain⟨q,hq,rfl⟩:=Q9.mp m;obtain⟨i,hi,h⟩:=Qj.mp z;exact hik q hq (R.aD i q.1 q.2 h (own q hq)▸hi)
 have nfp:∀a∈fp,∀i,a∉F i:=λa ha i=>R.fresh (fr a ha).1;have m2:∀{a},H a≠none->a∉is.flatMap F->(a∉ix.map (·.2)/\OE (Hm2 a) (Hm a))\/(a∈ix.map (·.2)/\Hm2 a=none):=λ{a} h c=>by by_cases z:a∈ix.map (·.2);{obtain⟨q,hq,rfl⟩:=Q9.mp z;obtain⟨_,_,_,_,_,_,_,_,_,e⟩:=hu q hq;exact .inr ⟨z,e⟩};refine .inl ⟨z,?_⟩;have h':=old a z h;rw[b7 c]at h';exact h'
 have offI:∀{i a},a∈F i->a∉is.flatMap F->Hm2 a=none:=λ{i a} ha c=>by rcases m2 (aT ha) c with⟨z,e⟩|⟨_,e⟩;{obtain⟨w,hw,nt⟩:=R.aT i a ha;exact e.off (R.off i a ha) s2 (sH a w z hw) nt};exact e
 have od:∀{a},g.H0 a≠none->a∉is.flatMap F->OE (Hm2 a) (g.c9 a):=λ{a} h c=>by rcases m2 (R.oz h) c with⟨_,e⟩|⟨z,e⟩;{exact e.trans (R.old a h)};obtain⟨q,hq,rfl⟩:=Q9.mp z;have h':=R.old _ h;rw[R.off q.1 q.2 (own q hq)]at h';rw[e];exact h'
 have hliv:∀{i a},a∈F i->∃w,H' a=some w/\nC w:=λ{i a} ha=>by by_cases z:a∈ix.map (·.2);{obtain⟨q,hq,rfl⟩:=Q9.mp z;obtain⟨_,_,_,_,_,_,_,e,_,_⟩:=hu q hq;exact⟨_,e,j9⟩};obtain⟨w,hw,nt⟩:=R.aT i a ha;exact⟨w,sH a w z hw,nt⟩
 have keepH:∀{j a},j∉ix.map (·.1)->a∈F j->H' a=H a:=λ{j a} hj ha=>by obtain⟨w,hw,_⟩:=R.aT j a ha;rw[hw];exact sH a w (λz=>hj (lentF ha z)) hw
 have frm:∀p o,p∉g.M->g.H0 p=some o->H' p=some o:=λp o hp ho=>by refine sH p o (λz=>?_) (R.fr p o hp ho);obtain⟨q,hq,rfl⟩:=Q9.mp z;rcases R.new q.1 q.2 (own q hq)with y|y;{exact hp y};rw[y]at ho;cases ho
 have pinn:∀{E4:En},(∀j,j∉is->E4[j]?=E2[j]?)->(∀j∈is,E4[j]?=E2[j]?\/∃k d,E2[j]?=some (some (k,d))/\k.fz=true)->∀q∈g.pins,U[q.1]?=some (some (.ref q.2))/\∃ds,E4[q.1]?=some (some (.ow true,.list ds)):=λ{E4} h4 h5 q hq=>by
  obtain⟨h1,ds',h2⟩:=R.pin q hq;refine⟨h1,?_⟩;have e2:∃ds,E2[q.1]?=some (some (.ow true,.list ds)):=by by_cases z:q.1∈ix.map (·.1);{obtain⟨q',hq',e⟩:=Q9.mp z;obtain⟨p,es,xs',es',_,g1,g2,_⟩:=hu q' hq';rw[e,h2]at g1;cases g1;exact⟨es',e▸g2⟩};exact⟨ds',by rw[hs _ z];exact h2⟩
  obtain⟨ds,e2⟩:=e2;by_cases z:q.1∈is;{rcases h5 _ z with y|⟨k0,d0,y,yk⟩;{exact⟨ds,y.trans e2⟩};rw[e2]at y;cases y;cases yk};exact⟨ds,(h4 _ z).trans e2⟩
 by_cases hf:(flat k v&&us.all (flat (.ow false)))=true
 .rw[if_pos hf]at hE;cases hE;rw[QA,QY]at hf;have st:j7 Hm2 (back Hm2 (is.flatMap F)):=λa xs h=>by
   have c:a∉is.flatMap F:=λz=>by obtain⟨i,_,hi⟩:=Qj.mp z;obtain⟨w,hw,nt⟩:=R.aT i a hi;have e2:Hm2 a=some w:=s1 _ _ (by rw[dW z];exact hw);rw[e2]at h;cases h;exact nt xs rfl
   rw[cH c];exact h
  have upB:ah Hm (back Hm2 (is.flatMap F)):=λb o e=>by rw[cH λz=>by rw[off b z]at e;cases e];exact s1 _ _ (up _ _ e)
  have R':Rl K g E2 U H' (back Hm2 (is.flatMap F)) F:={
   len:=l2.trans R.len
   sub:=uO s2
   slot:=λj k' d' e'=>by
    by_cases z:j∈ix.map (·.1)
    .obtain⟨q,hq,rfl⟩:=Q9.mp z;obtain⟨p,es,xs',es',mu,g1,g2,g3,g4,_⟩:=hu q hq;rw[g2]at e';cases e';obtain⟨h1,h2⟩:=hix q hq;exact⟨_,h1,by rw[h2];exact .ow g3 (g4.wc st (hf.2 _ mu))⟩
    .rw[hs j z]at e';obtain⟨v',h1,h2⟩:=R.slot j k' d' e';exact⟨v',h1,h2.step upB λa ha=>keepH z ha⟩
   off:=λi a ha=>by
    by_cases c:a∈is.flatMap F
    .exact ig c
    .rw[cH c];exact offI ha c
   aT:=λi a ha=>hliv ha
   aD:=R.aD
   fr:=frm
   new:=R.new
   pin:=pinn (λj _=>rfl) λj _=>.inl rfl
   old:=λa ha=>by
    by_cases c:a∈is.flatMap F
    .have h':=R.old a ha;rw[off a c]at h';rw[ig c];exact h'
    .rw[cH c];exact od ha c }
  refine⟨_,F,R',upB,⟨o.flat st hf.1,λa ha=>?_,nfp,λa ha=>R.eL (fr a ha).1⟩⟩;by_cases c:a∈is.flatMap F;{exact ig c};rw[cH c];exact(fr a ha).2
 rw[if_neg hf]at hE;obtain⟨l3,g3⟩:=mK hE;have R':Rl K g E3 U H' Hm2 (λj=>if j∈is then []else F j):={
  len:=l3.trans (l2.trans R.len)
  sub:=s2
  slot:=λj k' d' e'=>by
   by_cases c:j∈is
   .obtain⟨k0,d0,e0,hk0,e1⟩:=(g3 j).2 c;rw[e1]at e';cases e';have z:j∉ix.map (·.1):=λz=>by
     obtain⟨q,hq,rfl⟩:=Q9.mp z;exact hik q hq c
    rw[hs j z]at e0;obtain⟨v',h1,h2⟩:=R.slot j k0 _ e0;refine⟨v',h1,?_⟩;rw[if_pos c];exact .sh ((h2.rp (by cases k0<;>first|rfl|cases hk0) up λa ha=>dW (mem ha c)).mono s1)
   .rw[(g3 j).1 c]at e';rw[if_neg c]
    by_cases z:j∈ix.map (·.1)
    .obtain⟨q,hq,rfl⟩:=Q9.mp z;obtain⟨p,es,xs',es',mu,g1,g2,g4,g5,_⟩:=hu q hq;rw[g2]at e';cases e';obtain⟨h1,h2⟩:=hix q hq;exact⟨_,h1,by rw[h2];exact .ow g4 g5⟩
    .rw[hs j z]at e';obtain⟨v',h1,h2⟩:=R.slot j k' d' e';exact⟨v',h1,h2.step (up.trans s1) λa ha=>keepH z ha⟩
  off:=λj a ha=>by
   by_cases c:j∈is
   .rw[if_pos c]at ha;cases ha
   .rw[if_neg c]at ha;exact offI ha λz=>by
     obtain⟨i,hi,h⟩:=Qj.mp z;exact c (R.aD i j a h ha▸hi)
  aT:=λj a ha=>by
   by_cases c:j∈is
   .rw[if_pos c]at ha;cases ha
   .rw[if_neg c]at ha;exact hliv ha
  aD:=λj l a h1 h2=>by
   by_cases c:j∈is
   .rw[if_pos c]at h1;cases h1
   .rw[if_neg c]at h1
    by_cases c':l∈is
    .rw[if_pos c']at h2;cases h2
    .rw[if_neg c']at h2;exact R.aD j l a h1 h2
  fr:=frm
  new:=λj a ha=>by
   by_cases c:j∈is
   .rw[if_pos c]at ha;cases ha
   .rw[if_neg c]at ha;exact R.new j a ha
  pin:=pinn (λj hj=>(g3 j).1 hj) λj hj=>by
   obtain⟨k0,d0,e0,hk0,_⟩:=(g3 j).2 hj;exact .inr ⟨k0,d0,e0,hk0⟩
  old:=λa ha=>by
   refine od ha λz=>?_
   obtain⟨i,hi,h⟩:=Qj.mp z;obtain⟨k0,d0,e0,hk0,_⟩:=(g3 i).2 hi;have zi:i∉ix.map (·.1):=λz=>by
    obtain⟨q,hq,rfl⟩:=Q9.mp z;exact hik q hq hi
   rw[hs i zi]at e0;exact ha (R.notM e0 (by cases k0<;>first|rfl|(rename_i p;cases p<;>first|rfl|cases hk0)|cases hk0) h) }
 refine⟨Hm2,_,R',up.trans s1,⟨o,λa ha=>(fr a ha).2,λa ha i=>?_,λa ha=>R.eL (fr a ha).1⟩⟩;by_cases c:i∈is;{rw[if_pos c];simp};rw[if_neg c];exact nfp a ha i
end
section
variable{X:Cx}{Ex:XK}{Y:VI}
def HE{x:Str}{k:Nat}{ps:VL}{ms:VF}{sp:bF}{p pos:Pos}{e:Expr}{es:VG}{as:List Arg}(F:bX X.prog X.w X.K X.mg X.base k x ps (b8 X.mg X.K ms sp))(hp:Passes (dY X.prog X.w) X Ex)(hr:cQ k X.A)(hg:Gl X x)(hd:(x==("__debug__":Str))=false)(ns:(e::es).all noStar=true)(S:aH X Ex Y (e::es) as):SE X Ex Y (.Call (.Name x p) (e::es) [] pos) (aX sp ms as):=by
 intro g xc E U H Hm Fo P Q hx R h q;obtain⟨f,fd,h1,h2,h3,h4⟩:=F;refine WE.of (zh (E:=Ex) h4 hr hg h1 h2 h3 .nil hp (cY ns) hd (aO (by rw[QH,QA]at ns;exact ns.1)) (eY (by rw[QH,QA]at ns;exact ns.2))) ?_;refine iN hx S R h λE1 os vs H1 Hm1 F1 p R1 s1 G=>?_;replace p:BW sp ms as xc E1 os P:=p;unfold BW at p;rw[<-aR,dD]at p;obtain⟨ds,hf,p⟩:=p;rw[cZ,Fy]at p;obtain⟨hl,hsp⟩:=p;unfold wQ at hl;rw[QA,QA,Rf,QY]at hl;obtain⟨⟨l1,l2⟩,l3⟩:=hl;have hlent:∀i∈lent ms as,i∉kept ms as/\∃p es,E1[i]?=some (some (.ow p,.list es)):=λi hi=>by have:=l3 i hi;rw[QA]at this;refine⟨λz=>?_,?_⟩;{have y:=this.1;rw[UZ,So]at y;simp[z]at y};have y:=this.2;split at y;{rename_i p es e;exact⟨p,es,e⟩};cases y
 have off:∀a∈(kept ms as).flatMap F1,Hm1 a=none:=λa ha=>by obtain⟨i,_,h⟩:=Qj.mp ha;exact R1.off i a h
 have up:=gu (Hm:=Hm1) (H:=H1) off;obtain⟨ix,e1,e2,e3⟩:=Mp R1 up (ms:=ms) G hf l1 l2 (λi hi=>(hlent i hi).2) (λi hi a ha=>dW (Qj.mpr ⟨i,hi,ha⟩)) λi hi a ha=>by
  rw[b7 λz=>by
   obtain⟨j,hj,h⟩:=Qj.mp z;exact(hlent i hi).1 (R1.aD j i a h ha▸hj)]
  exact R1.off i a ha
 show b8 X.mg X.K ms sp (vs++[]) H1 Q Ex;rw[Qz];refine⟨ds,ix.map (·.2),lend Hm1 H1 ((kept ms as).flatMap F1),_,xc,gY R1.sub,e2,hsp,λus k r u H' Hm' fp p sM sS fr old bk o new=>?_,λc d C a H' hC hxc fr ha hn=>?_⟩
 .replace p:De ms as E1 us k r P:=p;unfold De at p;rw[<-aR,sX]at p;obtain⟨E2,hu,p⟩:=p;rw[<-aR,EV]at p;obtain⟨E3,ha,p⟩:=p;obtain⟨u1,u2,u3,u4⟩:=mL hu l2;have hu':∀q∈ix,∃p es xs' es',PyData.list es'∈us/\E1[q.1]?=some (some (.ow p,.list es))/\E2[q.1]?=some (some (.ow p,.list es'))/\H' q.2=some (.lst xs')/\au X.K Hm' xs' es'/\Hm' q.2=none:=λq hq=>by
   obtain⟨n,hn⟩:=Rm hq;have hn1:(lent ms as)[n]?=some q.1:=by rw[<-e1,QF,hn];rfl
   have hn2:(ix.map (·.2))[n]?=some q.2:=by rw[QF,hn];rfl
   obtain⟨xs',es',g1,g2,g3,g4⟩:=bk.get hn2;obtain⟨p',es,es'',g5,g6,g7⟩:=u4 n q.1 _ hn1 g1;cases g5;exact⟨p',es,xs',es',Qi g1,g6,g7,g2,g3,g4⟩
  obtain⟨Hm'',F'',R'',s'',T⟩:=qJ R1 (is:=kept ms as) (ix:=ix) (us:=us) e3 (λq hq=>(hlent q.1 (e1▸Q9.mpr ⟨q,hq,rfl⟩)).1) u1 (λj hj=>u2 j (e1▸hj)) hu' (rV ha) sM sS fr old o new;exact q _ _ _ _ _ _ _ _ p R'' (s1.trans s'') T
 refine hx c d C a H' hC hxc (λp o hp ho=>?_) ha (R1.eL hn);refine fr p o (λz=>?_) (R1.fr p o hp ho);obtain⟨q,hq,rfl⟩:=Q9.mp z;rcases R1.new q.1 q.2 (by rw[(e3 q hq).2];exact Q4)with y|y;{exact hp y};rw[y]at ho;cases ho
end
noncomputable def WS (X:Cx)(st:Stmt):TS:=λD U H=>∀(pins:Ut)(s:Shared),Inv X pins U H s->wpAny (model X.prog X.w) X.A (exec st X.env) (SP X pins D) X.xe s
noncomputable def pB (X:Cx)(st:VH):TS:=λD U H=>∀(pins:Ut)(s:Shared),Inv X pins U H s->wpAny (model X.prog X.w) X.A (execs st X.env) (SP X pins D) X.xe s
def zP:PS X st (WS X st):=λpins s _ _ _ I h=>h pins s I
def ic:mW X st (pB X st):=λpins s _ _ _ I h=>h pins s I
def WS.of(h:PS X st t)(q:t D U H):WS X st D U H:=λpins s I=>h pins s U H D I q
def pB.of(h:mW X st t)(q:t D U H):pB X st D U H:=λpins s I=>h pins s U H D I q
def aV{α:Type}{l:List α}{i:Nat}{a:α}(h:l[i]?=some a):i<l.length:=by rcases Qy i l.length with z|z;{exact z};rw[Qc z]at h;cases h
def jr{Y:VI}{U:St}{j i:Nat}{v:Option V}(nd:Y.Nodup)(h:Y[j]?=some i)(hi:i<U.length):(sel Y U).set j v=sel Y (U.set i v):=by
 have lj:j<Y.length:=aV h;refine Qw λk=>?_;by_cases c:k=j;{subst c;rw[aB (by unfold sel;rw[Q5];exact lj)];unfold sel;rw[QF,h];show some v=some ((U.set i v)[i]?).join;rw[aB hi];rfl};rw[aj (Ne.symm c)];unfold sel;rw[QF,QF];cases e:Y[k]? with
 |none=>rfl
 |some m=>
  have ne:i≠m:=λz=>c (by
   have h1:=SQ.mp e;have h2:=SQ.mp h;obtain⟨l1,e1⟩:=h1;obtain⟨l2,e2⟩:=h2;exact(List.getElem_inj nd).mp (e1.trans (z.symm.trans e2.symm)))
  show some (U[m]?).join=some ((U.set i v)[m]?).join;rw[aj ne]
noncomputable abbrev aL (X:Cx):VI:=List.range X.N.length
noncomputable def NS (X:Cx)(Ex:XK)(w:TS)(d:DS):Prop:=
 ∀(g:Gh)(D':fT)(E:En)(U:St)(H Hm:Hp)(F:Nat->VE)(D:Ends),XL X Ex D'.xc g->Rl X.K g E U H Hm F->d D' E->
  (∀E' σ' H' Hm' F',D'.nx E'->Rl X.K g E' σ' H' Hm' F'->ah Hm Hm'->D.nx (sel (aL X) σ') H')->
  (∀E' k v u σ' H' Hm' F' fp,D'.rt E' k v->Rl X.K g E' σ' H' Hm' F'->Tm X.K g F' H' Hm' k u v fp->D.rt u H')->w D (sel (aL X) U) H
noncomputable abbrev S1 (X:Cx)(Ex:XK)(st:Stmt)(d:DS):Prop:=NS X Ex (WS X st) d
noncomputable abbrev SS (X:Cx)(Ex:XK)(st:VH)(d:DS):Prop:=NS X Ex (pB X st) d
section
variable{X:Cx}{Ex:XK}
def cu:SS X Ex [] dP:=λg D' E U H Hm F D hx R h nx rt=>pB.of IE (nx _ _ _ _ _ h R (ah.refl _))
def af{st:Stmt}{rest:VH}{a b:DS}(h1:S1 X Ex st a)(h2:SS X Ex rest b):SS X Ex (st::rest) (ao a b):=by intro g D' E U H Hm F D hx R h nx rt;refine pB.of (wM zP ic) (h1 g { D' with nx:=b D' } E U H Hm F _ hx R h (λE1 σ1 H1 Hm1 F1 p1 R1 s1=>?_) rt);exact h2 g D' E1 σ1 H1 Hm1 F1 D hx R1 p1 (λE2 σ2 H2 Hm2 F2 p2 R2 s2=>nx _ _ _ _ _ p2 R2 (s1.trans s2)) rt
def vm{st:Stmt}{rest:VH}{a b:DS}(h1:S1 X Ex st a)(h2:SS X Ex rest b):SS X Ex (st::rest) (u9 a b):=by intro g D' E U H Hm F D hx R h nx rt;obtain⟨J,h,hJ⟩:=h;refine pB.of (wM zP ic) (h1 g { D' with nx:=J } E U H Hm F _ hx R h (λE1 σ1 H1 Hm1 F1 p1 R1 s1=>?_) rt);exact h2 g D' E1 σ1 H1 Hm1 F1 D hx R1 (hJ E1 p1) (λE2 σ2 H2 Hm2 F2 p2 R2 s2=>nx _ _ _ _ _ p2 R2 (s1.trans s2)) rt
def ak(h1:S1 X Ex st a):SS X Ex [st] a:=λg D' E U H Hm F D hx R h nx rt=>pB.of (IQ zP) (h1 g D' E U H Hm F D hx R h nx rt)
def Oh(hc:ST X Ex (aL X) c t)(ha:SS X Ex a d)(hb:SS X Ex b2 e):S1 X Ex (.If c a b2 pos) (cJ t d e):=by
 rw[Il];intro g D' E U H Hm F D hx R h nx rt;refine WS.of (MY jd ic ic) (hc g D'.xc E U H Hm F _ (λb H1=>if b=true then pB X a D _ H1 else pB X b2 D _ H1) hx R h λE1 b H1 Hm1 F1 p1 R1 s1=>?_);cases b with
 |true=>exact l7 (ha g D' E1 U H1 Hm1 F1 D hx R1 (by simpa using p1) (λE2 σ2 H2 Hm2 F2 p2 R2 s2=>nx _ _ _ _ _ p2 R2 (s1.trans s2)) rt)
 |false=>exact l6 (hb g D' E1 U H1 Hm1 F1 D hx R1 (by simpa using p1) (λE2 σ2 H2 Hm2 F2 p2 R2 s2=>nx _ _ _ _ _ p2 R2 (s1.trans s2)) rt)
def MG(h:SE X Ex (aL X) e d):S1 X Ex (.Return (some e) pos) (cz d):=λg D' E U H Hm F D hx R p nx rt=>WS.of (DV aS) (h g D'.xc E U H Hm F _ _ hx R p λE' k v u H' Hm' F' fp p' R' s' T=>rt _ _ _ _ _ _ _ _ _ p' R' T)
def KQ(h:SE X Ex (aL X) e d)(hs:swapsWith e none pos.line X.env=pure false):S1 X Ex (.Expr e pos) (cO d):=λg D' E U H Hm F D hx R p nx rt=>WS.of (Hj aS hs) (h g D'.xc E U H Hm F _ _ hx R p λE' k v u H' Hm' F' fp p' R' s' T=>nx _ _ _ _ _ p' R' s')
def Rl.move{K:Frag}{g:Gh}{E:En}{U:St}{H Hm:Hp}{F:Nat->VE}(R:Rl K g E U H Hm F){i:Nat}{k:Kd}{d:PyData}(e:E[i]?=some (some (k,d)))(hk:k.pin=false):∃v F',U[i]?=some (some v)/\Rl K g (E.set i none) U H Hm F'/\Tm K g F' H Hm k v d (F i):=by
 obtain⟨v,h1,h2⟩:=R.slot i k d e;have li:=aV e;refine⟨v,λj=>if j=i then []else F j,h1,?_,⟨h2,R.off i,λa ha j=>?_,λa ha=>R.notM e hk ha⟩⟩
 .exact {
   len:=by rw[QX];exact R.len
   sub:=R.sub
   slot:=λj k' d' e'=>by
    by_cases c:j=i
    .subst c;rw[aB li]at e';cases e'
    .rw[aj (Ne.symm c)]at e';obtain⟨u,g1,g2⟩:=R.slot j k' d' e';exact⟨u,g1,by rw[if_neg c];exact g2⟩
   off:=λj a ha=>by
    by_cases c:j=i
    .rw[if_pos c]at ha;cases ha
    .rw[if_neg c]at ha;exact R.off j a ha
   aT:=λj a ha=>by
    by_cases c:j=i
    .rw[if_pos c]at ha;cases ha
    .rw[if_neg c]at ha;exact R.aT j a ha
   aD:=λj l a g1 g2=>by
    by_cases c:j=i
    .rw[if_pos c]at g1;cases g1
    .rw[if_neg c]at g1
     by_cases c':l=i
     .rw[if_pos c']at g2;cases g2
     .rw[if_neg c']at g2;exact R.aD j l a g1 g2
   fr:=R.fr
   new:=λj a ha=>by
    by_cases c:j=i
    .rw[if_pos c]at ha;cases ha
    .rw[if_neg c]at ha;exact R.new j a ha
   pin:=λq hq=>by
    obtain⟨g1,ds',g2⟩:=R.pin q hq;have c:i≠q.1:=λz=>by
     rw[<-z,e]at g2;cases g2;cases hk
    exact⟨g1,ds',by rw[aj c];exact g2⟩
   old:=R.old }
 by_cases c:j=i;{rw[if_pos c];simp};rw[if_neg c];exact λz=>c (R.aD j i a z ha)
def iz{n i:Nat}(h:i<n):(List.range n)[i]?=some i:=QK h
def KH{i:Nat}(h:PE X e (jw i))(hi:i<X.N.length):S1 X Ex (.Return (some e) pos) (gP i):=by
 intro g D' E U H Hm F D hx R p nx rt;replace p:DB E i D'.rt:=p;unfold DB at p;split at p
 rotate_left
 .exact p.elim
 rename_i k d e1;rw[cZ]at p;obtain⟨hk,p⟩:=p;have hk:k.pin=false:=by simpa using hk
 obtain⟨v,F',h1,R',T⟩:=R.move e1 hk;exact WS.of (DV h) ⟨v,cP (iz hi) h1,rt _ _ _ _ _ _ _ _ _ p R' T⟩
def gr{i:Nat}(h:bx E i=true):i<E.length:=by rcases Qy i E.length with z|z;{exact z};unfold bx at h;rw[Qc z]at h;cases h
def Nc{i:Nat}{x:Str}{e:Expr}{pos pos':Pos}{d:DE}(hN:X.N.Nodup)(hi:X.N[i]?=some x)(hl:Loc X.env.scope x)(hs:swapsWith e (some (.Name x pos')) pos.line X.env=pure false)(hf:X.fn x=true\/X.env.scope.names.lookup x=some .local)(h:SE X Ex (aL X) e d):S1 X Ex (.Assign [.Name x pos'] e pos) (aG i d):=by rw[sW];intro g D' E U H Hm F D hx R p nx rt;refine WS.of (Kn hN hi hl aS hs hf) (h g D'.xc E U H Hm F _ _ hx R p λE' k v u H' Hm' F' fp p' R' s' T=>?_);show D.nx ((sel (aL X) U).set i (some u)) H';rw[jr Rg (iz (aV hi)) (R'.len▸gr p'.1)];exact nx _ _ _ _ _ p'.2 (R'.put T p'.1) s'
inductive iY(X:Cx)(Y:VI):VG->VI->Prop
 |nil:iY X Y [] []
 |cons {x:Str}{p:Pos}{j i:Nat}{ts:VG}{is:VI}:X.N[j]?=some x->Y[j]?=some i->Loc X.env.scope x->(X.fn x=true\/X.env.scope.names.lookup x=some .local)->iY X Y ts is->iY X Y (.Name x p::ts) (i::is)
inductive fM(X:Cx)(Y:VI):Expr->Tg->Prop
 |nm {x:Str}{p:Pos}{j i:Nat}:X.N[j]?=some x->Y[j]?=some i->Loc X.env.scope x->(X.fn x=true\/X.env.scope.names.lookup x=some .local)->fM X Y (.Name x p) (.nm i)
 |tp {ts:VG}{k:Nat}{p:Pos}{is:VI}:iY X Y ts is->fM X Y (.Tuple ts k p) (.tp is)
 |nt {x:Str}{q p2 p:Pos}{ts:VG}{k k2 j i:Nat}{is:VI}:X.N[j]?=some x->Y[j]?=some i->Loc X.env.scope x->(X.fn x=true\/X.env.scope.names.lookup x=some .local)->iY X Y ts is->fM X Y (.Tuple [.Name x q,.Tuple ts k2 p2] k p) (.nt i is)
noncomputable def O6 (X:Cx)(Y:VI)(tg:Tg)(G:TG):Prop:=∀{g:Gh}{d:PyData}{v:V}{E E2:En}{U:St}{H Hm:Hp}{F:Nat->VE}{Q:St->Hp->Prop},b6 tg d E=some E2->Rp X.K Hm v d->Rl X.K g E U H Hm F->(∀σ' F',Rl X.K g E2 σ' H Hm F'->(∀j,j∉tg.slots->σ'[j]?=U[j]?)->Q (sel Y σ') H)->G v (sel Y U) H Q
def uN(hN:X.N.Nodup)(nd:Y.Nodup)(h:iY X Y ts is):∃G:pO,BQ X ts G/\(assignEach ts X.env).length=is.length/\(assignEach ts X.env).findIdx? (·.1)=none /\ ∀{g:Gh}{ds:VB}{vs:List V}{E E2:En}{U:St}{H Hm:Hp}{F:Nat->VE}{Q:St->Hp->Prop},bf is ds E=some E2->au X.K Hm vs ds->Rl X.K g E U H Hm F->(∀σ' F',Rl X.K g E2 σ' H Hm F'->(∀j,j∉is->σ'[j]?=U[j]?)->Q (sel Y σ') H)->vs.length=is.length/\G vs (sel Y U) H Q:=by
 induction h with
 |nil=>
  refine⟨ES,ye,rfl,rfl,λ{g ds vs E E2 U H Hm F Q} h r R q=>?_⟩;cases ds with
  |nil=>cases h;cases r;exact⟨rfl,rfl,q _ _ R λ_ _=>rfl⟩
  |cons _ _=>cases h
 |@cons x p j i ts is h1 h2 h3 h4 _ ih=>
  obtain⟨G,g1,g2,g3,g4⟩:=ih;refine⟨AB (oR j) G,pR (sE hN h1 h3 h4) g1,?_,?_,λ{g ds vs E E2 U H Hm F Q} h r R q=>?_⟩;{show(assignEach ts X.env).length+1=_;rw[g2];rfl};{show List.findIdx? (·.1) ((false,assign (.Name x p) X.env)::assignEach ts X.env)=none;rw[List.findIdx?_cons,g3];rfl};cases ds with
  |nil=>cases h
  |cons d ds=>
   rw[bf]at h;by_cases o:bx E i=true
   .rw[if_pos o]at h;cases r with
    |cons r1 r2=>
     obtain⟨l,k⟩:=g4 h r2 (R.put (Tm.sh r1) o) λσ' F' R' a=>q σ' F' R' λj' hj=>by have ne:i≠j':=λz=>hj (z▸Q4);exact(a j' λz=>hj (QB _ z)).trans (aj ne)
     refine⟨congrArg (·+1) l,_,_,rfl,?_⟩;show G _ ((sel Y U).set j (some _)) H Q;rw[jr nd h2 (R.len▸gr o)];exact k
   rw[if_neg o]at h;cases h
def tE{i:Nat}(h:b6 (.nt i is) d E=some E2):∃a ds,d=.tuple [a,.tuple ds]/\bf (i::is) (a::ds) E=some E2:=by
 cases d with
 |tuple l=>
  rcases l with _|⟨a,_|⟨b,_|⟨c,r⟩⟩⟩;{cases h};{cases h}
  .cases b with
   |tuple ds=>exact⟨a,ds,rfl,h⟩
   |_=>cases h
  cases b<;>cases h
 |_=>cases h
def uJ(hc:X.calm=true)(hN:X.N.Nodup)(nd:Y.Nodup)(h:fM X Y e tg):∃G,PG X e G/\O6 X Y tg G:=by
 cases h with
 |@nm x p j i h1 h2 h3 h4=>refine⟨oR j,sE hN h1 h3 h4,λ{g d v E E2 U H Hm F Q} h r R q=>?_⟩;have h:bf [i] [d] E=some E2:=h;rw[bf]at h;by_cases o:bx E i=true;{rw[if_pos o]at h;cases h;show Q ((sel Y U).set j (some v)) H;rw[jr nd h2 (R.len▸gr o)];exact q _ _ (R.put (Tm.sh r) o) λj' hj=>aj (show i≠j' from λz=>hj (z▸Q4))};rw[if_neg o]at h;cases h
 |@tp ts k p is h=>
  obtain⟨G,g1,g2,g3,g4⟩:=uN hN nd h;refine⟨_,vQ hc g1 g2 g3,λ{g d v E E2 U H Hm F Q} h r R q=>?_⟩;cases d with
  |tuple ds=>
   have h:bf is ds E=some E2:=h;cases r with
   |tup a r=>obtain⟨l,k⟩:=g4 h r R q;exact⟨_,_,rfl,bE.of (R.sub _ _ a),l,k⟩
  |_=>cases h
 |@nt x q p2 p ts k k2 j i is h1 h2 h3 h4 h=>
  obtain⟨G,g1,g2,g3,g4⟩:=uN hN nd h;refine⟨_,vQ hc (pR (sE hN h1 h3 h4) (pR (vQ hc g1 g2 g3) ye)) rfl rfl,λ{g d v E E2 U H Hm F Q} h r R q=>?_⟩;obtain⟨a1,ds,rfl,h⟩:=tE h;cases r with
  |tup a r=>
   cases r with
   |cons r1 r2=>
    cases r2 with
    |cons r2 r3=>
     cases r3;cases r2 with
     |tup b rs=>
      replace h:(if bx E i then bf is ds (E.set i (some (.sh,a1)))else none)=some E2:=h;by_cases o:bx E i=true
      .rw[if_pos o]at h;obtain⟨l,k⟩:=g4 (Q:=λσ' H'=>ES [] σ' H' Q) h rs (R.put (Tm.sh r1) o) λσ' F' R' a=>⟨rfl,q σ' F' R' λj' hj=>by
        have ne:i≠j':=λz=>hj (z▸Q4)
        exact(a j' λz=>hj (QB _ z)).trans (aj ne)⟩
       refine⟨_,_,rfl,bE.of (R.sub _ _ a),rfl,_,_,rfl,?_⟩;show AB _ _ _ ((sel Y U).set j (some _)) H Q;rw[jr nd h2 (R.len▸gr o)];exact⟨_,_,rfl,_,_,rfl,bE.of (R.sub _ _ b),l,k⟩
      rw[if_neg o]at h;cases h
def Mx{k:Nat}(hc:X.calm=true)(hN:X.N.Nodup)(ht:iY X (aL X) ts is)(hs:swapsWithSole [.Tuple ts k p] e pos.line X.env=pure false)(hw:swappedStores [.Tuple ts k p] e X.env=pure none)(h:SE X Ex (aL X) e d):S1 X Ex (.Assign [.Tuple ts k p] e pos) (kN is d):=by
 intro g D' E U H Hm F D hx R pp nx rt;obtain⟨G,g1,g2⟩:=uJ hc hN Rg (fM.tp (k:=k) (p:=p) ht);refine WS.of (BK aS g1 hs hw) (h g D'.xc E U H Hm F _ _ hx R pp λE' k v u H' Hm' F' fp p' R' s' T=>?_);replace p':bK k.fz _:=p';rw[cZ]at p';obtain⟨hk,p'⟩:=p';unfold GQ at p';split at p'
 rotate_left
 .exact p'.elim
 rename_i ds;rw[<-aR,CD]at p';obtain⟨E2,e2,p'⟩:=p';have e2:b6 (.tp is) (.tuple ds) E'=some E2:=e2;obtain⟨Hm2,s2,R2,r2⟩:=T.dI R' hk;exact g2 e2 r2 R2 λσ' F' R3 _=>nx _ _ _ _ _ p' R3 (s'.trans s2)
def Ib(hp:PassesOwn (model X.prog X.w) X.A X.env X.xe)(hc:ST X Ex (aL X) c t)(hb:SS X Ex b d):S1 X Ex (.While c b [] pos) (nY t d):=by
 intro g D' E U H Hm F D hx R h nx rt;obtain⟨W,⟨m0,w0⟩,step⟩:=h;refine WS.of (Fe hp jd ic) ⟨λm τ H'=>∃E' σ' Hm' F',W m E'/\Rl X.K g E' σ' H' Hm' F'/\ah Hm Hm'/\τ=sel (aL X) σ',⟨m0,E,U,Hm,F,w0,R,ah.refl _,rfl⟩,?_⟩;rintro m τ H1⟨E1,σ1,Hm1,F1,w1,R1,s1,rfl⟩;refine hc g D'.xc E1 σ1 H1 Hm1 F1 _ _ hx R1 (step m E1 w1) λE2 b2 H2 Hm2 F2 p2 R2 s2=>?_;cases b2 with
 |true=>
  refine l7 ⟨λτ H'=>∃m',m'<m/\∃E' σ' Hm' F',W m' E'/\Rl X.K g E' σ' H' Hm' F'/\ah Hm Hm'/\τ=sel (aL X) σ',λ_ _ z=>z,?_⟩;exact hb g { D' with nx:=λE'=>∃m',m'<m/\W m' E' } E2 σ1 H2 Hm2 F2 _ hx R2 (by simpa using p2) (λE3 σ3 H3 Hm3 F3 p3 R3 s3=>by
   obtain⟨m',hm,w3⟩:=p3;exact⟨m',hm,E3,σ3,Hm3,F3,w3,R3,s1.trans (s2.trans s3),rfl⟩) rt
 |false=>exact l6 (nx _ _ _ _ _ (by simpa using p2) R2 (s1.trans s2))
noncomputable def vp (K:Frag)(J:It)(xs:VB)(c9:Hp):Prop:=∀(i:Nat)(H Hm:Hp),ah c9 Hm->ah Hm H->
 (∀d,xs[i]?=some d->J.go i H/\∀x H',J.oZ i H x H'->∃Hm',ah Hm Hm'/\ah Hm' H'/\ah H H'/\(∀a,H a≠none->OE (Hm' a) (Hm a))/\Rp K Hm' x d)/\(xs.length<=i->J.stop i H)
noncomputable def SI (X:Cx)(Ex:XK)(Y:VI)(tg e:Expr)(d:DI):Prop:=∃wi:TI,PI X tg e wi /\
 ∀(g:Gh)(x:XC)(E:En)(U:St)(H Hm:Hp)(F:Nat->VE)(P:En->VB->Prop)(R:It->Hp->Prop),XL X Ex x g->Rl X.K g E U H Hm F->d x E P->
  (∀E' xs J H' Hm' F',P E' xs->Rl X.K g E' U H' Hm' F'->ah Hm Hm'->vp X.K J xs Hm'->R J H')->wi (sel Y U) H R
def Rl.turn{F:Nat->VE}(R:Rl K g E U H Hm F)(s1:ah Hm Hm')(s2:ah Hm' H')(s3:ah H H')(old:∀a,H a≠none->OE (Hm' a) (Hm a)):Rl K g E U H' Hm' F:=
 R.grow s3 s1 s2 (λi a ha=>by
  obtain⟨u,hu,nt⟩:=R.aT i a ha;exact(old a (by rw[hu];simp)).off (R.off i a ha) s2 (s3 _ _ hu) nt) λa ha=>old a (R.oz ha)
def MN(hp:PassesOwn (model X.prog X.w) X.A X.env X.xe)(hc:X.calm=true)(hN:X.N.Nodup)(hi:SI X Ex (aL X) tg it di)(ht:fM X (aL X) tg t)(hb:SS X Ex b d)(hs:∀x,foldedSetIterable it X.env x=pure x):S1 X Ex (.For tg it b [] pos) (fG di t d):=by
 intro g D' E U H Hm F D hx R h nx rt;obtain⟨wi,hpi,hw⟩:=hi;obtain⟨G,g1,g2⟩:=uJ hc hN Rg ht;refine WS.of (Lq hp hc hpi g1 ic hs) (hw g D'.xc E U H Hm F _ _ hx R h λE1 xs J H1 Hm1 F1 p1 R1 s1 it1=>?_);obtain⟨I,i0,step,fin⟩:=p1;refine⟨λi m τ H'=>m=xs.length-i/\i<=xs.length/\∃E' σ' Hm' F',I i E'/\Rl X.K g E' σ' H' Hm' F'/\ah Hm1 Hm'/\τ=sel (aL X) σ',⟨xs.length,by simp,Qt _,E1,U,Hm1,F1,i0,R1,ah.refl _,rfl⟩,?_⟩;rintro i m τ H2⟨rfl,hi,E2,σ2,Hm2,F2,i2,R2,s2,rfl⟩;obtain⟨go,stop⟩:=it1 i H2 Hm2 s2 R2.sub;by_cases c:i<xs.length;{obtain⟨go,oZ⟩:=go xs[i] (QO c);refine .inr ⟨go,λτ H'=>i+1<=xs.length/\∃E' σ' Hm' F',I (i+1) E'/\Rl X.K g E' σ' H' Hm' F'/\ah Hm1 Hm'/\τ=sel (aL X) σ',λτ H' z=>⟨xs.length-(i+1),by lia,rfl,z⟩,λx H3 y=>?_⟩;obtain⟨Hm3,t1,t2,t3,old,r⟩:=oZ x H3 y;have R3:=R2.turn t1 t2 t3 old;obtain⟨E4,e4,p4⟩:=step i xs[i] E2 (QO c) i2;refine g2 e4 r R3 λσ4 F4 R4 _=>?_;exact hb g { D' with nx:=I (i+1) } E4 σ4 H3 Hm3 F4 _ hx R4 p4 (λE5 σ5 H5 Hm5 F5 p5 R5 s5=>⟨c,E5,σ5,Hm5,F5,p5,R5,s2.trans (t1.trans s5),rfl⟩) rt};have e:i=xs.length:=by lia
 subst e;exact .inl ⟨stop (Q7 _),nx _ _ _ _ _ (fin E2 i2) R2 (s1.trans s2)⟩
end
end Dv
namespace L2
open PySem PySem.Spec PyProof.Rows
noncomputable def iy (elt:Expr)(gens:Ur)(scope:Scope)(pos:Pos) (k:Nat)(acc:Value)(env:Env)(fin:Sem Fin):Sem Fin:=match gens[k]? with
 |some g'=>do
  let x <-eval g'.iter env
  standAt g'.iter.pos
  let x <-foldedSetIterable g'.iter env x
  let y <-holding [x] (pyIter x)
  let _ <-runOwn (.compStart (.ListComp elt gens scope pos) k y acc env) env
  fin
 |none=>do
  (do let _ <-call (.builtin "list.append") [acc,<-eval elt env])
  fin
def compTurn_gen{k:Nat}(hk:gens[k]?=some ⟨tg,iter,ifs,0⟩)(ha:∀g∈gens,g.is_async=0)(it acc:Value)(env:Env) :
  compTurn (.ListComp elt gens scope pos) k it acc env=(do
   standAt iter.pos
   match <-pyNext it with
   |none=>pure (.done .next)
   |some v=>
    letOwnedTupleGo tg it v
    assign tg env v
    let mut ok:=true
    for c in ifs do
     if ok then ok <-isTrue c env (eval c env)
    if ok then iy elt gens scope pos (k+1) acc env (again (.compLoop (.ListComp elt gens scope pos) k it acc env))
    else again (.compLoop (.ListComp elt gens scope pos) k it acc env)):=by
 unfold compTurn iy;simp only[hk];cases h:gens[k+1]? with
 |none=>rfl
 |some g'=>have e:=ha g' (Qi h);obtain⟨t,i,f,a⟩:=g';dsimp only at e;subst e;rfl
section
variable{prog:Program}{w:World}{A:Around}{R:Result->Shared->Prop}{s:Shared}{elt tg iter:Expr}{gens:Ur}{ifs:VG}{scope:Scope}{pos:Pos}{k:Nat}
def AX(hk:gens[k]?=some ⟨tg,iter,ifs,0⟩)(ha:∀g∈gens,g.is_async=0)(I:Nat->Shared->Prop)(turn:∀n s,I n s->wpAny (model prog w) A (pyNext it) (λr s1=>match r with
   |none=>R (.ok .next) s1
   |some v=>wpAny (model prog w) A (letOwnedTupleGo tg it v) (λ_ s0=>wpAny (model prog w) A (assign tg env v) (λ_ s2=>wpAny (model prog w) A (forIn ifs true λc r=>if r=true then do let ok <-isTrue c env (eval c env);pure (ForInStep.yield ok)else pure (ForInStep.yield r)) (λok s3=>
      if ok=true then ∀(fin:Sem Fin)(Qf:Fin->Shared->Prop),(∀s5,(∃m,m<n/\I m s5)->wpAny (model prog w) A fin Qf (mY prog w A env R) s5)->wpAny (model prog w) A (iy elt gens scope pos (k+1) acc env fin) Qf (mY prog w A env R) s3
      else ∃m,m<n/\I m s3) (mY prog w A env R) s2) (mY prog w A env R) s0) (mY prog w A env R) s1) (mY prog w A env R) s)
  (n:Nat)(h:I n s):codeAny (model prog w) A (.compLoop (.ListComp elt gens scope pos) k it acc env) R s:=by
 refine codeAny_loop rfl I (λn s hI=>?_) n h
 refine(wpAny_noted (?_:_):wpAny _ A ((compTurn (.ListComp elt gens scope pos) k it acc env).onRaise (λx=>do noteFrame x env;theTreesLotGoes x)) _ _ s)
 rw[compTurn_gen hk ha];refine Q0 (wpAny_standAt (Q0 (RC (turn n s hI) (λr s1 h1=>?_) λ_ _ z=>z)))
 cases r with
 |none=>exact Q6 h1
 |some v=>
  refine Q0 (RC h1 (λ_ s0 h0=>Q0 (RC h0 (λ_ s2 h2=>Q0 (RC h2 (λok s3 h3=>?_) λ_ _ z=>z)) λ_ _ z=>z)) λ_ _ z=>z)
  cases ok with
  |false=>exact Q6 ⟨rfl,h3⟩
  |true=>exact h3 _ _ λs5 h5=>Q6 ⟨rfl,h5⟩
end
noncomputable def lY (N:VL)(fs scope:Scope)(vs NB:VL)(ix:VI):Bool:=
 decide (scope.kind=.function)&&scope.names.all (λy=>decide (y.2≠.cell))&&scope.names.all (λy=>decide (y.2≠.local)||decide (scope.names.lookup y.1=some .local)) &&
 scope.names.all (λy=>decide (y.2≠.free)||(decide (fs.names.lookup y.1=some .cell)||decide (fs.names.lookup y.1=some .free))) &&
 decide (NB=vs++ix.map λi=>N.getD i "")&&decide NB.Nodup&&ix.all λi=>match N[i]? with|some y=>decide (scope.names.lookup y=some .free)|none=>false
structure bW(X:Cx)(scope:Scope)(vs NB:VL)(ix:VI):Prop where
 kind:scope.kind=.function
 cell:∀y∈scope.names,y.2≠.cell
 names:∀y∈scope.names,y.2=.local->scope.names.lookup y.1=some .local
 free:∀y,(y,NameKind.free)∈scope.names->(X.env.kindOf y=some .cell\/X.env.kindOf y=some .free)
 nb:NB=vs++ix.map λi=>X.N.getD i ""
 nd:NB.Nodup
 cap:∀i∈ix,∃y,X.N[i]?=some y/\scope.names.lookup y=some .free
def bW.of(h:lY N fs scope vs NB ix=true)(hN:X.N=N:=by rfl)(hf:X.env.scope=fs:=by rfl):bW X scope vs NB ix:=by
 subst hN hf;unfold lY at h;simp only[QA]at h;obtain⟨⟨⟨⟨⟨⟨h1,h2⟩,h3⟩,h4⟩,h6⟩,h7⟩,h8⟩:=h;refine⟨RK h1,λy hy=>RK (QY.mp h2 y hy),λy hy e=>?_,λy hy=>?_,RK h6,RK h7,λi hi=>?_⟩;{have z:=QY.mp h3 y hy;rw[Bool.or_eq_true]at z;rcases z with z|z;{exact absurd e (RK z)};exact RK z};{have z:=QY.mp h4 _ hy;rw[Bool.or_eq_true,Bool.or_eq_true]at z;rcases z with z|z|z;{exact absurd rfl (RK z)};{exact .inl (RK z)};exact .inr (RK z)};have z:=QY.mp h8 i hi;cases e:X.N[i]? with
 |none=>rw[e]at z;cases z
 |some y=>rw[e]at z;exact⟨y,rfl,RK z⟩
section
variable{X:Cx}{scope:Scope}{vs:VL}{NB:VL}{ix:VI}{pins:Ut}{U:St}{H2:Hp}{s2:Shared}{fp:VE}
def bW.clos(B:bW X scope vs NB ix)(I2:Inv X pins U H2 s2):closureFor scope X.env=pure (dU X.env.cells scope.names []):=
 qV λn hn=>I2.ok.has n (B.free n hn)
def bW.look(B:bW X scope vs NB ix)(I2:Inv X pins U H2 s2){c:Addr}(h:(dU X.env.cells scope.names []).lookup y=some c):X.env.cells.lookup y=some c:=by rcases pG _ _ h with⟨m,e⟩|e;{obtain⟨c',hc⟩:=I2.ok.has y (B.free y m);rw[hc]at e⊢;exact congrArg some e};cases e
def Cv(B:bW X scope vs NB ix)(I2:Inv X pins U H2 s2){C:Addr}(hC:s2.heap.objs.size<=C)(f2:∀b∈fp,iB X pins H2 b)(ft:∀b∈fp,b<s2.heap.objs.size):(X.block scope C NB s2 H2 fp).Ok where
 mod:=I2.ok.mod
 kind:=B.kind
 glob:=I2.ok.glob
 blt:=I2.ok.blt
 above:=hC
 inj:=λa b c h1 h2=>I2.ok.inj a b c (B.look I2 h1) (B.look I2 h2)
 has:=λy hy=>by
  have key:∀k,(relabel scope X.env).names.lookup y=some k->(k=.cell\/k=.free)->∃c,(dU X.env.cells scope.names []).lookup y=some c:=λk hk kk=>by
   rcases uT (names:=scope.names) hk with e|⟨e,_⟩
   .rcases kk with rfl|rfl
    .exact absurd rfl (B.cell _ (gX e))
    .exact je _ _ (.inl (gX e))
   .exact je _ _ (.inl (gX e))
  rcases hy with e|e
  .exact key _ e (.inl rfl)
  .exact key _ e (.inr rfl)
 GF:=λ_ _ z=>by cases z
 hd:=I2.ok.hd
 frames:=I2.ok.frames
 stk:=.inl rfl
 P1:=λb hb=>⟨QV (Qg (ft b hb) hC),λy c e=>(f2 b hb).2.2.2.2.1 y c (B.look I2 e)⟩
 bs:=I2.bs
 yT:=Qd I2.ok.yT I2.sz
 Ax:=λb o e hb=>by
  rcases(f2 b hb).2.2.2.1 with z|z
  .exact I2.ok.Ax b o e z
  .exact absurd (Qg (QD (I2.ok.bs b o e).1) z) (Qx _)
 Fi:=λb hb z=>by
  rcases QG.mp (I2.n6 b z)with e|e
  .exact(f2 b hb).2.1 e
  .exact(f2 b hb).2.2.1 e
 kQ:=I2.stack
 Cu:=I2.rY
def AW(B:bW X scope vs NB ix)(I2:Inv X pins U H2 s2){C D:Addr}{tk:Nat}(hC:s2.heap.objs.size<=C)(hD:s2.heap.objs.size<=D)(hDC:D≠C)(f2:∀b∈fp,iB X pins H2 b)(ft:∀b∈fp,b<s2.heap.objs.size)(old:∀b o,s2.heap.get? b=some o->h1.get? b=some o)(hn:h1.Ns C m)(ho:h1.get? D=some oD)(hcl:∀v,oD.data≠.cell v) : Inv (X.block scope C NB s2 H2 fp) [(D,oD)] (List.replicate vs.length none++caps ix U) H2 { s2 with heap:=h1,toks:=tk } where
 ok:=Cv B I2 hC f2 ft
 os:=rfl
 bare:=I2.bare
 base:=Un.kept old
 loc:=by
  refine⟨m,hn,λi y v e1 e2 _=>?_⟩
  have e1:NB[i]?=some y:=e1
  by_cases li:i<vs.length
  .rw[SX (by rw[RI];exact li),Tf,if_pos li]at e2
   cases e2
  .obtain⟨j,rfl⟩:∃j,i=vs.length+j:=⟨i-vs.length,by lia⟩
   have e2:(caps ix U)[j]?=some (some v):=by
    rw[Sx (by rw[RI];lia),RI,Sf]at e2
    exact e2
   rw[B.nb]at e1;have e1:(ix.map λi=>X.N.getD i "")[j]?=some y:=by
    rw[Sx (by lia),Sf]at e1
    exact e1
   rw[QF]at e1;unfold caps at e2;rw[QF]at e2;cases q:ix[j]? with
   |none=>rw[q]at e1;cases e1
   |some i=>
    rw[q]at e1 e2;obtain⟨z,hz,fz⟩:=B.cap i (Qi q);have ey:y=z:=by
     have w:X.N.getD i ""=y:=Option.some.inj e1;rw[<-w,QS,hz];rfl
    subst ey;have e2:(U[i]?).join=some v:=Option.some.inj e2;have es:U[i]?=some (some v):=by
     cases w:U[i]? with
     |none=>rw[w]at e2;cases e2
     |some o=>rw[w]at e2;exact congrArg some e2
    have fk:=B.free y (gX fz);have vis:jV X.env.scope y:=.inr fk;obtain⟨mm,_,hl⟩:=I2.loc;obtain⟨u,ru,lk⟩:=hl i y v hz es vis;refine⟨u,ru,.inr ⟨?_,?_⟩⟩
    .rcases rJ (env:=X.env) (names:=scope.names) fz with e|⟨_,e⟩
     .exact .inr e
     .exact .inl e
    .rcases lk with⟨lk,_⟩|⟨_,c,hc,hcell⟩
     .rcases fk with fk|fk
      .rw[lk]at fk;cases fk
      .rw[lk]at fk;cases fk
     .obtain⟨c',hc'⟩:=je (cells:=X.env.cells) scope.names [] (.inl (gX fz));have e3:=B.look I2 hc';rw[hc]at e3;cases e3;obtain⟨oc,g1,g2⟩:=hcell;exact⟨c,hc',oc,old _ _ g1,g2⟩
 cell:=λy c e=>by
  obtain⟨v,o,g1,g2⟩:=I2.cell y c (B.look I2 e);exact⟨v,o,old _ _ g1,g2⟩
 free:=I2.hok.fresh hC
 jf:=λy c e=>I2.jf y c (B.look I2 e)
 pin:=λp hp=>by
  have e:p=(D,oD):=by simpa[Cx.block]using hp
  subst e;refine⟨ho,I2.hok.fresh hD,hDC,λz=>?_,hcl⟩
  rcases QG.mp (I2.n6 D z)with e|e
  .have e:D=X.env.locals:=e;exact absurd (Qg I2.lt (e▸hD)) (Qx _)
  .exact I2.Kq hD e
 hok:=I2.hok.kept old
 len:=by
  show(List.replicate vs.length none++caps ix U).length=NB.length;rw[B.nb,QE,QE,E8,Q5,RI]
end
noncomputable abbrev TL:=List V->St->Hp->(List V->St->Hp->Prop)->Prop
noncomputable def PL (X:Cx)(D:Addr)(elt:Expr)(gens:Ur)(scope:Scope)(pos:Pos) (k:Nat)(t:TL):Prop:=
 X.s₀.heap.objs.size<=D->(∀y c,X.env.cells.lookup y=some c->c≠D)->(∀e s',X.xe e s'->False)->
 ∀(pins:Ut)(s:Shared)(U:St)(H:Hp)(ys:List V)(its:VD) (nn:Nat)(Q:List V->St->Hp->Prop)(fin:Sem Fin)(Qf:Fin->Shared->Prop)(E:Uq),
  (∀p∈X.pn++pins,p.1≠D)->Inv X ((D,gI its nn)::pins) U H s->Vals ys its->ys.length<=sizeLine->t ys U H Q->
  (∀s' ys' its' nn' σ' H',Inv X ((D,gI its' nn')::pins) σ' H' s'->Vals ys' its'->ys'.length<=sizeLine->Q ys' σ' H'->wpAny (model X.prog X.w) X.A fin Qf E s')->
  wpAny (model X.prog X.w) X.A (iy elt gens scope pos k (.ref D) X.env fin) Qf E s
noncomputable def G0 (te:TE):TL:=λys U H Q=>te U H λv H1=>ys.length<sizeLine/\Q (ys++[v]) U H1
noncomputable def Fw (J:It)(g:TG)(tt:TT)(tr:TL)(ys0:List V)(σ0:St)(H1:Hp)(Q:List V->St->Hp->Prop):Prop:=
 ∃W:Nat->Nat->List V->St->Hp->Prop,(∃m,W 0 m ys0 σ0 H1)/\∀i m ys U H,W i m ys U H->
  (J.stop i H/\Q ys U H)\/(J.go i H/\∃N:List V->St->Hp->Prop,(∀ys' σ' H',N ys' σ' H'->∃m',m'<m/\W (i+1) m' ys' σ' H') /\
   ∀x H',J.oZ i H x H'->g x U H' λσ2 H2=>tt σ2 H2 λb H3=>if b=true then tr ys σ2 H3 N else N ys σ2 H3)
section
variable{X:Cx}{D:Addr}{elt tg iter:Expr}{gens:Ur}{ifs:VG}{scope:Scope}{pos:Pos}{k:Nat}
def yh(he:PE X elt te)(hk:gens[k]?=none:=by rfl):PL X D elt gens scope pos k (G0 te):=by
 intro hD hc hx pins s U H ys its nn Q fin Qf E hp I rv hz h hf;unfold iy;rw[hk];refine Q0 (Q0 (RC (he _ s U H _ I h) (λy s8 ⟨yv,H8,I8,r8,hlt,n8⟩=>Q0 ?_) λe s' z=>(hx e s' z).elim));have pD:=I8.pin (D,gI its nn) (RD _ Q4);refine append_at (hsz:=by rw[QI,<-rv.length];exact hz) pD.1 λh9 hs9 hD9=>Q6 ?_;have I8n:Inv X pins U H8 s8:=I8.k9 λp hp'=>I8.pin p (RD _ (QB _ hp'));have I9:=I8n.turned (h':=h9) (t':=s8.toks) (it:=D) (λb o hb e=>hs9.extBut b o hb e) pD.2.1 pD.2.2.1 (.inr hD) hc hp;have e9:gI (its++[y]) (nn+1)={ cls:=.type "list",data:=.seq (its.toArray.push y) (nn+1) }:=by show({ cls:=.type "list",data:=.seq (its++[y]).toArray (nn+1) }:Obj)=_;rw[List.push_toArray]
 have I10:Inv X ((D,gI (its++[y]) (nn+1))::pins) U H8 { s8 with heap:=h9 }:=by refine I9.k9 λp hp'=>?_;rcases QG.mp hp' with rfl|hp';{exact⟨hD9.trans (congrArg some e9.symm),pD.2.1,pD.2.2.1,pD.2.2.2.1,λv q=>by cases q⟩};exact I9.pin p (RD _ hp')
 exact hf _ (ys++[yv]) (its++[y]) (nn+1) U H8 I10 (Vals.append rv (.cons r8 .nil)) (by rw[QE];exact hlt) n8
end
section
variable{X:Cx}{scope:Scope}{vs:VL}{NB:VL}{ix:VI}
noncomputable def rH (wi:TI) (n:Nat)(ix:VI)(g:TG)(tt:TT)(tr:TL):TE:=λU H Q=>wi U H λJ H1=>Fw J g tt tr [] (List.replicate n none++caps ix U) H1 λys _ H'=>∀p,H' p=none->Q (.ref p) (upd H' p (.lst ys))
def qF{elt tg iter:Expr}{ifs:VG}{rest:Ur}{pos:Pos}{g:TG}{tt:TT}{tr:TL}{J:It}{it:Addr}{tn:Nat->Heap->Prop}{fp:VE}{pins:Ut}{U:St}{H2:Hp}{s2:Shared}{E:Uq}{RR:Value->Addr->Result->Shared->Prop}{Qr:VK}(B:bW X scope vs NB ix)(hc:X.calm=true)(hg:∀(C:Addr)(s:Shared)(H:Hp)(fp:VE),PG (X.block scope C NB s H fp) tg g)(ht:∀(C:Addr)(s:Shared)(H:Hp)(fp:VE),uq (X.block scope C NB s H fp) ifs tt)(hr:∀(C:Addr)(s:Shared)(H:Hp)(fp:VE)(D:Addr),PL (X.block scope C NB s H fp) D elt (⟨tg,iter,ifs,0⟩::rest) scope pos 1 tr)(ha:∀g∈rest,g.is_async=0)(I2:Inv X pins U H2 s2)(T:Turn X.prog X.w X.K tg J fp it tn)(st2:tn 0 s2.heap)(f2:∀b∈fp,iB X pins H2 b)(h:Fw J g tt tr [] (List.replicate vs.length none++caps ix U) H2 λys _ H'=>∀p,H' p=none->Qr (.ref p) (upd H' p (.lst ys)))(hRR:∀(D C:Addr)(Hf:Hp)(s':Shared)(m':Us),Inv X pins U Hf s'->s'.heap.Ns C m'->iB X pins Hf C->Qr (.ref D) Hf->RR (.ref D) C (.ok .next) s') : wpAny (model X.prog X.w) X.A (newList []) (λacc s3=>wpAny (model X.prog X.w) X.A (newFunctionEnv scope X.env.globals (dU X.env.cells scope.names []) [] X.env.qual none .none (some X.env)) (λcenv s4=> codeAny (model X.prog X.w) X.A (.compStart (.ListComp elt (⟨tg,iter,ifs,0⟩::rest) scope pos) 0 (.ref it) acc { cenv with scope:=relabel scope X.env }) (RR acc cenv.locals) s4) E s3) E s2:=by
 obtain⟨W,⟨m0,w0⟩,turn⟩:=h;have ha':∀g∈(⟨tg,iter,ifs,0⟩:Comprehension)::rest,g.is_async=0:=λg hg=>by rcases QG.mp hg with rfl|hg;{rfl};exact ha g hg
 refine RX (wpAny_newFunctionEnv B.cell (by intro y hy;simp at hy) (λh1 hns hsb=>?_) B.kind);dsimp only at hns hsb⊢;generalize eG:s2.heap.push { cls:=.type "list",dict:=none,data:=.seq ([]:VD).toArray }=G at hns hsb⊢;have hC:G.objs.size=s2.heap.objs.size+1:=by rw[<-eG,Heap.size_push]
 have hDC:s2.heap.objs.size≠G.objs.size:=by rw[hC];exact QV (TQ _)
 have hCle:s2.heap.objs.size<=G.objs.size:=by rw[hC];exact Nat.le_succ _
 have old:∀b o,s2.heap.get? b=some o->h1.get? b=some o:=λb o e=>by have lt:=QD e;exact hsb.extBut b o (QV (Qg lt hCle)) (QU _ (eG▸QU _ e))
 have hacc:h1.get? s2.heap.objs.size=some (gI [] 0):=hsb.extBut _ _ hDC (QU _ (eG▸Qn _ rfl));have ft:∀b∈fp,b<s2.heap.objs.size:=λb hb=>by obtain⟨o,e,_⟩:=T.obj _ _ st2 b hb;exact QD e
 have cD:∀y c,(X.block scope G.objs.size NB s2 H2 fp).env.cells.lookup y=some c->c≠s2.heap.objs.size:=λy c e z=>by obtain⟨w,q⟩:=I2.cell y c (B.look I2 e);exact Qx _ (z▸q.lt)
 have loop:∀s3:Shared,s3={ s2 with heap:=h1,toks:=s2.toks+([]:List (Str×Value)).length }->
   codeAny (model X.prog X.w) X.A (.compLoop (.ListComp elt (⟨tg,iter,ifs,0⟩::rest) scope pos) 0 (.ref it) (.ref s2.heap.objs.size) (compEnvC scope (dU X.env.cells scope.names []) G.objs.size X.env))
    (RR (.ref s2.heap.objs.size) G.objs.size) s3:=by
  rintro s3 rfl;have I3:=AW (tk:=s2.toks+([]:List (Str×Value)).length) B I2 hCle (Q7 _) hDC f2 ft old hns hacc (λv q=>by cases q)
  have st3:tn 0 h1:=T.keep _ _ _ st2 λb _ o e=>old b o e
  have fy:∀{H':Hp}{oD:Obj},(∀b∈fp,H' b=none)->∀b∈fp,iB (X.block scope G.objs.size NB s2 H2 fp) [(s2.heap.objs.size,oD)] H' b:=λ{H' oD} hn b hb=>by
   refine⟨hn b hb,QV (Qg (ft b hb) hCle),λz=>?_,.inl hb,λy c e=>(f2 b hb).2.2.2.2.1 y c (B.look I2 e),λp hp=>?_⟩;{rcases QG.mp (I2.n6 b z)with e|e;{exact(f2 b hb).2.1 e};exact(f2 b hb).2.2.1 e};have e:p=(s2.heap.objs.size,oD):=by simpa[Cx.block]using hp
   subst e;exact Ne.symm (QV (ft b hb))
  refine AX (k:=0) rfl ha' (λn s'=>∃i ys its nn σ' H',W i n ys σ' H'/\Inv (X.block scope G.objs.size NB s2 H2 fp) [(s2.heap.objs.size,gI its nn)] σ' H' s'/\tn i s'.heap/\(∀b∈fp,H' b=none)/\Vals ys its/\ys.length<=sizeLine)
   ?_ m0 ⟨0,[],[],0,_,H2,w0,I3,st3,λb hb=>(f2 b hb).1,.nil,Qt _⟩
  rintro n s'⟨i,ys,its,nn,σ',H',w',I',st',fr',rv,hz⟩;rcases turn i n ys σ' H' w' with⟨stop,q⟩|⟨go,Nx,hNx,step⟩
  .refine RC (T.done (X.block scope G.objs.size NB s2 H2 fp) rfl rfl rfl hc i _ s' _ H' (λ_ _=>False) I' (fy fr') st' stop) (λr s4 ⟨hr',I4⟩=>?_) λ_ _ z=>z.elim
   subst hr';have I5:=Bb I2 f2 (Q7 _) I4 rv hz;obtain⟨m4,hn4,_⟩:=I4.loc;have hfree:H' s2.heap.objs.size=none:=(I4.pin (s2.heap.objs.size,gI its nn) (by show _∈[]++[(s2.heap.objs.size,gI its nn)];simp)).2.1
   have fC:iB X pins (upd H' s2.heap.objs.size (.lst ys)) G.objs.size:=I2.tB hCle (by
    rw[ai (Ne.symm hDC)];exact I4.free)
   exact hRR _ _ _ s4 m4 I5 hn4 fC (q _ hfree)
  .refine RC (T.item (X.block scope G.objs.size NB s2 H2 fp) rfl rfl rfl hc i _ s' _ H' (λ_ _=>False) I' (fy fr') st' go) (λr s4 ⟨u,hr',h4⟩=>?_) λ_ _ z=>z.elim
   subst hr';refine RC h4 (λ_ s4 ⟨v,H5,I5,r5,y5,st5,fr5⟩=>?_) λ_ _ z=>z.elim
   have pIt:∀b∈fp,∃o,s4.heap.get? b=some o/\∀v,o.data≠.cell v:=T.obj _ _ st5;have I5':=I5.pinned (fy fr5) pIt;refine RC (hg _ _ _ _ _ s4 σ' H5 v u _ I5' r5 (step v H5 y5)) (λ_ s6 ⟨σ6,H6,I6,q6⟩=>?_) λ_ _ z=>z.elim
   refine RC (ht _ _ _ _ _ s6 σ6 H6 _ I6 q6) (λb s7 ⟨H7,I7,q7⟩=>?_) λ_ _ z=>z.elim
   have stays:∀{s9:Shared}{H9:Hp}{σ9:St}{oD:Obj},Inv (X.block scope G.objs.size NB s2 H2 fp) ((s2.heap.objs.size,oD)::jD fp s4.heap) σ9 H9 s9->tn (i+1) s9.heap/\(∀b∈fp,H9 b=none)/\Inv (X.block scope G.objs.size NB s2 H2 fp) [(s2.heap.objs.size,oD)] σ9 H9 s9:=λ{s9 H9 σ9 oD} I9=>by
    refine⟨T.keep _ _ _ st5 λb hb o e=>(I9.pin (b,o) (RD _ (QB _ (jg hb e)))).1,λb hb=>?_,I9.k9 λp hp'=>I9.pin p (RD _ ?_)⟩
    .obtain⟨o,e,d⟩:=pIt b hb;exact(I9.pin (b,o) (RD _ (QB _ (jg hb e)))).2.1
    .rw[Q8.mp hp'];exact Q4
   cases b with
   |false=>
    rw[if_neg QW]at q7⊢;obtain⟨m',hm,w7⟩:=hNx _ _ _ q7;obtain⟨g1,g2,g3⟩:=stays I7;exact⟨m',hm,i+1,ys,its,nn,σ6,H7,w7,g3,g1,g2,rv,hz⟩
   |true=>
    rw[if_pos rfl]at q7⊢;intro fin' Qf' hf';refine hr _ _ _ _ s2.heap.objs.size (Q7 _) cD (λ_ _ z=>z) (jD fp s4.heap) s7 σ6 H7 ys its nn Nx fin' Qf' _ (λp hp'=>?_) I7 rv hz q7 λs8 ys8 its8 nn8 σ8 H8 I8 rv8 hz8 n8=>?_
    .have hp'':p∈jD fp s4.heap:=hp';exact QV (ft _ (tQ hp'').1)
    .obtain⟨m',hm,w8⟩:=hNx _ _ _ n8;obtain⟨g1,g2,g3⟩:=stays I8;exact hf' s8 ⟨m',hm,i+1,ys8,its8,nn8,σ8,H8,w8,g3,g1,g2,rv8,hz8⟩
 exact codeAny_compStart_list (loop _ rfl) (T.self _ 0 _ _ _ (T.keep _ _ _ st2 λb _ o e=>old b o e) (loop _ rfl))
def EF{elt tg iter:Expr}{ifs:VG}{rest:Ur}{pos:Pos}{wi:TI}{g:TG}{tt:TT}{tr:TL}(B:bW X scope vs NB ix)(hc:X.calm=true)(hi:PI X tg iter wi)(hg:∀(C:Addr)(s:Shared)(H:Hp)(fp:VE),PG (X.block scope C NB s H fp) tg g)(ht:∀(C:Addr)(s:Shared)(H:Hp)(fp:VE),uq (X.block scope C NB s H fp) ifs tt)(hr:∀(C:Addr)(s:Shared)(H:Hp)(fp:VE)(D:Addr),PL (X.block scope C NB s H fp) D elt (⟨tg,iter,ifs,0⟩::rest) scope pos 1 tr)(ha:∀g∈rest,g.is_async=0:=by decide)(hs:∀v,foldedSetIterable iter X.env v=pure v:=by intro _;rfl):PE X (.ListComp elt (⟨tg,iter,ifs,0⟩::rest) scope pos) (rH wi vs.length ix g tt tr):=by intro pins s U H Q I h;rw[eval_ListComp];refine wpAny_comprehension_free (use:=none) rfl hs (B.clos I) B.kind B.names (aJ (hi pins s U H _ I h) λv s1 h1=>aJ h1 λitv s2 h2=>?_);obtain⟨it,fp,tn,J,H2,e,I2,T,st2,f2,w⟩:=h2;subst e;refine qF (Qr:=Q) (RR:=λacc C=>compPost (model X.prog X.w) X.A X.xe none (EP X pins U Q) acc C) B hc hg ht hr ha I2 T st2 f2 w λD C Hf s' m' I' hn' fC q=>?_;refine⟨m',hn',λh'' hs''=>⟨.ref D,Hf,?_,rfl,q⟩⟩;obtain⟨c0,c1,c2,c3,c4,c5⟩:=fC;exact I'.turned (it:=C) (t':=s'.toks) (λb o hb e=>hs''.extBut b o hb e) c0 c1 c3 c4 c5
def vf{elt tg iter:Expr}{ifs:VG}{rest:Ur}{pos py spos:Pos}{wi:TI}{g:TG}{tt:TT}{tr:TL}{j:Nat}{y:Str}(hN:X.N.Nodup)(hj:X.N[j]?=some y)(hy:X.env.scope.names.lookup y=some .local)(B:bW X scope vs NB ix)(hc:X.calm=true)(hi:PI X tg iter wi)(hg:∀(C:Addr)(s:Shared)(H:Hp)(fp:VE),PG (X.block scope C NB s H fp) tg g)(ht:∀(C:Addr)(s:Shared)(H:Hp)(fp:VE),uq (X.block scope C NB s H fp) ifs tt)(hr:∀(C:Addr)(s:Shared)(H:Hp)(fp:VE)(D:Addr),PL (X.block scope C NB s H fp) D elt (⟨tg,iter,ifs,0⟩::rest) scope pos 1 tr)(hsw:swapsWith (.ListComp elt (⟨tg,iter,ifs,0⟩::rest) scope pos) (some (.Name y py)) spos.line X.env=pure true)(ha:∀g∈rest,g.is_async=0:=by decide)(hs:∀v,foldedSetIterable iter X.env v=pure v:=by intro _;rfl):PS X (.Assign [.Name y py] (.ListComp elt (⟨tg,iter,ifs,0⟩::rest) scope pos) spos) (D6 (rH wi vs.length ix g tt tr) (oR j)):=by
 intro pins s U H Dn I h;rw[exec_Assign_Name_used _ _ _ _ hsw];refine Q0 (wpAny_standAt (Q0 ?_));show wpAny (model X.prog X.w) X.A (comprehension (.ListComp elt (⟨tg,iter,ifs,0⟩::rest) scope pos) scope X.env _ (newList []) false (eval iter X.env) (some (assign (.Name y py) X.env))>>=λ_=>pure ()) _ _ s;refine Q0 (aJ (wpAny_comprehension_free (use:=some (assign (.Name y py) X.env)) (Q:=λ_ s'=>SP X pins Dn .next s') rfl hs (B.clos I) B.kind B.names (aJ (hi pins s U H _ I h) λv s1 h1=>aJ h1 λitv s2 h2=>?_)) λ_ s' q=>Q6 (Q6 q));obtain⟨it,fp,tn,J,H2,e,I2,T,st2,f2,w⟩:=h2;subst e;refine qF (Qr:=λx H1=>oR j x U H1 Dn.nx) (RR:=λacc C=>compPost (model X.prog X.w) X.A X.xe (some (assign (.Name y py) X.env)) (λ_ s'=>SP X pins Dn .next s') acc C) B hc hg ht hr ha I2 T st2 f2 w λD C Hf s' m' I' hn' fC q=>?_;obtain⟨c0,c1,c2,c3,c4,c5⟩:=fC;show wpAny (model X.prog X.w) X.A (assign (.Name y py) X.env (.ref D)) _ _ s';refine wpAny_assign_Name (tG I' hN hj (.inl hy) (v:=.ref D) rfl (λs'' I'' ⟨a,sb,ha⟩=>?_) (.inr hy));have hCa:C≠a:=by rcases ha with e|e;{rw[e];exact c1};exact λz=>c4 y a e z.symm
 refine⟨m',hn'.sameBut sb hCa,λh3 hs3=>⟨_,Hf,?_,q⟩⟩;exact I''.turned (it:=C) (t':=s''.toks) (λb o hb e=>hs3.extBut b o hb e) c0 c1 c3 c4 c5
end
end L2
namespace Dv
open PySem L2 PySem.W
section
variable{X:Cx}{Ex:XK}{Y:VI}{tg:Expr}
def ED{a:Addr}(h:bM K c9 a xs)(r:au K c9 xs ds):vp K (GY K a) ds c9:=by intro i H Hm s1 s2;have q:bA K H a xs:=(bM.mono (s1.trans s2) h).sq;refine⟨λd e=>?_,λl=>⟨xs,q,by rw[r.len];exact l⟩⟩;obtain⟨v,e1,r1⟩:=r.get e;refine⟨⟨xs,v,q,e1⟩,λx H' y=>?_⟩;obtain⟨rfl,y⟩:=y;have:=y xs q;rw[e1]at this;cases this;exact⟨Hm,ah.refl _,s2,ah.refl _,λ_ _=>.inl rfl,r1.mono s1⟩
def HH{a:Addr}(h:c9 a=some (.tup xs))(r:au K c9 xs ds):vp K (Ge K a) ds c9:=by intro i H Hm s1 s2;have q:bE K H a xs:=bE.of (s2 _ _ (s1 _ _ h));refine⟨λd e=>?_,λl=>⟨xs,q,by rw[r.len];exact l⟩⟩;obtain⟨v,e1,r1⟩:=r.get e;refine⟨⟨xs,v,q,e1⟩,λx H' y=>?_⟩;obtain⟨rfl,y⟩:=y;have:=y xs q;rw[e1]at this;cases this;exact⟨Hm,ah.refl _,s2,ah.refl _,λ_ _=>.inl rfl,r1.mono s1⟩
def HD{lo:Int}{n i:Nat}(h:(i8 lo n)[i]?=some d):i<n/\d=.int (lo+i):=by unfold i8 at h;rw[QF]at h;by_cases c:i<n;{rw[QK c]at h;cases h;exact⟨c,rfl⟩};rw[Qc (by rw[QC];lia)]at h;cases h
def yR{lo:Int}{n:Nat}:vp K (Bc lo n) (i8 lo n) c9:=by intro i H Hm s1 s2;refine⟨λd e=>?_,λl=>?_⟩;{obtain⟨l,rfl⟩:=HD e;refine⟨l,λx H' y=>?_⟩;obtain⟨rfl,rfl⟩:=y;exact⟨Hm,ah.refl _,s2,ah.refl _,λ_ _=>.inl rfl,.int _⟩};unfold i8 at l;rw[Q5,QC]at l;exact l
def wu{T:Addr}(s:ah Hm H)(hT:H T=none)(r1:Rp K Hm x a)(r2:Rp K Hm y b):∃Hm',ah Hm Hm'/\ah Hm' (upd H T (.tup [x,y]))/\ah H (upd H T (.tup [x,y]))/\(∀a,H a≠none->OE (Hm' a) (Hm a))/\Rp K Hm' (.ref T) (.tuple [a,b]):=by have n:=fQ s hT;have s2:=bQ (o:=.tup [x,y]) n;refine⟨upd Hm T (.tup [x,y]),s2,λb o e=>?_,bQ hT,λa ha=>.inl (ai λz=>ha (z▸hT)),.tup ay (.cons (r1.mono s2) (.cons (r2.mono s2) .nil))⟩;by_cases c:b=T;{rw[c,ay]at e⊢;exact e};rw[ai c]at e⊢;exact s _ _ e
def Bo{i:Nat}(h:(iG ds)[i]?=some d):∃e,ds[i]?=some e/\d=.tuple [.int i,e]:=by
 unfold iG at h;rw[QF,Tw]at h;cases e:ds[i]? with
 |none=>rw[e]at h;cases h
 |some a=>rw[e]at h;simp at h;exact⟨a,rfl,h.symm⟩
def DZ(ds:VB):(iG ds).length=ds.length:=by unfold iG;rw[Q5,List.length_zipIdx]
def Fz{a:Addr}(h:bM K c9 a xs)(r:au K c9 xs ds):vp K (JC K a) (iG ds) c9:=by intro i H Hm s1 s2;have q:bA K H a xs:=(bM.mono (s1.trans s2) h).sq;refine⟨λd e=>?_,λl=>⟨xs,q,by rw[r.len,<-DZ];exact l⟩⟩;obtain⟨d0,e0,rfl⟩:=Bo e;obtain⟨v,e1,r1⟩:=r.get e0;refine⟨⟨xs,v,q,e1⟩,λx H' y=>?_⟩;obtain⟨T,hT,rfl,y⟩:=y;obtain⟨x',e2,rfl⟩:=y xs q;rw[e1]at e2;cases e2;exact wu s2 hT (.int _) (r1.mono s1)
open PyProof.Rows in
def HR{a:Addr}(I:Inv X pins U H s)(hq:bA X.K H a xs)(q:R (GY X.K a) H):wpAny (model X.prog X.w) X.A (pyIter (.ref a)) (FP X pins U tg R) E s:=by
 obtain⟨its,rv,p,hz⟩:=I.list hq;refine wpAny_pyIter_list p.isList ?_;refine⟨s.heap.objs.size,[s.heap.objs.size],_,_,H,rfl,I.kept (t':=s.toks) λb o e=>QU _ e,CV a _,⟨_,Qn _ rfl,rfl,rfl⟩,λb hb=>?_,q⟩;have e:b=s.heap.objs.size:=by simpa using hb
 subst e;exact I.tB (Q7 _) (I.hok.fresh (Q7 _))
open PyProof.Rows in
def LZ{a:Addr}(I:Inv X pins U H s)(hq:bE X.K H a xs)(q:R (Ge X.K a) H):wpAny (model X.prog X.w) X.A (pyIter (.ref a)) (FP X pins U tg R) E s:=by
 obtain⟨its,rv,p,hz⟩:=I.tuple hq;refine wpAny_pyIter_tuple (show s.heap.IsTuple a its.toArray from p) ?_;refine⟨s.heap.objs.size,[s.heap.objs.size],_,_,H,rfl,I.kept (t':=s.toks) λb o e=>QU _ e,zH a _,⟨_,Qn _ rfl,rfl,rfl⟩,λb hb=>?_,q⟩;have e:b=s.heap.objs.size:=by simpa using hb
 subst e;exact I.tB (Q7 _) (I.hok.fresh (Q7 _))
def nH(h:SE X Ex Y e d):SI X Ex Y tg e (iE d):=by
 rw[ML];refine⟨λU H R=>WE X e U H λx H1=>(∃a,x=.ref a/\(∃xs,bA X.K H1 a xs)/\R (GY X.K a) H1)\/∃a,x=.ref a/\(∃xs,bE X.K H1 a xs)/\R (Ge X.K a) H1,?_,?_⟩;{intro pins s U H R I h;refine aJ (h pins s I) λv s1 ⟨x,H1,I1,r1,q1⟩=>?_;rcases q1 with⟨a,rfl,⟨xs,hq⟩,q⟩|⟨a,rfl,⟨xs,hq⟩,q⟩;{cases r1;exact HR I1 hq q};cases r1;exact LZ I1 hq q};intro g x E U H Hm F P R hx Rl p q;refine h g x E U H Hm F _ _ hx Rl p λE' k v u H' Hm' F' fp p' R' s' T=>?_;obtain⟨hk,ds,e1,p'⟩:=p';obtain⟨Hm2,s2,R2,r2⟩:=T.dI R' hk;cases r2 with
 |lst a r=>cases e1;exact .inl ⟨_,rfl,⟨_,(bM.mono R2.sub a).sq⟩,q _ _ _ _ _ _ p' R2 (s'.trans s2) (ED a r)⟩
 |tup a r=>cases e1;exact .inr ⟨_,rfl,⟨_,bE.of (R2.sub _ _ a)⟩,q _ _ _ _ _ _ p' R2 (s'.trans s2) (HH a r)⟩
 |_=>cases e1
noncomputable def lD:VB->Option (VB)
 |[.int j]=>@ite _ (-(2^62)<=j/\j<2^62) (Classical.propDecidable _) (some (i8 0 j.toNat)) none
 |_=>none
noncomputable def CK:VB->Option (VB)
 |[.int i,.int j]=>@ite _ (-(2^62)<=i/\i<2^62/\-(2^62)<=j/\j<2^62) (Classical.propDecidable _) (some (i8 i (j-i).toNat)) none
 |_=>none
def wg{g:Gh}{U:St}{E:En}{H Hm:Hp}{F:Nat->VE}{as:List Arg}{os:List (Option PyData)}{vs:List V}{ds:VB}{K:Frag}(R:Rl K g E U H Hm F)(G:Got K U Hm as os vs)(h:fill as E os=some ds):au K H vs ds:=lS R R.sub G h λ_ _ _ _=>rfl
def Mz(hg:Gl X "range")(hm:X.mg "range"=none)(ns:noStar a=true)(S:aH X Ex Y [a] as):SI X Ex Y tg (.Call (.Name "range" p) [a] [] pos) (jF lD as):=by refine⟨_,CZ hg hm (cY (es:=[a]) (by rw[QH,ns];rfl)) (aO ns),λg x E U H Hm F P R hx Rl p q=>?_⟩;refine iN hx S Rl p λE1 os vs H1 Hm1 F1 p1 R1 s1 G=>?_;replace p1:aq (bT as E1 os) _:=p1;rw[<-aR,dD]at p1;obtain⟨ds,hf,p1⟩:=p1;rw[<-aR]at p1;obtain⟨xs,hg',p1⟩:=p1;have r:=wg R1 G hf;unfold lD at hg';split at hg';{rename_i j;obtain⟨v,rfl,r1⟩:=dB r;cases r1;split at hg';{rename_i c;cases hg';exact⟨j,rfl,c.1,c.2,q _ _ _ _ _ _ p1 R1 s1 yR⟩};cases hg'};cases hg'
def Nr(hg:Gl X "range")(hm:X.mg "range"=none)(ns:noStar a=true)(ns2:noStar b=true)(S:aH X Ex Y [a,b] as):SI X Ex Y tg (.Call (.Name "range" p) [a,b] [] pos) (jF CK as):=by refine⟨_,Bv hg hm (cY (es:=[a,b]) (by rw[QH,QH,ns,ns2];rfl)) ((aO ns).trans (by rw[aO ns2];rfl)) (aO ns2),λg x E U H Hm F P R hx Rl p q=>?_⟩;refine iN hx S Rl p λE1 os vs H1 Hm1 F1 p1 R1 s1 G=>?_;replace p1:aq (bT as E1 os) _:=p1;rw[<-aR,dD]at p1;obtain⟨ds,hf,p1⟩:=p1;rw[<-aR]at p1;obtain⟨xs,hg',p1⟩:=p1;have r:=wg R1 G hf;unfold CK at hg';split at hg';{rename_i i j;obtain⟨v,w,rfl,r1,r2⟩:=eU r;cases r1;cases r2;split at hg';{rename_i c;cases hg';exact⟨i,j,rfl,c,q _ _ _ _ _ _ p1 R1 s1 yR⟩};cases hg'};cases hg'
def M9{x1:Nat}(hg:Gl X "enumerate")(hm:X.mg "enumerate"=none)(ns:noStar e=true)(h:SE X Ex Y e d):SI X Ex Y (.Tuple elts x1 tp) (.Call (.Name "enumerate" p) [e] [] pos) (qK d):=by rw[KG];refine⟨_,IK hg hm (cY (es:=[e]) (by rw[QH,ns];rfl)) (aO ns),λg x E U H Hm F P R hx Rl p q=>?_⟩;refine h g x E U H Hm F _ _ hx Rl p λE' k v u H' Hm' F' fp p' R' s' T=>?_;obtain⟨hk,ds,rfl,p'⟩:=p';obtain⟨Hm2,s2,R2,r2⟩:=T.dI R' hk;obtain⟨a,xs,rfl,ha,r⟩:=gg r2;exact⟨a,rfl,⟨xs,(bM.mono R2.sub ha).sq⟩,q _ _ _ _ _ _ p' R2 (s'.trans s2) (Fz ha r)⟩
def Ff{ds es:VB}{i:Nat}(h:((ds.zip es).map λp=>PyData.tuple [p.1,p.2])[i]?=some d):∃a b,ds[i]?=some a/\es[i]?=some b/\d=.tuple [a,b]:=by
 rw[QF]at h;cases e:(ds.zip es)[i]? with
 |none=>rw[e]at h;cases h
 |some p=>rw[e]at h;cases h;obtain⟨h1,h2⟩:=List.getElem?_zip_eq_some.mp e;exact⟨_,_,h1,h2,rfl⟩
def Ht{a b:Addr}{ds:VB}(h:bM K c9 a xs)(h2:bM K c9 b ys)(r:au K c9 xs ds)(r2:au K c9 ys es):vp K (K0 K a b) ((ds.zip es).map λp=>.tuple [p.1,p.2]) c9:=by intro i H Hm s1 s2;have q:bA K H a xs:=(bM.mono (s1.trans s2) h).sq;have q2:bA K H b ys:=(bM.mono (s1.trans s2) h2).sq;refine⟨λd e=>?_,λl=>⟨xs,ys,q,q2,?_⟩⟩;{obtain⟨d1,d2,e1,e2,rfl⟩:=Ff e;obtain⟨v1,f1,g1⟩:=r.get e1;obtain⟨v2,f2,g2⟩:=r2.get e2;refine⟨⟨xs,ys,v1,v2,q,q2,f1,f2⟩,λx H' y=>?_⟩;obtain⟨T,hT,rfl,y⟩:=y;obtain⟨x1,z1,hx,hz2,rfl⟩:=y xs ys q q2;rw[f1]at hx;cases hx;rw[f2]at hz2;cases hz2;exact wu s2 hT (g1.mono s1) (g2.mono s1)};rw[Q5,List.length_zip]at l;have:=r.len;have:=r2.len;lia
def Nl{x1:Nat}(hg:Gl X "zip")(hm:X.mg "zip"=none)(ns:noStar e1=true)(ns2:noStar e2=true)(h1:SE X Ex Y e1 d1)(h2:SE X Ex Y e2 d2):SI X Ex Y (.Tuple elts x1 tp) (.Call (.Name "zip" p) [e1,e2] [] pos) (B7 d1 d2):=by refine⟨_,L0 hg hm (cY (es:=[e1,e2]) (by rw[QH,QH,ns,ns2];rfl)) ((aO ns).trans (by rw[aO ns2];rfl)) (aO ns2),λg x E U H Hm F P R hx Rl p q=>?_⟩;refine h1 g x E U H Hm F _ _ hx Rl p λE1 k v u H1 Hm1 F1 fp p1 R1 s1 T=>?_;replace p1:bK k.fz _:=p1;rw[cZ]at p1;obtain⟨hk,p1⟩:=p1;obtain⟨Hm2,s2,R2,r2⟩:=T.dI R1 hk;refine h2 g x E1 U H1 Hm2 F1 _ _ hx R2 p1 λE3 k3 v3 u3 H3 Hm3 F3 fp3 p3 R3 s3 T3=>?_;replace p3:bK k3.fz _:=p3;rw[cZ,<-zS]at p3;obtain⟨hk3,ds,rfl,p3⟩:=p3;rw[<-zS]at p3;obtain⟨es,rfl,p3⟩:=p3;obtain⟨Hm4,s4,R4,r4⟩:=T3.dI R3 hk3;have r2':=r2.mono (s3.trans s4);obtain⟨a,xs,rfl,ha,ra⟩:=gg r2';obtain⟨b,ys,rfl,hb,rb⟩:=gg r4;exact⟨a,b,rfl,⟨xs,(bM.mono R4.sub ha).sq⟩,⟨ys,(bM.mono R4.sub hb).sq⟩,q _ _ _ _ _ _ p3 R4 (s1.trans (s2.trans (s3.trans s4))) (Ht ha hb ra rb)⟩
end
noncomputable def WG (X:Cx)(tg:Expr):TG:=λv U H Q=>∀(pins:Ut)(s:Shared)(u:Value),Inv X pins U H s->RelV v u->wpAny (model X.prog X.w) X.A (assign tg X.env u) (λ_ s'=>∃σ' H',Inv X pins σ' H' s'/\Q σ' H') X.xe s
def WG.of(h:PG X tg t)(q:t v U H Q):WG X tg v U H Q:=λpins s u I r=>h pins s U H v u Q I r q
noncomputable def wj (X:Cx)(ifs:VG):TT:=λU H Q=>∀(pins:Ut)(s:Shared),Inv X pins U H s->wpAny (model X.prog X.w) X.A (forIn ifs true λc r=>if r=true then do let ok <-isTrue c X.env (eval c X.env);pure (ForInStep.yield ok)else pure (ForInStep.yield r)) (TP X pins U Q) X.xe s
def wj.of(h:uq X ifs t)(q:t U H Q):wj X ifs U H Q:=λpins s I=>h pins s U H Q I q
noncomputable def WL (X:Cx)(D:Addr)(elt:Expr)(gens:Ur)(scope:Scope)(pos:Pos) (k:Nat):TL:=λys U H Q=>
 X.s₀.heap.objs.size<=D->(∀y c,X.env.cells.lookup y=some c->c≠D)->(∀e s',X.xe e s'->False)->
 ∀(pins:Ut)(s:Shared)(its:VD) (nn:Nat)(fin:Sem Fin)(Qf:Fin->Shared->Prop)(E:Uq),
  (∀p∈X.pn++pins,p.1≠D)->Inv X ((D,gI its nn)::pins) U H s->Vals ys its->ys.length<=sizeLine->
  (∀s' ys' its' nn' σ' H',Inv X ((D,gI its' nn')::pins) σ' H' s'->Vals ys' its'->ys'.length<=sizeLine->Q ys' σ' H'->wpAny (model X.prog X.w) X.A fin Qf E s')->
  wpAny (model X.prog X.w) X.A (iy elt gens scope pos k (.ref D) X.env fin) Qf E s
def WL.of{D:Addr}{k:Nat}(h:PL X D elt gens scope pos k t)(q:t ys U H Q):WL X D elt gens scope pos k ys U H Q:=λh1 h2 h3 pins s its nn fin Qf E hp I rv hz hf=>h h1 h2 h3 pins s U H ys its nn Q fin Qf E hp I rv hz q hf
noncomputable def Agree (cs:VI)(U σ':St):Prop:=U.length=σ'.length/\∀j,j∉cs->σ'[j]?=U[j]?
def Agree.refl(cs:VI)(U:St):Agree cs U U:=⟨rfl,λ_ _=>rfl⟩
theorem Agree.trans(h:Agree cs a b)(k:Agree cs b c):Agree cs a c:=⟨h.1.trans k.1,λj hj=>(k.2 j hj).trans (h.2 j hj)⟩
theorem Agree.symm(h:Agree cs a b):Agree cs b a:=⟨h.1.symm,λj hj=>(h.2 j hj).symm⟩
section
variable{K:Frag}{g:Gh}{E E0:En}{U σ':St}{H Hm:Hp}{F:Nat->VE}
def Rl.MX(R:Rl K g E U H Hm F){i:Nat}(o:bx E i=true)(v:Option V):Rl K g (E.set i none) (U.set i v) H Hm (λj=>if j=i then []else F j) where
 len:=by rw[QX,QX];exact R.len
 sub:=R.sub
 slot:=λj k' d' e'=>by
  by_cases c:j=i
  .subst c;rw[aB (gr o)]at e';cases e'
  .rw[aj (Ne.symm c)]at e';obtain⟨u,g1,g2⟩:=R.slot j k' d' e';exact⟨u,by rw[aj (Ne.symm c)];exact g1,by rw[if_neg c];exact g2⟩
 off:=λj a ha=>by
  by_cases c:j=i
  .rw[if_pos c]at ha;cases ha
  .rw[if_neg c]at ha;exact R.off j a ha
 aT:=λj a ha=>by
  by_cases c:j=i
  .rw[if_pos c]at ha;cases ha
  .rw[if_neg c]at ha;exact R.aT j a ha
 aD:=λj l a g1 g2=>by
  by_cases c:j=i
  .rw[if_pos c]at g1;cases g1
  .rw[if_neg c]at g1
   by_cases c':l=i
   .rw[if_pos c']at g2;cases g2
   .rw[if_neg c']at g2;exact R.aD j l a g1 g2
 fr:=R.fr
 new:=λj a ha=>by
  by_cases c:j=i
  .rw[if_pos c]at ha;cases ha
  .rw[if_neg c]at ha;exact R.new j a ha
 pin:=λq hq=>by
  obtain⟨g1,ds',g2⟩:=R.pin q hq;have c:i≠q.1:=λz=>by
   unfold bx at o;rw[z,g2]at o;cases o
  exact⟨by rw[aj c];exact g1,ds',by rw[aj c];exact g2⟩
 old:=R.old
theorem Rl.aZ:∀{cs:VI}{E E0:En}{U:St}{F:Nat->VE},Rl K g E U H Hm F->Dv.aZ cs E=some E0->∃σ' F',Rl K g E0 σ' H Hm F'/\Agree cs U σ'/\(∀c∈cs,σ'[c]?=some none/\E0[c]?=some none)
 |[],E,E0,U,F,R,h=>by cases h;exact⟨U,F,R,Agree.refl _ _,λ_ z=>by cases z⟩
 |c::cs,E,E0,U,F,R,h=>by
  rw[Dv.aZ]at h;by_cases o:bx E c=true
  .rw[if_pos o]at h;have R1:=R.MX o none;obtain⟨σ',F',R',a,n⟩:=Rl.aZ (cs:=cs) R1 h;have lc:=gr o;have keep:∀{l:VI}{E E0:En},Dv.aZ l E=some E0->∀j,j∉l->E0[j]?=E[j]?:=by
    intro l;induction l with
    |nil=>intro E E0 h j _;cases h;rfl
    |cons i l ih=>intro E E0 h j hj;rw[Dv.aZ]at h;by_cases o:bx E i=true;{rw[if_pos o]at h;have ne:i≠j:=λz=>hj (z▸Q4);exact(ih h j λz=>hj (QB _ z)).trans (aj ne)};rw[if_neg o]at h;cases h
   refine⟨σ',F',R',⟨by rw[<-a.1,QX],λj hj=>?_⟩,λd hd=>?_⟩;{have ne:c≠j:=λz=>hj (z▸Q4);exact(a.2 j λz=>hj (QB _ z)).trans (aj ne)};by_cases m:d∈cs;{exact n d m};have e:d=c:=(QG.mp hd).resolve_right m;subst e;exact⟨(a.2 d m).trans (aB (R.len▸lc)),(keep h d m).trans (aB lc)⟩
  rw[if_neg o]at h;cases h
def Rl.agree(R:Rl K g E U H Hm F)(a:Agree cs U σ')(n:∀c∈cs,E[c]?=some none):Rl K g E σ' H Hm F where
 len:=R.len.trans a.1
 sub:=R.sub
 slot:=λj k d e=>by
  obtain⟨v,h1,h2⟩:=R.slot j k d e;refine⟨v,?_,h2⟩;rw[a.2 j λz=>by rw[n j z]at e;cases e]
  exact h1
 off:=R.off
 aT:=R.aT
 aD:=R.aD
 fr:=R.fr
 new:=R.new
 pin:=λq hq=>by
  obtain⟨g1,ds',g2⟩:=R.pin q hq;refine⟨?_,ds',g2⟩;rw[a.2 q.1 λz=>by rw[n q.1 z]at g2;cases g2]
  exact g1
 old:=R.old
end
inductive jv(X:Cx)(Ex:XK)(Y:VI):VG->DT->Prop
 |nil:jv X Ex Y [] g9
 |one {e:Expr}{t:DT}:ST X Ex Y e t->jv X Ex Y [e] t
def jv.ok(h:jv X Ex Y ifs t){F:Nat->VE}(hx:XL X Ex x g)(R:Rl X.K g E U H Hm F)(p:t x E P)(q:∀E' b H' Hm' F',P E' b->Rl X.K g E' U H' Hm' F'->ah Hm Hm'->Q b H'):wj X ifs (sel Y U) H Q:=by
 cases h with
 |nil=>exact wj.of HY (q _ _ _ _ _ p R (ah.refl _))
 |one h=>exact wj.of (IM jd) (h g x E U H Hm F P Q hx R p q)
noncomputable def SL (X:Cx)(Y cs:VI)(D:Addr)(elt:Expr)(gens:Ur)(scope:Scope)(pos:Pos) (k:Nat)(dc:DC):Prop:=
 ∀(g:Gh)(E:En)(U:St)(H Hm:Hp)(F:Nat->VE)(ys:List V)(dys:VB)(P:VB->En->Prop)(Q:List V->St->Hp->Prop),Rl X.K g E U H Hm F->au X.K Hm ys dys->dc xF dys E P->
  (∀E' dys' ys' σ' H' Hm' F',P dys' E'->Rl X.K g E' σ' H' Hm' F'->ah Hm Hm'->au X.K Hm' ys' dys'->Agree cs U σ'->Q ys' (sel Y σ') H')->WL X D elt gens scope pos k ys (sel Y U) H Q
section
variable{X:Cx}{Ex:XK}{Y cs:VI}{D:Addr}{elt tg iter:Expr}{ifs:VG}{gens:Ur}{scope:Scope}{pos:Pos}{k:Nat}
def Ho(h:SE X Ex Y elt d)(hk:gens[k]?=none):SL X Y cs D elt gens scope pos k (cW sizeLine d):=by intro g E U H Hm F ys dys P Q R r p q;refine WL.of (yh aS hk) (h g xF E U H Hm F _ _ XL.no R p λE1 k1 v u H1 Hm1 F1 fp p1 R1 s1 T=>?_);obtain⟨hk,hl,p1⟩:=p1;obtain⟨Hm2,s2,R2,r2⟩:=T.dI R1 hk;exact⟨by rw[r.len];exact hl,q _ _ _ _ _ _ _ p1 R2 (s1.trans s2) ((r.mono (s1.trans s2)).snoc r2) (Agree.refl _ _)⟩
def ER{xs:VB}{t:Tg}{c:DT}{r:DC}{G:TG}{tt:TT}{tr:TL}{I:Nat->VB->En->Prop}{U:St}{F1:Nat->VE}{Q:List V->St->Hp->Prop}(hts:∀i∈t.slots,i∈cs)(it1:vp K J xs Hm1)(R1:Rl K g E1 U H1 Hm1 F1)(r0:au K Hm1 ys dys)(i0:I 0 dys E1)(hG:∀{d:PyData}{v:V}{E E2:En}{U:St}{H Hm:Hp}{F:Nat->VE}{Q:St->Hp->Prop},b6 t d E=some E2->Rp K Hm v d->Rl K g E U H Hm F->(∀σ' F',Rl K g E2 σ' H Hm F'->(∀j,j∉t.slots->σ'[j]?=U[j]?)->Q (sel Y σ') H)->G v (sel Y U) H Q)(hT:∀{E:En}{U:St}{H Hm:Hp}{F:Nat->VE}{P:En->Bool->Prop}{Q:Bool->Hp->Prop},Rl K g E U H Hm F->c xF E P->(∀E' b H' Hm' F',P E' b->Rl K g E' U H' Hm' F'->ah Hm Hm'->Q b H')->tt (sel Y U) H Q)(hR:∀{E:En}{U:St}{H Hm:Hp}{F:Nat->VE}{ys:List V}{dys:VB}{P:VB->En->Prop}{Q:List V->St->Hp->Prop},Rl K g E U H Hm F->au K Hm ys dys->r xF dys E P->(∀E' dys' ys' σ' H' Hm' F',P dys' E'->Rl K g E' σ' H' Hm' F'->ah Hm Hm'->au K Hm' ys' dys'->Agree cs U σ'->Q ys' (sel Y σ') H')->tr ys (sel Y U) H Q)(step:∀i d ys E,xs[i]?=some d->I i ys E->∃E2,b6 t d E=some E2/\c xF E2 λE3 b=>if b=true then r xF ys E3 (I (i+1))else I (i+1) ys E3)(fin:∀E' dys' ys' σ' H' Hm' F',I xs.length dys' E'->Rl K g E' σ' H' Hm' F'->ah Hm1 Hm'->au K Hm' ys' dys'->Agree cs U σ'->Q ys' (sel Y σ') H'):Fw J G tt tr ys (sel Y U) H1 Q:=by
 refine⟨λi m ys τ H'=>m=xs.length-i/\i<=xs.length/\∃E' dys' σ' Hm' F',I i dys' E'/\Rl K g E' σ' H' Hm' F'/\ah Hm1 Hm'/\au K Hm' ys dys'/\Agree cs U σ'/\τ=sel Y σ',⟨xs.length,by simp,Qt _,E1,dys,U,Hm1,F1,i0,R1,ah.refl _,r0,Agree.refl _ _,rfl⟩,?_⟩;rintro i m ys τ H2⟨rfl,hi,E2,dys2,σ2,Hm2,F2,i2,R2,s2,r2,a2,rfl⟩;obtain⟨go,stop⟩:=it1 i H2 Hm2 s2 R2.sub;by_cases c':i<xs.length
 .obtain⟨go,oZ⟩:=go xs[i] (QO c');refine .inr ⟨go,λys τ H'=>i+1<=xs.length/\∃E' dys' σ' Hm' F',I (i+1) dys' E'/\Rl K g E' σ' H' Hm' F'/\ah Hm1 Hm'/\au K Hm' ys dys'/\Agree cs U σ'/\τ=sel Y σ',λys τ H' z=>⟨xs.length-(i+1),by lia,rfl,z⟩,λx H3 y=>?_⟩;obtain⟨Hm3,t1,t2,t3,old,rx⟩:=oZ x H3 y;have R3:=R2.turn t1 t2 t3 old;obtain⟨E4,e4,p4⟩:=step i xs[i] dys2 E2 (QO c') i2;refine hG e4 rx R3 λσ4 F4 R4 ag=>?_;have a4:Agree cs U σ4:=a2.trans ⟨by rw[<-R3.len,<-R4.len];exact(show E2.length=E4.length from R3.len.trans (by
   have h1:=R3.len;have h2:=R4.len;have:E4.length=E2.length:=by
    have go:∀{is:VI}{ds:VB}{E E':En},bf is ds E=some E'->E'.length=E.length:=by
     intro is
     induction is with
     |nil=>intro ds E E' h;cases ds with|nil=>cases h;rfl|cons _ _=>cases h
     |cons j is ih=>
      intro ds E E' h;cases ds with
      |nil=>cases h
      |cons d ds=>
       rw[bf]at h
       by_cases o:bx E j=true
       .rw[if_pos o]at h;rw[ih h,QX]
       .rw[if_neg o]at h;cases h
    cases t with
    |nm j=>exact go (is:=[j]) e4
    |tp js=>
     cases hd:xs[i]with
     |tuple ds=>rw[hd]at e4;exact go (is:=js) e4
     |_=>rw[hd]at e4;cases e4
    |nt j js=>
     obtain⟨a,ds,hd,e4⟩:=tE e4;exact go (is:=j::js) e4
   lia)),λj hj=>ag j λz=>hj (hts j z)⟩
  refine hT R4 p4 λE5 b H5 Hm5 F5 p5 R5 s5=>?_;cases b with
  |true=>refine l7 (hR R5 (r2.mono (t1.trans s5)) (by simpa using p5) λE6 dys6 ys6 σ6 H6 Hm6 F6 p6 R6 s6 r6 a6=>?_);exact⟨c',E6,dys6,σ6,Hm6,F6,p6,R6,s2.trans (t1.trans (s5.trans s6)),r6,a4.trans a6,rfl⟩
  |false=>exact l6 ⟨c',E5,dys2,σ4,Hm5,F5,by simpa using p5,R5,s2.trans (t1.trans s5),r2.mono (t1.trans s5),a4,rfl⟩
 have e:i=xs.length:=by lia
 subst e;exact .inl ⟨stop (Q7 _),fin _ _ _ _ _ _ _ i2 R2 s2 r2 a2⟩
def Fb:caps ix (sel Y U)=ix.map λi=>(((Y[i]?).map λm=>(U[m]?).join)).join:=by unfold caps sel;refine Qq λi _=>?_;rw[QF]
noncomputable def bR (Y cs ix:VI):VI:=cs++ix.map λi=>(Y[i]?).getD 0
def yy(hix:∀i∈ix,i<Y.length)(aD:∀c∈cs,c∉Y)(a:Agree cs U σ0)(n:∀c∈cs,σ0[c]?=some none):List.replicate cs.length none++caps ix (sel Y U)=sel (bR Y cs ix) σ0:=by unfold bR;rw[Fb];unfold sel;rw[QZ,QN];congr 1;{refine(List.eq_replicate_iff.mpr ⟨Q5 ..,λx hx=>?_⟩).symm;obtain⟨c,hc,rfl⟩:=Q9.mp hx;rw[n c hc];rfl};refine Qq λi hi=>?_;have l:=hix i hi;show((Y[i]?).map λm=>(U[m]?).join).join=(σ0[(Y[i]?).getD 0]?).join;rw[QO l];show(U[Y[i]]?).join=(σ0[Y[i]]?).join;rw[a.2 Y[i] λz=>aD _ z (TR l)]
def yY{rest:Ur}{vs NB:VL}{ix:VI}{di:DI}{t:Tg}{c:DT}{r:DC}(B:bW X scope vs NB ix)(hc:X.calm=true)(hcs:cs.length=vs.length)(hix:∀i∈ix,i<Y.length)(aD:∀c∈cs,c∉Y)(nd:(bR Y cs ix).Nodup)(hi:SI X Ex Y tg iter di)(ht:∀(C:Addr)(s:Shared)(H:Hp)(fp:VE),fM (X.block scope C NB s H fp) (bR Y cs ix) tg t)(hts:∀i∈t.slots,i∈cs)(hif:∀(C:Addr)(s:Shared)(H:Hp)(fp:VE),jv (X.block scope C NB s H fp) E0 (bR Y cs ix) ifs c)(hr:∀(C:Addr)(s:Shared)(H:Hp)(fp:VE)(D:Addr),SL (X.block scope C NB s H fp) (bR Y cs ix) cs D elt (⟨tg,iter,ifs,0⟩::rest) scope pos 1 r)(ha:∀g∈rest,g.is_async=0)(hs:∀v,foldedSetIterable iter X.env v=pure v){w:(V->Hp->Prop)->St->Hp->Prop}(hw:∀{wi:TI}{G:TG}{tt:TT}{tr:TL}{U:St}{H:Hp}{Q:VK},PI X tg iter wi->(∀(C:Addr)(s:Shared)(H:Hp)(fp:VE),PG (X.block scope C NB s H fp) tg G)->(∀(C:Addr)(s:Shared)(H:Hp)(fp:VE),uq (X.block scope C NB s H fp) ifs tt)-> (∀(C:Addr)(s:Shared)(H:Hp)(fp:VE)(D:Addr),PL (X.block scope C NB s H fp) D elt (⟨tg,iter,ifs,0⟩::rest) scope pos 1 tr)->rH wi vs.length ix G tt tr U H Q->w Q U H)(g:Gh)(x:XC)(E:En)(U:St)(H Hm:Hp)(F:Nat->VE)(P:En->Kd->PyData->Prop)(Q:VK)(hx:XL X Ex x g)(R:Rl X.K g E U H Hm F)(p:cV cs di t c r x E P)(q:∀E' k v u H' Hm' F' fp,P E' k v->Rl X.K g E' U H' Hm' F'->ah Hm Hm'->Tm X.K g F' H' Hm' k u v fp->Q u H'):w Q (sel Y U) H:=by
 obtain⟨wi,hpi,hwi⟩:=hi;refine hw (wi:=wi) (G:=λv U H Q=>∀(C:Addr)(s:Shared)(H2:Hp)(fp:VE),WG (X.block scope C NB s H2 fp) tg v U H Q) (tt:=λU H Q=>∀(C:Addr)(s:Shared)(H2:Hp)(fp:VE),wj (X.block scope C NB s H2 fp) ifs U H Q)
  (tr:=λys U H Q=>∀(C:Addr)(s:Shared)(H2:Hp)(fp:VE)(D:Addr),WL (X.block scope C NB s H2 fp) D elt (⟨tg,iter,ifs,0⟩::rest) scope pos 1 ys U H Q) hpi (λC s H2 fp pins s' U H v u Q I r h=>h C s H2 fp pins s' u I r) (λC s H2 fp pins s' U H Q I h=>h C s H2 fp pins s' I)
  (λC s H2 fp D h1 h2 h3 pins s' U H ys its nn Q fin Qf E hp I rv hz h hf=>h C s H2 fp D h1 h2 h3 pins s' its nn fin Qf E hp I rv hz hf) ?_
 refine hwi g x E U H Hm F _ _ hx R p λE1 xs J H1 Hm1 F1 p1 R1 s1 it1=>?_;obtain⟨E0',I,hcl,i0,step,fin⟩:=p1;obtain⟨σ0,F0,R0,a0,n0⟩:=R1.aZ hcl;rw[<-hcs,yy hix aD a0 λc hc=>(n0 c hc).1];refine ER (cs:=cs) (t:=t) (c:=c) (r:=r) hts it1 R0 .nil i0 (λh1 h2 h3 h4 C s H2 fp=>?_) (λh1 h2 h3 C s H2 fp=>(hif C s H2 fp).ok XL.no h1 h2 h3) (λh1 h2 h3 h4 C s H2 fp D=>hr C s H2 fp D g _ _ _ _ _ _ _ _ _ h1 h2 h3 h4) step λE' dys' ys' σ' H' Hm' F' i R' s' r' a' p hp=>?_;{obtain⟨G,g1,g2⟩:=uJ (X:=X.block scope C NB s H2 fp) hc B.nd nd (ht C s H2 fp);exact WG.of g1 (g2 h1 h2 h3 h4)};obtain⟨E2,hcl2,p2⟩:=fin _ _ i;obtain⟨σ2,F2,R2,a2,n2⟩:=R'.aZ hcl2;have R3:=R2.agree (cs:=cs) ((a0.trans a').trans a2).symm λc hc=>(n2 c hc).2;have s2:=bQ (o:=.lst ys') hp;have R4:=R3.grow (H':=upd H' p (.lst ys')) s2 (ah.refl _) (R3.sub.trans s2) (λi a ha=>R3.off i a ha) λ_ _=>.inl rfl;refine q _ _ _ _ _ Hm' F2 [p] p2 R4 (s1.trans s') ⟨.ow ay r',λa ha=>?_,λa ha i=>?_,λa ha=>?_⟩;{rw[Q8.mp ha];exact R3.q8 hp};{rw[Q8.mp ha];exact R3.fresh hp};rw[Q8.mp ha];exact R3.eL hp
end
section
variable{X:Cx}{Ex:XK}{Y cs:VI}{elt tg iter:Expr}{ifs:VG}{scope:Scope}{pos:Pos}
def KU{rest:Ur}{vs NB:VL}{ix:VI}{di:DI}{t:Tg}{c:DT}{r:DC}(B:bW X scope vs NB ix)(hc:X.calm=true)(hcs:cs.length=vs.length)(hix:∀i∈ix,i<Y.length)(aD:∀c∈cs,c∉Y)(nd:(bR Y cs ix).Nodup)(hi:SI X Ex Y tg iter di)(ht:∀(C:Addr)(s:Shared)(H:Hp)(fp:VE),fM (X.block scope C NB s H fp) (bR Y cs ix) tg t)(hts:∀i∈t.slots,i∈cs)(hif:∀(C:Addr)(s:Shared)(H:Hp)(fp:VE),jv (X.block scope C NB s H fp) E0 (bR Y cs ix) ifs c)(hr:∀(C:Addr)(s:Shared)(H:Hp)(fp:VE)(D:Addr),SL (X.block scope C NB s H fp) (bR Y cs ix) cs D elt (⟨tg,iter,ifs,0⟩::rest) scope pos 1 r)(ha:∀g∈rest,g.is_async=0)(hs:∀v,foldedSetIterable iter X.env v=pure v):SE X Ex Y (.ListComp elt (⟨tg,iter,ifs,0⟩::rest) scope pos) (cV cs di t c r):=λg x E U H Hm F P Q hx R p q=>
 yY B hc hcs hix aD nd hi ht hts hif hr ha hs (w:=λQ U H=>WE X (.ListComp elt (⟨tg,iter,ifs,0⟩::rest) scope pos) U H Q) (λh1 h2 h3 h4 h5=>WE.of (EF B hc h1 h2 h3 h4 ha hs) h5) g x E U H Hm F P Q hx R p q
def MI{j:Nat}{y:Str}{py spos:Pos}(hN:X.N.Nodup)(hj:X.N[j]?=some y)(hy:X.env.scope.names.lookup y=some .local){rest:Ur}{vs NB:VL}{ix:VI}{di:DI}{t:Tg}{c:DT}{r:DC}(B:bW X scope vs NB ix)(hc:X.calm=true)(hcs:cs.length=vs.length)(hix:∀i∈ix,i<(aL X).length)(aD:∀c∈cs,c∉aL X)(nd:(bR (aL X) cs ix).Nodup)(hi:SI X Ex (aL X) tg iter di)(ht:∀(C:Addr)(s:Shared)(H:Hp)(fp:VE),fM (X.block scope C NB s H fp) (bR (aL X) cs ix) tg t)(hts:∀i∈t.slots,i∈cs)(hif:∀(C:Addr)(s:Shared)(H:Hp)(fp:VE),jv (X.block scope C NB s H fp) E0 (bR (aL X) cs ix) ifs c)(hr:∀(C:Addr)(s:Shared)(H:Hp)(fp:VE)(D:Addr),SL (X.block scope C NB s H fp) (bR (aL X) cs ix) cs D elt (⟨tg,iter,ifs,0⟩::rest) scope pos 1 r)(ha:∀g∈rest,g.is_async=0)(hs:∀v,foldedSetIterable iter X.env v=pure v)(hsw:swapsWith (.ListComp elt (⟨tg,iter,ifs,0⟩::rest) scope pos) (some (.Name y py)) spos.line X.env=pure true):S1 X Ex (.Assign [.Name y py] (.ListComp elt (⟨tg,iter,ifs,0⟩::rest) scope pos) spos) (aG j (cV cs di t c r)):=by
 rw[sW];intro g D' E U H Hm F D hx R p nx rt;refine yY B hc hcs hix aD nd hi ht hts hif hr ha hs (w:=λQ τ H=>(Q=λu H1=>D.nx (τ.set j (some u)) H1)->WS X (.Assign [.Name y py] (.ListComp elt (⟨tg,iter,ifs,0⟩::rest) scope pos) spos) D τ H)
  (λh1 h2 h3 h4 h5 e=>by
   subst e;exact WS.of (vf hN hj hy B hc h1 h2 h3 h4 hsw ha hs) h5) g D'.xc E U H Hm F _ _ hx R p (λE' k v u H' Hm' F' fp p' R' s' T=>?_) rfl
 rw[jr Rg (iz (aV hj)) (R'.len▸gr p'.1)];exact nx _ _ _ _ _ p'.2 (R'.put T p'.1) s'
end
end Dv
namespace L2
open PySem PySem.Spec PyProof.Rows
section
variable{X:Cx}
theorem tR:∀{xs:List V}{us:VD} (k:Nat),Vals xs us->Vals (xs.take k) (us.take k)
 |_,_,0,_=>.nil
 |_,_,_+1,.nil=>.nil
 |_,_,k+1,.cons h r=>.cons h (tR k r)
theorem um:∀{xs:List V}{us:VD} (k:Nat),Vals xs us->Vals (xs.drop k) (us.drop k)
 |_,_,0,h=>h
 |_,_,_+1,.nil=>.nil
 |_,_,k+1,.cons _ r=>um k r
theorem wA:∀{xs ys:List V}{us ws:VD},Vals xs us->Vals ys ws->Vals (xs++ys) (us++ws)
 |_,_,_,_,.nil,h=>h
 |_,_,_,_,.cons h r,h2=>.cons h (wA r h2)
inductive vg(x:V)(vs:List V)(H:Hp)(Q:VK):Prop
 |mk:∀(l:Addr)(xs:List V) (i:Nat) (y:V),(x=.ref l)->(vs=[.int (i:Int),y])->(H l=some (.lst xs))->(i<=xs.length)->(xs.length<sizeLine)->(Q .aU (upd H l (.lst (xs.take i++y::xs.drop i))))->vg x vs H Q
noncomputable def xW:V->List V->Hp->VK->Prop:=λx vs H Q=>vg x vs H Q
def CT:vZ X "list.insert" xW:=by
 intro pins s U H x vs v us Q I rx rv h;obtain⟨l,xs,i,y,rfl,rfl,hH,hi,hs,q⟩:=h;cases rx;obtain⟨u1,u2,rfl,ru1,ru2⟩:=rv.two;obtain⟨t,rfl⟩:=ru1;obtain⟨z,its,n,r,hl,e⟩:=I.AJ hH;have line:sizeLine<2^62:=by decide
 have fit:¬(!Builtin.List.listFitsIndex (i:Int))=true:=by rw[fitsIndex_both (k:=(i:Int)) (by lia) (by lia)];decide
 have sz:its.toArray.size<=sizeLine:=by rw[QI];lia
 have key:((λxs:VA=>have k:=if(i:Int)<0 then((i:Int)+(xs.size:Int)).toNat else min (i:Int).toNat xs.size;(xs.extract 0 k).push u2++xs.extract k) its.toArray)=(its.take i++u2::its.drop i).toArray:=by
  have h1:¬((i:Int)<0):=by lia
  have h2:min i its.length=i:=by lia
  apply Array.toList_inj.mp;simp[h1,h2];exact SJ (by simp)
 have I2:∀tk,Inv X pins U (upd H l (.lst (xs.take i++y::xs.drop i))) { s with heap:=s.heap.update l (Obj.mapSeq (λxs:VA=>have k:=if(i:Int)<0 then((i:Int)+(xs.size:Int)).toNat else min (i:Int).toNat xs.size;(xs.extract 0 k).push u2++xs.extract k)),toks:=tk }:=λtk=>I.AO (its':=its.take i++u2::its.drop i) hH e key (wA (tR i r) (.cons ru2 (um i r))) (by
  rw[QE,QJ,RW,RO];lia)
 generalize (i:Int)=x at fit I2⊢;exact Sb F.slot_list_insert ⟨_,e,rfl⟩ F.entry_list_insert (F.args_list_insert_3 _ _ _) (AutoSeq1.list_insert_list_int_val_1 l its.toArray n x t u2 fit sz) ⟨e,.aU,_,I2 _,rfl,q⟩
end
end L2
namespace Dv
open PySem L2 PySem.W
noncomputable def vC (K:Frag)(f:DM)(r:V->List V->Hp->VK->Prop):Prop:=∀(H Hm:Hp)(a:Addr)(xs:List V)(ds:VB)(vs:List V)(args:VB)(P:VB->PyData->Prop)(Q:VK),H a=some (.lst xs)->Hm a=none->ah Hm H->au K Hm xs ds->au K Hm vs args->f ds args P->
 (∀ys new u v,P new v->au K Hm ys new->Rp K Hm u v->Q u (upd H a (.lst ys)))->r (.ref a) vs H Q
theorem Dw:∀{es:List DE}{os:List (Option PyData)}{vs:List V}{ds:VB},Got K U Hm (es.map .ev) os vs->fill (es.map .ev) E os=some ds->au K Hm vs ds
 |[],_,_,_,.nil,h=>by cases h;exact .nil
 |e::es,_,_,_,.ev (os:=os) r G,h=>by
  have h:(fill (es.map .ev) E os).map (_::·)=some _:=h;cases hf:fill (es.map .ev) E os with
  |none=>rw[hf]at h;cases h
  |some ds=>rw[hf]at h;cases h;exact .cons r (Dw G hf)
inductive pH(X:Cx)(Ex:XK)(Y:VI):VG->List DE->Prop
 |nil:pH X Ex Y [] []
 |cons {e:Expr}{d:DE}{es:VG}{ds:List DE}:SE X Ex Y e d->pH X Ex Y es ds->pH X Ex Y (e::es) (d::ds)
def pH.as(h:pH X Ex Y es ds):aH X Ex Y es (ds.map .ev):=by
 induction h with
 |nil=>exact .nil
 |cons h _ ih=>exact .ev h ih
def CB(ns:es.all noStar=true)(l:es.length<30):((backTo cpos (starEach es env)).all (λx=>!x.1)&&(backToKw cpos (keywordEach [] env)).all (λx=>x.1.isSome)&&decide (es.length+([]:List Keyword).length+(if([]:List Keyword).isEmpty then 0 else 1)<30))=true:=by have h:=eY (pos:=cpos) (env:=env) ns;rw[List.any_eq_false]at h;rw[QA,QA,QY];refine⟨⟨λx hx=>by simpa using h x hx,rfl⟩,Qp ?_⟩;show es.length+0+0<30;lia
section
variable{X:Cx}{Ex:XK}{Y:VI}
def Ed{i:Nat}(h:ir E i=true):∃p ds,E[i]?=some (some (.ow p,.list ds)):=by unfold ir at h;split at h;{rename_i p ds e;exact⟨p,ds,e⟩};cases h
def Mq{x name:Str}{id:String}{p apos cpos:Pos}{es:VG}{ds:List DE}{f:DM}{r:V->List V->Hp->VK->Prop}{i j:Nat}(hm:vZ X id r)(D:vC X.K f r)(slot:Slot "list" name id)(hty:typeOf (.builtin id)=pure (.type "method_descriptor"))(hv:PE X (.Name x p) (jw j))(hj:Y[j]?=some i)(ns:es.all noStar=true)(l30:es.length<30)(hline:(apos.endLine==cpos.line)=true)(S:pH X Ex Y es ds):SE X Ex Y (.Call (.Attribute (.Name x p) name apos) es [] cpos) (jZ f i ds):=by
 intro g xc E U H Hm F P Q hx R h q;replace h:bK (ir E i) _:=h;rw[cZ]at h;obtain⟨ho,h⟩:=h;obtain⟨p0,ds0,e0⟩:=Ed ho;obtain⟨v,h1,h2⟩:=R.slot i _ _ e0;have hs1:=cP hj h1;have fin:∀a xs0,v=.ref a->H a=some (.lst xs0)->oi X es (sel Y U) H λvs H2=>r (.ref a) vs H2 Q:=λa xs0 ev _=>by
  subst ev;refine iN hx S.as R h λE1 os vs H1 Hm1 F1 p1 R1 s1 G=>?_;replace p1:Dm f i (ds.map .ev) E1 os P:=p1;unfold Dm at p1;rw[<-aR,dD]at p1;obtain⟨args,hf,p1⟩:=p1;split at p1
  rotate_left
  .exact p1.elim
  rename_i p1' ds1 e1;have ra:=Dw G hf;obtain⟨v',g1,g2⟩:=R1.slot i _ _ e1;rw[h1]at g1;cases g1;generalize hfi:F1 i=fi at g2;cases g2 with
  |@ow _ _ xs1 _ ha1 hr1=>refine D H1 Hm1 a xs1 ds1 vs args _ Q ha1 (R1.off i a (by rw[hfi];exact Q4)) R1.sub hr1 ra p1 λys new u v p2 ry ru=>?_;obtain⟨a',xs',k1,k2,k3,k4,R2⟩:=R1.chg e1 ry;rw[h1]at k1;cases k1;exact q _ _ _ _ _ _ _ [] p2 R2 s1 (Tm.sh ru)
 generalize hfi:F i=fi at h2;cases h2 with
 |@ow _ a xs _ ha hr=>
  cases es with
  |nil=>exact WE.of (LV Ua slot hty hm hv rfl hline) ⟨_,hs1,.inl ⟨rfl,_,bA.of ha⟩,fin a xs rfl ha⟩
  |cons e es=>have ns':=ns;rw[QH,QA]at ns';exact WE.of (zU Ua slot hty hm hv (cY ns) rfl (CB ns l30) hline (aO ns'.1) (eY ns'.2)) ⟨_,hs1,.inl ⟨rfl,_,bA.of ha⟩,fin a xs rfl ha⟩
noncomputable def cF:DM:=λds args P=>match args with
 |[d]=>ds.length<sizeLine/\P (ds++[d]) .none
 |_=>False
def cN:vC K cF yt:=by intro H Hm a xs ds vs args P Q ha _ s r ra h q;unfold cF at h;split at h;{obtain⟨x,rfl,h1⟩:=dB ra;exact⟨a,xs,x,rfl,rfl,ha,by rw[r.len];exact h.1,q _ _ _ _ h.2 (r.snoc h1) .aU⟩};exact h.elim
inductive tZ(K:Frag) (x:V)(vs:List V)(H:Hp)(Q:VK):Prop
 |mk:∀l b xs zs,(x=.ref l)->(vs=[.ref b])->(H l=some (.lst xs))->(bM K H b zs)->(xs.length+zs.length<=sizeLine)->(Q .aU (upd H l (.lst (xs++zs))))->tZ K x vs H Q
noncomputable def wW (K:Frag):V->List V->Hp->VK->Prop:=λx vs H Q=>tZ K x vs H Q
open PyProof.Rows in
def qO:vZ X "list.extend" (wW X.K):=by
 intro pins s U H x vs v us Q I rx rv h;obtain⟨l,b,xs,zs,rfl,rfl,hH,hB,hz,q⟩:=h;cases rx;obtain⟨u,rfl,ru⟩:=rv.one;cases ru;obtain⟨z,its,n,r,hl,e⟩:=I.AJ hH;obtain⟨z2,its2,n2,r2,e2⟩:=hB.get I;have hl2:=r2.length;have hsz:its.toArray.size+its2.toArray.size<=sizeLine:=by rw[QI,QI];lia
 have hlong:¬(!its.toArray.isEmpty&&Builtin.List.listTooLong (its.toArray.size+its2.toArray.size))=true:=by rw[qi hsz,TU];exact QW
 refine Sb F.slot_list_extend ⟨_,e,rfl⟩ F.entry_list_extend (F.args_list_extend_2 _ _)
  (AutoSeq1.list_extend_list_list_0 l its.toArray n b its2.toArray n2 hlong (by rw[QI];lia) (by lia)) ⟨e,e2,?_⟩
 refine⟨.aU,_,I.AO (its':=its++its2) hH e (by simp) (r.append r2) ?_,rfl,q⟩;rw[QE];lia
noncomputable def lP:DM:=λds args P=>match args with
 |[.list es]=>ds.length+es.length<=sizeLine/\P (ds++es) .none
 |_=>False
def rF:vC K lP (wW K):=by intro H Hm a xs ds vs args P Q ha _ s r ra h q;unfold lP at h;split at h;{obtain⟨x,rfl,h1⟩:=dB ra;obtain⟨b,zs,rfl,hb,r2⟩:=gg h1;exact⟨a,b,xs,zs,rfl,rfl,ha,bM.mono s hb,by rw[r.len,r2.len];exact h.1,q _ _ _ _ h.2 (r.app r2) .aU⟩};exact h.elim
noncomputable def Li:DM:=λds args P=>match args with
 |[]=>∃d,ds[ds.length-1]?=some d/\P ds.dropLast d
 |[.int i]=>(-(2^63)<=i/\i<2^63)/\∃n d,seqIndex? i ds.length=some n/\ds[n]?=some d/\P (ds.eraseIdx n) d
 |_=>False
noncomputable def sF:DM:=λds args P=>match args with
 |[.int i,d]=>∃n:Nat,i=n/\n<=ds.length/\ds.length<sizeLine/\P (ds.take n++d::ds.drop n) .none
 |_=>False
def Av:vC K sF xW:=by intro H Hm a xs ds vs args P Q ha _ s r ra h q;unfold sF at h;split at h;{obtain⟨x,y,rfl,h1,h2⟩:=eU ra;cases h1;obtain⟨n,rfl,l1,l2,h⟩:=h;exact⟨a,xs,n,y,rfl,rfl,ha,by rw[r.len];exact l1,by rw[r.len];exact l2,q _ _ _ _ h ((r.take n).app (.cons h2 (r.drop n))) .aU⟩};exact h.elim
end
def l9:aY a=aY b↔a=b:=by cases a<;>cases b<;>simp[aY]
theorem tM:∀{a b:List Key},a.map aY=b.map aY↔a=b
 |[],[]=>by simp
 |[],_::_=>by simp
 |_::_,[]=>by simp
 |a::as,b::bs=>by simp[l9,tM (a:=as) (b:=bs)]
def p9{a b:List Key}:PyData.tuple (a.map aY)=.tuple (b.map aY)↔a=b:=by rw[PyData.tuple.injEq];exact tM
def oG(h:j4 w=true):∃k,w=aY k:=by
 cases w with
 |int i=>exact⟨.inl i,rfl⟩
 |str x=>exact⟨.inr x,rfl⟩
 |_=>cases h
theorem iL:∀{ks:VB},ks.all j4=true->∃k:List Key,ks=k.map aY
 |[],_=>⟨[],rfl⟩
 |w::ks,h=>by rw[QH,QA]at h;obtain⟨k,rfl⟩:=oG h.1;obtain⟨l,rfl⟩:=iL h.2;exact⟨k::l,rfl⟩
section
variable{K:Frag}{H:Hp}
def rC(r:Rp K H u (aY k)):u=kV k:=by
 cases k with
 |inl i=>have r:Rp K H u (.int i):=r;cases r;rfl
 |inr x=>have r:Rp K H u (.str x):=r;cases r;rfl
theorem qB:∀{us:List V}{k:List Key},au K H us (k.map aY)->us=k.map kV
 |_,[],r=>by cases r;rfl
 |_,k::ks,r=>by
  cases r with
  |cons h t=>rw[rC h,qB t];rfl
def sL{k:List Key}(r:Rp K H u (.tuple (k.map aY))):∃b,u=.ref b/\H b=some (.tup (k.map kV)):=by
 cases r with
 |tup a r=>exact⟨_,rfl,by rw[<-qB r];exact a⟩
theorem dJ.len:∀{kvs:List (Key×V)}{ds:Uo},dJ K H kvs ds->kvs.length=ds.length
 |_,_,.nil=>rfl
 |_,_,.cons _ r=>congrArg (·+1) r.len
theorem dg.len:∀{kvs:List (List Key×V)}{ds:Uo},dg K H kvs ds->kvs.length=ds.length
 |_,_,.nil=>rfl
 |_,_,.cons _ r=>congrArg (·+1) r.len
theorem dJ.val:∀{kvs:List (Key×V)}{ds:Uo},dJ K H kvs ds->(bV ds (aY k)=none/\bY kvs k=none)\/∃v d,bY kvs k=some v/\bV ds (aY k)=some d/\Rp K H v d
 |_,_,.nil=>.inl ⟨rfl,rfl⟩
 |_,_,.cons (k:=k') (v:=v) (d:=d) (kvs:=kvs) (ds:=ds) h r=>by
  by_cases c:k'=k;{subst c;exact .inr ⟨v,d,by unfold bY;rw[Tz (by simp)];rfl,by unfold bV;rw[Tz (by simp)];rfl,h⟩};have c':¬aY k'=aY k:=λz=>c (l9.mp z);have e1:bY ((k',v)::kvs) k=bY kvs k:=by unfold bY;rw[U0 (by simpa using c)]
  have e2:bV ((aY k',d)::ds) (aY k)=bV ds (aY k):=by unfold bV;rw[U0 (by simpa using c')]
  rw[e1,e2];exact r.val
theorem dg.val:∀{kvs:List (List Key×V)}{ds:Uo},dg K H kvs ds->(bV ds (.tuple (k.map aY))=none/\bY kvs k=none)\/∃v d,bY kvs k=some v/\bV ds (.tuple (k.map aY))=some d/\Rp K H v d
 |_,_,.nil=>.inl ⟨rfl,rfl⟩
 |_,_,.cons (k:=k') (v:=v) (d:=d) (kvs:=kvs) (ds:=ds) h r=>by
  by_cases c:k'=k;{subst c;exact .inr ⟨v,d,by unfold bY;rw[Tz (by simp)];rfl,by unfold bV;rw[Tz (by simp)];rfl,h⟩};have c':¬PyData.tuple (k'.map aY)=.tuple (k.map aY):=λz=>c (p9.mp z);have e1:bY ((k',v)::kvs) k=bY kvs k:=by unfold bY;rw[U0 (by simpa using c)]
  have e2:bV ((.tuple (k'.map aY),d)::ds) (.tuple (k.map aY))=bV ds (.tuple (k.map aY)):=by unfold bV;rw[U0 (by simpa using c')]
  rw[e1,e2];exact r.val
theorem dJ.any:∀{kvs:List (Key×V)}{ds:Uo},dJ K H kvs ds->(kvs.any λkv=>decide (kv.1=k))=ds.any λkv=>decide (kv.1=aY k)
 |_,_,.nil=>rfl
 |_,_,.cons (k:=k') h r=>by rw[SA,SA,r.any,decide_eq_decide.mpr (l9 (a:=k') (b:=k)).symm]
theorem dg.any{k:List Key}:∀{kvs:List (List Key×V)}{ds:Uo},dg K H kvs ds->(kvs.any λkv=>decide (kv.1=k))=ds.any λkv=>decide (kv.1=.tuple (k.map aY))
 |_,_,.nil=>rfl
 |_,_,.cons (k:=k') h r=>by rw[SA,SA,r.any,decide_eq_decide.mpr (p9 (a:=k') (b:=k)).symm]
theorem dJ.app(k:Key)(h:Rp K H v d):∀{kvs:List (Key×V)}{ds:Uo},dJ K H kvs ds->dJ K H (kvs++[(k,v)]) (ds++[(aY k,d)])
 |_,_,.nil=>.cons h .nil
 |_,_,.cons g r=>.cons g (r.app k h)
theorem dg.app(k:List Key)(h:Rp K H v d):∀{kvs:List (List Key×V)}{ds:Uo},dg K H kvs ds->dg K H (kvs++[(k,v)]) (ds++[(.tuple (k.map aY),d)])
 |_,_,.nil=>.cons h .nil
 |_,_,.cons g r=>.cons g (r.app k h)
def dJ.put(k:Key)(h:Rp K H v d)(r:dJ K H kvs ds):dJ K H (putK kvs k v) (putD ds (aY k) d):=by
 unfold putK putD;rw[r.any (k:=k)];split
 .have go:∀{kvs:List (Key×V)}{ds:Uo},dJ K H kvs ds->dJ K H (kvs.map λkv=>if kv.1=k then(kv.1,v)else kv) (ds.map λkv=>if kv.1=aY k then(kv.1,d)else kv):=by
   intro kvs;induction kvs with
   |nil=>intro ds r;cases r;exact .nil
   |cons p kvs ih=>
    intro ds r;cases r with
    |@cons k' v' d' _ ds g r=>rw[QT,QT];by_cases c:k'=k;{rw[if_pos c,if_pos (congrArg aY c)];exact .cons h (ih r)};rw[if_neg c,if_neg λz=>c (l9.mp z)];exact .cons g (ih r)
  exact go r
 exact r.app k h
def dg.put(k:List Key)(h:Rp K H v d)(r:dg K H kvs ds):dg K H (putK kvs k v) (putD ds (.tuple (k.map aY)) d):=by
 unfold putK putD;rw[r.any (k:=k)];split
 .have go:∀{kvs:List (List Key×V)}{ds:Uo},dg K H kvs ds->dg K H (kvs.map λkv=>if kv.1=k then(kv.1,v)else kv) (ds.map λkv=>if kv.1=.tuple (k.map aY)then(kv.1,d)else kv):=by
   intro kvs;induction kvs with
   |nil=>intro ds r;cases r;exact .nil
   |cons p kvs ih=>
    intro ds r;cases r with
    |@cons k' v' d' _ ds g r=>rw[QT,QT];by_cases c:k'=k;{rw[if_pos c,if_pos (by rw[c])];exact .cons h (ih r)};rw[if_neg c,if_neg λz=>c (p9.mp z)];exact .cons g (ih r)
  exact go r
 exact r.app k h
end
section
variable{X:Cx}{Ex:XK}{Y:VI}
inductive Gi(neg:Bool) (x:V) (y:V)(H:Hp)(Q:VK):Prop
 |mk:∀a o,(y=.ref a)->(gD H a x o)->(Q (.bl (if neg then !o.isSome else o.isSome)) H)->Gi neg x y H Q
noncomputable def Ec (neg:Bool):R2:=λx y H Q=>Gi neg x y H Q
def KS(hu:X.A.units+64<cLine):bq X (compareOp .In) (Ec false):=by intro pins s U H x y v u Q I rx ry h;obtain⟨a,o,rfl,g,q⟩:=h;cases ry;exact Ox (by lia) I g rx λs3 I3=>⟨.bl o.isSome,H,I3,rfl,q⟩
def Cr(hu:X.A.units+64<cLine):bq X (compareOp .NotIn) (Ec true):=by intro pins s U H x y v u Q I rx ry h;obtain⟨a,o,rfl,g,q⟩:=h;cases ry;exact Ip (by lia) I g rx λs3 I3=>⟨.bl (!o.isSome),H,I3,rfl,q⟩
noncomputable def mJ (neg:Bool):DR:=λds P=>zk (λx y=>match y,x with
 |.dict ((.none,.none)::kvs),.tuple ks=>ks.all j4=true/\P .sh (.bool (if neg then !(bV kvs (.tuple ks)).isSome else(bV kvs (.tuple ks)).isSome))
 |.dict kvs,w=>(j4 w=true/\lz kvs=true)/\P .sh (.bool (if neg then !(bV kvs w).isSome else(bV kvs w).isSome))
 |y,x=>GZ neg [x,y] P) ds
noncomputable def vU (K:Frag)(neg:Bool):R2:=λx y H Q=>An K neg x y H Q\/Ec neg x y H Q
def Jd(hu:X.A.units+64<cLine):bq X (compareOp .In) (vU X.K false):=bq.or (K3 hu) (KS hu)
def Dp(hu:X.A.units+64<cLine):bq X (compareOp .NotIn) (vU X.K true):=bq.or (Cy hu) (Cr hu)
def pX(r:Rp K H u (.dict kvs))(h:lz kvs=true):∃a es,u=.ref a/\H a=some (.dK es)/\dJ K H es kvs:=by
 cases r with
 |dk a r=>exact⟨_,_,rfl,a,r⟩
 |dt a r=>cases h
 |exc _ _=>cases h
def BZ(r:Rp K H u (.dict ((.none,.none)::kvs))):∃a es,u=.ref a/\H a=some (.dT es)/\dg K H es kvs:=by
 generalize e:((PyData.none,PyData.none)::kvs)=ds at r;cases r with
 |dk a r=>
  cases r with
  |nil=>cases e
  |@cons k _ _ _ _ _ _=>cases k<;>cases e
 |dt a r=>cases e;exact⟨_,_,rfl,a,r⟩
 |exc _ _=>cases e
def y9(neg:Bool):cg K (mJ neg) (r2 (vU K neg)):=by
 intro H Hm vs ds P Q s r h q;obtain⟨x,y,w,d,rfl,rfl,h1,h2,h⟩:=nK r h;have dflt:GZ neg [w,d] P->r2 (vU K neg) [x,y] H Q:=λh=>.inl (JA neg H Hm _ _ P Q s r h q);have alt:∀kvs,d=.dict kvs->((j4 w=true/\lz kvs=true)/\P .sh (.bool (if neg then !(bV kvs w).isSome else(bV kvs w).isSome)))->r2 (vU K neg) [x,y] H Q:=λkvs e hz=>by
  subst e;obtain⟨⟨hk,hp⟩,hz⟩:=hz;obtain⟨k,rfl⟩:=oG hk;cases rC h1;obtain⟨a,es,rfl,ha,rt⟩:=pX h2 hp;refine .inr ⟨a,_,rfl,gD.k (s _ _ ha),?_⟩;have e:(bY es k).isSome=(bV kvs (aY k)).isSome:=by rcases rt.val (k:=k)with⟨e1,e2⟩|⟨v,d,e1,e2,_⟩;{rw[e1,e2];rfl};rw[e1,e2];rfl
  rw[e];exact bz.sc q s hz (.bl _)
 have h2':=h2;cases h2' with
 |dk _ rk=>
  cases rk with
  |nil=>exact alt _ rfl h
  |@cons k _ _ _ _ _ _=>cases k<;>exact alt _ rfl h
 |exc _ _=>exact alt _ rfl h
 |@dt _ _ kvs _ _=>
  cases w with
  |tuple ks=>
   obtain⟨k,rfl⟩:=iL h.1;obtain⟨b,rfl,hb⟩:=sL h1;obtain⟨a,es,e,ha,rt⟩:=BZ h2;cases e;refine .inr ⟨_,_,rfl,gD.t (s _ _ ha) (s _ _ hb),?_⟩;have e:(bY es k).isSome=(bV kvs (.tuple (k.map aY))).isSome:=by rcases rt.val (k:=k)with⟨e1,e2⟩|⟨v,d,e1,e2,_⟩;{rw[e1,e2];rfl};rw[e1,e2];rfl
   rw[e];exact bz.sc q s h.2 (.bl _)
  |_=>exact alt _ rfl h
 |_=>exact dflt h
inductive GX(x:V) (y:V)(H:Hp)(Q:VK):Prop
 |mk:∀a v,(x=.ref a)->(gD H a y (some v))->(Q v H)->GX x y H Q
noncomputable def Ke:R2:=λx y H Q=>GX x y H Q
def Ik(hu:X.A.units+64<cLine):ni X Ke:=by intro value slice pins s U H x y v u Q I rx ry h hs;obtain⟨a,w,rfl,g,q⟩:=h;cases rx;exact PyProof.Rows.tail_any (xO I g) PySem.F.slot_dict_getitem.lookup (BX (by lia) I g ry λw' s3 I3 rw'=>⟨w,H,I3,rw',q⟩) hs
noncomputable def atK (xs:VB) (i:Int):Option PyData:=match i with
 |.ofNat n=>xs[n]?
 |.negSucc n=>cX xs (.negSucc n)
def rN{xs:VB}{i:Int}:atK xs i=cX xs i:=by
 cases i with
 |ofNat n=>unfold atK cX ko;show xs[n]?=_;rw[if_pos (show(0:Int)<=Int.ofNat n from Ss n)];by_cases h:n<xs.length;{rw[if_pos (show Int.ofNat n<(xs.length:Int)from Su.mpr h)];rfl};rw[if_neg (show ¬Int.ofNat n<(xs.length:Int)from λz=>h (Su.mp z))];exact Qc (Nat.le_of_not_lt h)
 |negSucc n=>rfl
noncomputable def aK:DR:=λds P=>zk (λx y=>match x,y with
 |.list xs,.int i=>aq (atK xs i) (P .sh)
 |.tuple xs,.int i=>aq (atK xs i) (P .sh)
 |.dict ((.none,.none)::kvs),.tuple ks=>ks.all j4=true/\∃d,bV kvs (.tuple ks)=some d/\P .sh d
 |.dict kvs,w=>(j4 w=true/\lz kvs=true)/\∃d,bV kvs w=some d/\P .sh d
 |x,y=>FL [x,y] P) ds
noncomputable def Ay (K:Frag):R2:=λx y H Q=>Kl K x y H Q\/Ke x y H Q
def OR(hu:X.A.units+64<cLine):ni X (Ay X.K):=CH.or (Ik hu)
def HM:cg K aK (r2 (Ay K)):=by
 intro H Hm vs ds P Q s r h q;obtain⟨x,y,d,w,rfl,rfl,h2,h1,h⟩:=nK r h;have dflt:FL [d,w] P->r2 (Ay K) [x,y] H Q:=λh=>.inl (Ln H Hm _ _ P Q s r h q);have alt:∀kvs,d=.dict kvs->((j4 w=true/\lz kvs=true)/\∃d,bV kvs w=some d/\P .sh d)->r2 (Ay K) [x,y] H Q:=λkvs e hz=>by subst e;obtain⟨⟨hk,hp⟩,d,hv,hz⟩:=hz;obtain⟨k,rfl⟩:=oG hk;cases rC h1;obtain⟨a,es,rfl,ha,rt⟩:=pX h2 hp;rcases rt.val (k:=k)with⟨e1,e2⟩|⟨v,d',e1,e2,rv⟩;{rw[e1]at hv;cases hv};rw[e2]at hv;cases hv;exact .inr ⟨a,v,rfl,by rw[<-e1];exact gD.k (s _ _ ha),bz.sc q s hz rv⟩
 have h2':=h2;cases h2' with
 |lst _ _=>
  cases w with
  |int i=>have h:aq (atK _ i) (P .sh):=h;rw[rN,<-aR]at h;exact dflt h
  |_=>exact dflt h
 |tup _ _=>
  cases w with
  |int i=>have h:aq (atK _ i) (P .sh):=h;rw[rN,<-aR]at h;exact dflt h
  |_=>exact dflt h
 |dk _ rk=>
  cases rk with
  |nil=>exact alt _ rfl h
  |@cons k _ _ _ _ _ _=>cases k<;>exact alt _ rfl h
 |exc _ _=>exact alt _ rfl h
 |dt _ _=>
  cases w with
  |tuple ks=>obtain⟨hk,d,hv,hz⟩:=h;obtain⟨k,rfl⟩:=iL hk;obtain⟨b,rfl,hb⟩:=sL h1;obtain⟨a,es,e,ha,rt⟩:=BZ h2;cases e;rcases rt.val (k:=k)with⟨e1,e2⟩|⟨v,d',e1,e2,rv⟩;{rw[e1]at hv;cases hv};rw[e2]at hv;cases hv;exact .inr ⟨_,v,rfl,by rw[<-e1];exact gD.t (s _ _ ha) (s _ _ hb),bz.sc q s hz rv⟩
  |_=>exact alt _ rfl h
 |_=>exact dflt h
noncomputable def fU:DR:=λds P=>match ds with
 |[.dict kvs]=>lz kvs=true/\P .sh (.int kvs.length)
 |ds=>Fg ds P
def EX:cg K fU λxs H Q=>(∃p ys,xs=[.ref p]/\(bA K H p ys\/bE K H p ys)/\Q (.int ys.length) H)\/∃a kvs,xs=[V.ref a]/\H a=some (.dK kvs)/\Q (.int kvs.length) H:=by intro H Hm vs ds P Q s r h q;unfold fU at h;split at h;{obtain⟨x,rfl,h1⟩:=dB r;obtain⟨a,es,rfl,ha,rt⟩:=pX h1 h.1;exact .inr ⟨a,es,rfl,s _ _ ha,by rw[rt.len];exact bz.sc q s h.2 (.int _)⟩};exact .inl (Ig H Hm _ _ P Q s r h q)
noncomputable def El:DE:=λ_ E Q=>Q E (.dk false) (.dict [])\/Q E (.dt false) (.dict [(.none,.none)])
def JR(h1:PE X (.Dict [] [] pos) BC)(h2:PE X (.Dict [] [] pos) Bg):SE X Ex Y (.Dict [] [] pos) El:=by
 intro g x E U H Hm F P Q hx R p q;have go:∀(o:HO)(k:Kd)(d:PyData),P E k d->(∀p,Own X.K (upd H p o) Hm k (.ref p) d [p])->∀p,H p=none->Q (.ref p) (upd H p o):=λo k d p own a ha=>by have s2:=bQ (o:=o) ha;have R2:=R.grow (H':=upd H a o) s2 (ah.refl _) (R.sub.trans s2) (λi b hb=>R.off i b hb) λ_ _=>.inl rfl;refine q _ _ _ _ _ Hm F [a] p R2 (ah.refl _) ⟨own a,λb hb=>?_,λb hb i=>?_,λb hb=>?_⟩;{rw[Q8.mp hb];exact R.q8 ha};{rw[Q8.mp hb];exact R.fresh ha};rw[Q8.mp hb];exact R.eL ha
 rcases p with p|p;{exact WE.of h1 (go _ _ _ p λ_=>.dk ay .nil)};exact WE.of h2 (go _ _ _ p λ_=>.dt ay .nil)
def Rl.EO{F:Nat->VE}(R:Rl K g E U H Hm F){i:Nat}{a:Addr}(e:E[i]?=some (some (k,d)))(hF:F i=[a])(hv:U[i]?=some (some (.ref a)))(new:Own K (upd H a o) Hm k (.ref a) d' [a])(nt:nC o)(hp:k=.ow true->∃ds,d'=.list ds) : Rl K g (E.set i (some (k,d'))) U (upd H a o) Hm F:=by
 have ma:a∈F i:=by rw[hF];exact Q4
 have na:=R.off i a ma;have up:∀b,b≠a->upd H a o b=H b:=λb hb=>ai hb;have li:=aV e;exact {
  len:=by rw[QX];exact R.len
  sub:=λb u hb=>by
   have:b≠a:=λz=>by rw[z,na]at hb;cases hb
   rw[up b this];exact R.sub b u hb
  slot:=λj k' d'' e'=>by
   by_cases c:j=i
   .subst c;rw[aB li]at e';cases e';exact⟨_,hv,by rw[hF];exact new⟩
   .rw[aj (Ne.symm c)]at e';obtain⟨u,g1,g2⟩:=R.slot j k' d'' e';refine⟨u,g1,g2.step (ah.refl _) λb hb=>up b λz=>c (R.aD j i a (z▸hb) ma)⟩
  off:=R.off
  aT:=λj b hb=>by
   by_cases c:b=a
   .rw[c];exact⟨_,ay,nt⟩
   .rw[up b c];exact R.aT j b hb
  aD:=R.aD
  fr:=λq u hq ho=>by
   have:q≠a:=λz=>by
    rcases R.new i a ma with y|y
    .exact hq (z▸y)
    .rw[z,y]at ho;cases ho
   rw[up q this];exact R.fr q u hq ho
  new:=R.new
  pin:=λq hq=>by
   obtain⟨g1,ds',g2⟩:=R.pin q hq
   by_cases c:i=q.1
   .rw[<-c]at g1 g2⊢;rw[e]at g2;cases g2;obtain⟨ds,rfl⟩:=hp rfl;exact⟨g1,ds,aB li⟩
   .exact⟨g1,ds',by rw[aj c];exact g2⟩
  old:=R.old }
noncomputable def Ga:zT:=λo i v H Q=>Gu o i v H Q\/∃a H',o=.ref a/\nV H a i v H'/\Q H'
def MW(hu:X.A.units+64<cLine):Fj X Ga:=by intro pins s U H o i v ov iv u Q I ro ri rv h;rcases h with h|⟨a,H',rfl,g,q⟩;{exact set_list pins s U H o i v ov iv u Q I ro ri rv h};cases ro;exact C9 (by lia) I g ri rv λs' I'=>⟨H',I',q⟩
def HK{F:Nat->VE}{i:Nat}(R:Rl K g E U H Hm F)(ho:U[i]?=some (some o))(rw':Rp K Hm wv w)(rv:Rp K Hm vv v)(h:i7.setI E i w v Qe)(q:∀E' H',Qe E'->Rl K g E' U H' Hm F->Q H'):Ga o wv vv H Q:=by
 unfold i7.setI at h;split at h
 .rename_i p ds a e;rw[<-aR,uS]at h;obtain⟨n,hn,h⟩:=h;cases rw';obtain⟨v',h1,h2⟩:=R.slot i _ _ e;rw[ho]at h1;cases h1;generalize hfi:F i=fi at h2;cases h2 with
  |@ow _ b xs _ ha hr=>refine .inl ⟨b,xs,a,n,rfl,rfl,ha,by rw[hr.len];exact hn,q _ _ h ?_⟩;exact R.EO e hfi ho (.ow ay (hr.set rv n)) j9 λ_=>⟨_,rfl⟩
 .rename_i p kvs _ e;obtain⟨⟨hk,hl⟩,h⟩:=h;obtain⟨k,rfl⟩:=oG hk;cases rC rw';obtain⟨v',h1,h2⟩:=R.slot i _ _ e;rw[ho]at h1;cases h1;generalize hfi:F i=fi at h2;cases h2 with
  |@dk _ b es _ ha hr=>refine .inr ⟨b,_,rfl,nV.k ha (by rw[hr.len];exact hl),q _ _ h ?_⟩;exact R.EO e hfi ho (.dk ay (hr.put k rv)) tK λz=>by cases z
 .rename_i p kv kvs ks e;obtain⟨⟨hk,hl⟩,h⟩:=h;obtain⟨k,rfl⟩:=iL hk;obtain⟨c,rfl,hc⟩:=sL rw';obtain⟨v',h1,h2⟩:=R.slot i _ _ e;rw[ho]at h1;cases h1;generalize hfi:F i=fi at h2;cases h2 with
  |@dt _ b es _ ha hr=>refine .inr ⟨b,_,rfl,nV.t ha (R.sub _ _ hc) (by rw[hr.len];exact hl),q _ _ h ?_⟩;exact R.EO e hfi ho (.dt ay (hr.put k rv)) qS λz=>by cases z
 exact h.elim
def MD{i jx:Nat}(hu:X.A.units+64<cLine)(hv:PE X (.Name x p) (jw jx))(hj:(aL X)[jx]?=some i)(hs:swapsWithSole [.Subscript (.Name x p) j pos'] e pos.line X.env=pure false)
  (ha:∀v,assign (.Subscript (.Name x p) j pos') X.env v=(do
   let ov <-holding [v] (eval (.Name x p) X.env)
   let iv <-holding [v,ov] (eval j X.env)
   standAt pos'
   holding [v,ov,iv] (setItem ov iv v)
   release [v,ov,iv] []))(hd:SE X Ex (aL X) e de)(hd2:SE X Ex (aL X) j dj):S1 X Ex (.Assign [.Subscript (.Name x p) j pos'] e pos) (i7 i dj de):=by
 intro g D' E U H Hm F D hx R pp nx rt;refine WS.of (BK aS (LP hv aS (MW hu) ha) hs) (hd g D'.xc E U H Hm F _ _ hx R pp λE1 k v u H1 Hm1 F1 fp p1 R1 s1 T=>?_)
 replace p1:bK k.fz _:=p1
 rw[cZ,cZ]at p1;obtain⟨hk,hh,p1⟩:=p1;obtain⟨Hm2,s2,R2,r2⟩:=T.dI R1 hk;obtain⟨o,ho⟩:=kh R2 hh;refine⟨o,cP hj ho,hd2 g D'.xc E1 U H1 Hm2 F1 _ _ hx R2 p1 λE3 k3 v3 u3 H3 Hm3 F3 fp3 p3 R3 s3 T3=>?_⟩
 replace p3:bK k3.fz _:=p3
 rw[cZ]at p3;obtain⟨hk3,p3⟩:=p3;obtain⟨Hm4,s4,R4,r4⟩:=T3.dI R3 hk3;exact HK R4 ho r4 (r2.mono (s3.trans s4)) p3 λE' H' q R'=>nx _ _ _ _ _ q R' (s1.trans (s2.trans (s3.trans s4)))
end
noncomputable def ini:VF->VB->En
 |true::ms,d::ds=>some (.ow true,d)::ini ms ds
 |false::ms,d::ds=>some (.sh,d)::ini ms ds
 |_,_=>[]
noncomputable def d7:VF->En->Option (VB)
 |[],_=>some []
 |true::ms,some (.ow true,.list es)::E=>(d7 ms E).map (.list es::·)
 |false::ms,_::E=>d7 ms E
 |_,_=>none
noncomputable def d8:VF->Nat->VE->List (Nat×Addr)
 |true::ms,n,a::as=>(n,a)::d8 ms (n+1) as
 |false::ms,n,as=>d8 ms (n+1) as
 |_,_,_=>[]
noncomputable def ff:VF->VE->List (VE)
 |true::ms,a::as=>[a]::ff ms as
 |false::ms,as=>[]::ff ms as
 |_,_=>[]
section
variable{K:Frag}{H Hm:Hp}
def Ag.wV(h:Ag K H Hm ms vs ds as):vs.length=ms.length:=by
 induction h with
 |nil=>rfl
 |sh _ _ ih=>rw[QJ,QJ,ih]
 |mu _ _ _ _ _ ih=>rw[QJ,QJ,ih]
def Ag.Od(h:Ag K H Hm ms vs ds as):(ini ms ds).length=vs.length:=by
 induction h with
 |nil=>rfl
 |sh _ _ ih=>rw[ini,QJ,QJ,ih]
 |mu _ _ _ _ _ ih=>rw[ini,QJ,QJ,ih]
def Ag.pins(h:Ag K H Hm ms vs ds as):∀n,(d8 ms n as).map (·.2)=as:=by
 induction h with
 |nil=>exact λ_=>rfl
 |sh _ _ ih=>exact λn=>ih (n+1)
 |@mu _ _ _ _ a _ _ _ _ _ _ _ ih=>exact λn=>congrArg (a::·) (ih (n+1))
def Ag.slot(h:Ag K H Hm ms vs ds as):∀{i:Nat}{k:Kd}{d:PyData},(ini ms ds)[i]?=some (some (k,d))->∃v,vs[i]?=some v/\Own K H Hm k v d ((ff ms as)[i]?.getD []):=by
 induction h with
 |nil=>intro i k d e;simp[ini]at e
 |@sh ms vs ds as v d r _ ih=>
  intro i k d' e;rw[ini]at e;cases i with
  |zero=>cases e;exact⟨v,rfl,.sh r⟩
  |succ i=>exact ih e
 |@mu ms vs ds as a xs es h1 h2 h3 h4 _ ih=>
  intro i k d' e;rw[ini]at e;cases i with
  |zero=>cases e;exact⟨_,rfl,.ow h1 h2⟩
  |succ i=>exact ih e
def Ag.GU(h:Ag K H Hm ms vs ds as):(∀(i:Nat) a,a∈(ff ms as)[i]?.getD []->a∈as/\Hm a=none/\∃xs,H a=some (.lst xs))/\∀(i j:Nat) a,a∈(ff ms as)[i]?.getD []->a∈(ff ms as)[j]?.getD []->i=j:=by
 induction h with
 |nil=>exact⟨λi a h=>by simp[ff]at h,λi j a h=>by simp[ff]at h⟩
 |@sh ms vs ds as v d r _ ih=>
  refine⟨λi a h=>?_,λi j a h1 h2=>?_⟩
  .rw[ff]at h;cases i with
   |zero=>simp at h
   |succ i=>exact ih.1 i a h
  rw[ff]at h1 h2;cases i with
  |zero=>simp at h1
  |succ i=>
   cases j with
   |zero=>simp at h2
   |succ j=>exact congrArg (·+1) (ih.2 i j a h1 h2)
 |@mu ms vs ds as a xs es g1 g2 g3 g4 _ ih=>
  refine⟨λi b h=>?_,λi j b h1 h2=>?_⟩
  .rw[ff]at h;cases i with
   |zero=>have h:b∈[a]:=h;rw[Q8]at h;subst h;exact⟨Q4,g3,xs,g1⟩
   |succ i=>obtain⟨y1,y2⟩:=ih.1 i b h;exact⟨QB _ y1,y2⟩
  rw[ff]at h1 h2;cases i with
  |zero=>
   have h1:b∈[a]:=h1;rw[Q8]at h1;subst h1;cases j with
   |zero=>rfl
   |succ j=>exact absurd (ih.1 j b h2).1 g4
  |succ i=>
   cases j with
   |zero=>have h2:b∈[a]:=h2;rw[Q8]at h2;subst h2;exact absurd (ih.1 i b h1).1 g4
   |succ j=>exact congrArg (·+1) (ih.2 i j b h1 h2)
def Ag.pin(h:Ag K H Hm ms vs ds as):∀n,∀q∈d8 ms n as,∃i,q.1=n+i/\vs[i]?=some (.ref q.2)/\∃es,(ini ms ds)[i]?=some (some (.ow true,.list es)):=by
 induction h with
 |nil=>exact λn q h=>by cases h
 |@sh ms vs ds as v d r _ ih=>intro n q h;obtain⟨i,e,h1,h2⟩:=ih (n+1) q h;exact⟨i+1,by lia,h1,h2⟩
 |@mu ms vs ds as a xs es g1 g2 g3 g4 _ ih=>intro n q h;have h:q∈(n,a)::d8 ms (n+1) as:=h;rcases QG.mp h with rfl|h;{exact⟨0,rfl,rfl,es,rfl⟩};obtain⟨i,e,h1,h2⟩:=ih (n+1) q h;exact⟨i+1,by lia,h1,h2⟩
def Ag.back{H' Hm':Hp}{E:En}(h:Ag K H Hm ms vs ds as):∀{n:Nat}{us:VB},(∀q∈d8 ms n as,∃es xs,E[q.1]?=some (some (.ow true,.list es))/\H' q.2=some (.lst xs)/\au K Hm' xs es/\Hm' q.2=none)->d7 ms (E.drop n)=some us->Bk K H' Hm' as us:=by
 induction h with
 |nil=>intro n us _ e;cases e;exact .nil
 |@sh ms vs ds as v d r _ ih=>
  intro n us hq e;cases hE:E.drop n with
  |nil=>rw[hE]at e;cases e
  |cons o E'=>rw[hE]at e;refine ih (n:=n+1) hq ?_;rw[show E.drop (n+1)=E' from by rw[<-List.tail_drop,hE];rfl];exact e
 |@mu ms vs ds as a xs es g1 g2 g3 g4 _ ih=>
  intro n us hq e;obtain⟨es',xs',e1,e2,e3,e4⟩:=hq (n,a) Q4;cases hE:E.drop n with
  |nil=>rw[hE]at e;cases e
  |cons o E'=>
   have ho:o=some (.ow true,.list es'):=by have:=List.getElem?_drop (xs:=E) (i:=n) (j:=0);rw[hE,Nat.add_zero]at this;have e1:E[n]?=_:=e1;rw[e1]at this;exact Option.some.inj this
   subst ho;rw[hE]at e;have e:(d7 ms E').map (PyData.list es'::·)=some us:=e;cases hb:d7 ms E' with
   |none=>rw[hb]at e;cases e
   |some us'=>rw[hb]at e;cases e;refine .cons e2 e3 e4 (ih (n:=n+1) (λq hq'=>hq q (QB _ hq')) ?_);rw[show E.drop (n+1)=E' from by rw[<-List.tail_drop,hE];rfl];exact hb
def BN{n:Nat}(h:n<=U.length):sel (List.range n) U=U.take n:=by
 refine Qw λi=>?_;unfold sel;rw[QF,List.getElem?_take];by_cases c:i<n
 .rw[QK c,if_pos c];have l:i<U.length:=by lia
  rw[QO l];show some ((U[i]?).join)=some U[i];rw[QO l];rfl
 rw[if_neg c,Qc (by rw[QC];lia)];rfl
def Ag.rl(h:Ag K H Hm ms vs ds as)(s:ah Hm H) (m:Nat):Rl K ⟨H,Hm,d8 ms 0 as⟩ (ini ms ds++List.replicate m none) (vs.map some++List.replicate m none) H Hm (λi=>(ff ms as)[i]?.getD []):=by
 have hM:Gh.M ⟨H,Hm,d8 ms 0 as⟩=as:=h.pins 0;have inE:∀{i:Nat}{k:Kd}{d:PyData},(ini ms ds++List.replicate m none)[i]?=some (some (k,d))->(ini ms ds)[i]?=some (some (k,d)):=λ{i k d} e=>by rcases Qy i (ini ms ds).length with l|l;{rwa[SX l]at e};rw[Sx l]at e;have:=Qi e;have:=List.eq_of_mem_replicate this;cases this
 have inV:∀{i:Nat}{v:V},vs[i]?=some v->(vs.map some++List.replicate m none)[i]?=some (some v):=λ{i v} e=>by have l:=aV e;rw[SX (by rw[Q5];exact l),QF,e];rfl
 exact {
  len:=by rw[QE,QE,h.Od,Q5,RI,RI]
  sub:=s
  slot:=λi k d e=>by
   obtain⟨v,h1,h2⟩:=h.slot (inE e);exact⟨v,inV h1,h2⟩
  off:=λi a ha=>(h.GU.1 i a ha).2.1
  aT:=λi a ha=>by
   obtain⟨_,_,xs,e⟩:=h.GU.1 i a ha;exact⟨_,e,j9⟩
  aD:=λi j a h1 h2=>h.GU.2 i j a h1 h2
  fr:=λp o _ e=>e
  new:=λi a ha=>.inl (by rw[hM];exact(h.GU.1 i a ha).1)
  pin:=λq hq=>by
   obtain⟨i,e,h1,es,h2⟩:=h.pin 0 q hq;rw[Nat.zero_add]at e;rw[e];refine⟨inV h1,es,?_⟩;rw[SX (aV h2)];exact h2
  old:=λ_ _=>.inl rfl }
end
section
variable{P:Program}{w:World}{K:Frag}{mg:Us}{base:Heap}
noncomputable def br (ms:VF)(Q:VB->Kd->PyData->Prop)(x:XC):fT where
 nx:=λE=>aq (d7 ms E) λus=>Q us .sh .none
 rt:=λE k v=>aq (d7 ms E) λus=>Q us k v
 xc:=x
def bP{f:Addr}{N ps:VL}{k:Nat}{ms:VF}{sp:bF}{d:DS}{m:Nat}(F:qM K x qual st f fd)(S:aN N ps (av st))(hl:ms.length=ps.length)(hm:N.length<=ps.length+m)(hb:∀(cdv:Value)(A:Around)(outer:List Env)(s:Shared)(H:Hp)(Ex:XK),cQ k (A.deeper (PyProof.Rows.envOfC qual (av st) s.heap.objs.size f cdv))->SS (fF (dY P w) P w K mg base N qual (av st) f cdv A outer s H Ex) Ex (gn st) d)(hd:∀(ds:VB)(Q:VB->Kd->PyData->Prop)(x:XC),sp ds Q x->d (br ms Q x) (ini ms ds++List.replicate m none)):fH P w K mg base (dY P w) (k+1) f fd ps (b8 mg K ms sp):=by
 refine F.PC S (λvs H Q E h=>?_) (λcdv A outer s H vs Q E hr h=>?_);{obtain⟨ds,as,Hm,P',x,_,ag,_⟩:=h;rw[ag.wV,hl]};obtain⟨ds,as,Hm,P',xc,sm,ag,hsp,ret,exn⟩:=h;refine⟨_,ic,?_⟩;have R:=ag.rl sm m;have hpre:N.length >= vs.length:=by rw[ag.wV,hl];have:=congrArg List.length S.pre;rw[RW]at this;lia
 have hsel:L2.start N vs=sel (List.range N.length) (vs.map some++List.replicate m none):=by
  have hv:vs.length=ps.length:=by rw[ag.wV,hl]
  rw[BN (by rw[QE,Q5,RI];lia)];unfold L2.start;rw[List.take_append,Q5,SJ (by rw[Q5];exact hpre),List.take_replicate];congr 2;lia
 rw[hsel];have hM:Gh.M ⟨H,Hm,d8 ms 0 as⟩=as:=ag.pins 0;have fin:∀{E':En}{k:Kd}{v:PyData}{u:V}{σ':St}{H' Hm':Hp}{F':Nat->VE}{fp:VE},(aq (d7 ms E') λus=>P' us k v)->Rl K ⟨H,Hm,d8 ms 0 as⟩ E' σ' H' Hm' F'->Tm K ⟨H,Hm,d8 ms 0 as⟩ F' H' Hm' k u v fp->Q u H':=by
  intro E' k v u σ' H' Hm' F' fp p R' T;rw[<-aR]at p;obtain⟨us,hus,p⟩:=p;refine ret us k v u H' Hm' fp p (λa o e=>?_) R'.sub (λp o hp e=>R'.fr p o (by rw[hM];exact hp) e) (λa _ ha=>R'.old a ha) ?_ T.own λa ha=>⟨T.new a ha,T.off a ha⟩
  .have:H a≠none:=λz=>by rw[sm _ _ e]at z;cases z
   rcases R'.old a this with e'|⟨e',_⟩;{exact e'.trans e};have e':Hm a=none:=e';rw[e]at e';cases e'
  refine ag.back (E:=E') (n:=0) (λq hq=>?_) (by rw[TF];exact hus);obtain⟨h1,es,h2⟩:=R'.pin q hq;obtain⟨v',h3,h4⟩:=R'.slot _ _ _ h2;have hF:=R'.wU hq;rw[h1]at h3;cases h3;rw[hF]at h4;cases h4 with
  |ow e1 e2=>exact⟨es,_,h2,e1,e2,R'.off q.1 q.2 (by rw[hF];exact Q4)⟩
 refine hb cdv A outer s H E hr ⟨H,Hm,d8 ms 0 as⟩ (br ms P' xc) _ _ H Hm _ _ (λc d' C a H' hC hx fr ha hn=>exn c d' C a H' hC hx (λp o hp ho=>fr p o (by rw[hM];exact hp) ho) ha hn) R (hd ds P' xc hsp) (λE' σ' H' Hm' F' p R' _=>?_) (λE' k v u σ' H' Hm' F' fp p R' T=>fin p R' T);exact fin (k:=.sh) (v:=.none) (u:=.aU) p R' (Tm.sh .aU)
end
section
variable{X:Cx}{Ex:XK}{Y:VI}
def xI{i:Int} {j}:SE X Ex Y (.Constant (.int i) j pos) (dC (.int i)):=vD LM λ_=>.int i
def xS{j}:SE X Ex Y (.Constant (.str x) j pos) (dC (.str x)):=vD Di λ_=>.str x
def xB{b:Bool} {j}:SE X Ex Y (.Constant (.bool b) j pos) (dC (.bool b)):=vD Mm λ_=>.bl b
def xN{j}:SE X Ex Y (.Constant .none j pos) (dC .none):=vD Lo λ_=>.aU
def xG{i:Int}(hm:∃t,X.mg x=some (.int i t))(hg:Gl X x:=by rfl)(hd:(x==("__debug__":Str))=false:=by decide):SE X Ex Y (.Name x pos) (dC (.int i)):=
 let⟨t,ht⟩:=hm
 vD (IC (v:=.int i) hg ht ⟨t,rfl⟩ hd) λ_=>.int i
def xV(j:Nat){i:Nat}(hN:X.N[j]?=some x:=by rfl)(hv:jV X.env.scope x:=by first|exact Or.inl rfl|exact Or.inr (Or.inl rfl)|exact Or.inr (Or.inr rfl))(hj:Y[j]?=some i:=by rfl)(hd:(x==("__debug__":Str))=false:=by decide)(hcd:(x==("__classdict__":Str))=false:=by decide):SE X Ex Y (.Name x pos) (bJ i):=Lg (eN hN hv hd hcd) hj
def a0:aH X Ex Y [] []:=.nil
def aP(j:Nat){i:Nat}(S:aH X Ex Y es as)(hN:X.N[j]?=some x:=by rfl)(hv:jV X.env.scope x:=by first|exact Or.inl rfl|exact Or.inr (Or.inl rfl)|exact Or.inr (Or.inr rfl))(hj:Y[j]?=some i:=by rfl)(hd:(x==("__debug__":Str))=false:=by decide)(hcd:(x==("__classdict__":Str))=false:=by decide):aH X Ex Y (.Name x pos::es) (.pk i::as):=.pk (eN hN hv hd hcd) hj S
def aE(h:SE X Ex Y e d)(S:aH X Ex Y es as):aH X Ex Y (e::es) (.ev d::as):=.ev h S
noncomputable def kT:DR:=mT λi j=>.int (i-j)
noncomputable def mq:DR:=oF (λ_ j=>0<j) λi j=>.int (i%j)
noncomputable def Aq:DR:=oF AE λi j=>.int (i/j)
noncomputable def tF:DR:=oF wm λi j=>.int (i^j.toNat)
noncomputable def oY:DR:=mT λi j=>.bool (decide (i<j))
noncomputable def PX:DR:=mT λi j=>.bool (decide (i<=j))
noncomputable def t7:DR:=mT λi j=>.bool (decide (j<i))
noncomputable def Lb:DR:=mT λi j=>.bool (decide (j<=i))
noncomputable def fL:DR:=λds P=>match ds with
 |[.int a]=>P .sh (.int (-a))
 |_=>False
def HQ:cg K fL (r1 (rU λi=>.int (-i))):=by intro H Hm vs ds P Q s r h q;unfold fL at h;split at h;{obtain⟨x,rfl,h1⟩:=dB r;cases h1;exact⟨_,rfl,bz.sc q s h (.int _)⟩};exact h.elim
variable{a b:Expr}{pos:Pos}{as:List Arg}
def dQ(S:aH X Ex Y [a,b] as):SE X Ex Y (.BinOp a .Add b pos) (aa cA as):=iK Hr G8 S
def sI(S:aH X Ex Y [a,b] as):SE X Ex Y (.BinOp a .Sub b pos) (aa kT as):=iK KJ (jI λ_ _ _=>.int _) S
def fZ(S:aH X Ex Y [a,b] as):SE X Ex Y (.BinOp a .Mult b pos) (aa dO as):=iK Hy Iw S
def qt(S:aH X Ex Y [a,b] as):SE X Ex Y (.BinOp a .Mod b pos) (aa mq as):=iK JP (kY λ_ _ _=>.int _) S
def Le(S:aH X Ex Y [a,b] as):SE X Ex Y (.BinOp a .FloorDiv b pos) (aa Aq as):=iK D4 (kY λ_ _ _=>.int _) S
def zM(S:aH X Ex Y [a,b] as):SE X Ex Y (.BinOp a .Pow b pos) (aa tF as):=iK La (kY λ_ _ _=>.int _) S
def kR(S:aH X Ex Y [a] as):SE X Ex Y (.UnaryOp .USub a pos) (aa fL as):=MS JS HQ S
def NF(S:aH X Ex Y [a,b] as):SE X Ex Y (.Compare a [.Lt] [b] pos) (aa oY as):=vA AN (gG _) (jI λ_ _ _=>.bl _) S
def N7(hu:X.A.units+64<cLine)(S:aH X Ex Y [a,b] as):SE X Ex Y (.Compare a [.Eq] [b] pos) (aa eV as):=vA (Dj hu) (gG _) BO S
def P4(hu:X.A.units+64<cLine)(S:aH X Ex Y [a,b] as):SE X Ex Y (.Compare a [.NotEq] [b] pos) (aa nX as):=vA (Bf hu) (gG _) DW S
def FQ(S:aH X Ex Y [a,b] as):bG X Ex Y (.Compare a [.Lt] [b] pos) (aa oY as):=gf AN (gG _) (jI λ_ _ _=>.bl _) S
def yb(S:aH X Ex Y [a,b] as):bG X Ex Y (.Compare a [.Gt] [b] pos) (aa t7 as):=gf Mw (gG _) (jI λ_ _ _=>.bl _) S
def O7(S:aH X Ex Y [a,b] as):bG X Ex Y (.Compare a [.GtE] [b] pos) (aa Lb as):=gf Nd (gG _) (jI λ_ _ _=>.bl _) S
def kr(hu:X.A.units+64<cLine)(S:aH X Ex Y [a,b] as):bG X Ex Y (.Compare a [.Eq] [b] pos) (aa eV as):=gf (Dj hu) (gG _) BO S
def LI(hu:X.A.units+64<cLine)(S:aH X Ex Y [a,b] as):bG X Ex Y (.Compare a [.NotEq] [b] pos) (aa nX as):=gf (Bf hu) (gG _) DW S
def NJ(S:aH X Ex Y [a,b] as):bG X Ex Y (.Compare a [.Is] [b] pos) (aa (dM false) as):=gf Mc (gG _) Ia S
def Pp(hu:X.A.units+64<cLine)(S:aH X Ex Y [a,b] as)(hm:behindInMarks .In b=false:=by rfl):bG X Ex Y (.Compare a [.In] [b] pos) (aa (mJ false) as):=gf (Jd hu) hm (y9 false) S
def Oq(hu:X.A.units+64<cLine)(S:aH X Ex Y [a,b] as)(hm:behindInMarks .NotIn b=false:=by rfl):bG X Ex Y (.Compare a [.NotIn] [b] pos) (aa (mJ true) as):=gf (Dp hu) hm (y9 true) S
def NO(h:SE X Ex Y e d)(he:∀whole,isTrue e X.env whole=(do let v <-whole;standAt e.pos;holding [v] (truthy v)):=by intro _;rfl):bG X Ex Y e d:=h.tS he
def tV(j:Nat){i:Nat}(hN:X.N[j]?=some x:=by rfl)(hv:jV X.env.scope x:=by first|exact Or.inl rfl|exact Or.inr (Or.inl rfl)|exact Or.inr (Or.inr rfl))(hj:Y[j]?=some i:=by rfl)(hd:(x==("__debug__":Str))=false:=by decide)(hcd:(x==("__classdict__":Str))=false:=by decide):ST X Ex Y (.Name x pos) (GD i):=OA (eN hN hv hd hcd) hj λ_=>rfl
def bD(hu:X.A.units+64<cLine)(S:aH X Ex Y [a,b] as)(hs:lI b:=by intro _ _;rfl):SE X Ex Y (.Subscript a b pos) (aa aK as):=Mt (OR hu) hs HM S
variable{p:Pos}
def qa(hm:X.mg "len"=none)(S:aH X Ex Y [a] as)(hg:Gl X "len":=by rfl)(ns:noStar a=true:=by rfl):SE X Ex Y (.Call (.Name "len" p) [a] [] pos) (aa fU as):=fX (u5.or Cd) EX hg hm PySem.boot_len (by decide) (by decide) (by rw[QH,ns];rfl) S
def MM(hm:X.mg "list"=none)(S:aH X Ex Y [a] as)(hg:Gl X "list":=by rfl)(ns:noStar a=true:=by rfl):SE X Ex Y (.Call (.Name "list" p) [a] [] pos) (aa oO as):=oj vK Ek hg hm UY (by decide) (by decide) (by rw[QH,ns];rfl) S
def IV(hm:X.mg "tuple"=none)(S:aH X Ex Y [a] as)(hg:Gl X "tuple":=by rfl)(ns:noStar a=true:=by rfl):SE X Ex Y (.Call (.Name "tuple" p) [a] [] pos) (aa lB as):=oj m9 DQ hg hm PyProof.Rows.boot_tuple (by decide) (by decide) (by rw[QH,ns];rfl) S
def LN(hm:X.mg "min"=none)(S:aH X Ex Y [a,b] as)(hc:X.calm=true:=by rfl)(hg:Gl X "min":=by rfl)(ns:noStar a=true:=by rfl)(ns2:noStar b=true:=by rfl):SE X Ex Y (.Call (.Name "min" p) [a,b] [] pos) (aa uI as):=fX (BV hc) MC hg hm Ub (by decide) (by decide) (by rw[QH,QH,ns,ns2];rfl) S
def MF(hm:X.mg "min"=none)(S:aH X Ex Y [a] as)(hc:X.calm=true:=by rfl)(hg:Gl X "min":=by rfl)(ns:noStar a=true:=by rfl):SE X Ex Y (.Call (.Name "min" p) [a] [] pos) (aa qN as):=fX (CM hc) EE hg hm Ub (by decide) (by decide) (by rw[QH,ns];rfl) S
def Oo(hm:X.mg "int"=none)(S:aH X Ex Y [a] as)(hg:Gl X "int":=by rfl)(ns:noStar a=true:=by rfl):SE X Ex Y (.Call (.Name "int" p) [a] [] pos) (aa lQ as):=oj C0 BH hg hm PyProof.Rows.boot_int (by decide) (by decide) (by rw[QH,ns];rfl) S
def KN(hm:X.mg "sum"=none)(S:aH X Ex Y [a] as)(hc:X.calm=true:=by rfl)(hg:Gl X "sum":=by rfl)(ns:noStar a=true:=by rfl):SE X Ex Y (.Call (.Name "sum" p) [a] [] pos) (aa AL as):=fX (By hc) HB hg hm PyProof.Rows.boot_sum (by decide) (by decide) (by rw[QH,ns];rfl) S
def IZ(h1:X.mg "list"=none)(h2:X.mg "range"=none)(S:aH X Ex Y [a] as)(hc:X.calm=true:=by rfl)(g1:Gl X "list":=by rfl)(g2:Gl X "range":=by rfl)(ns:noStar a=true:=by rfl):SE X Ex Y (.Call (.Name "list" p) [.Call (.Name "range" p2) [a] [] pos2] [] pos) (aa lu as):=ET hc g1 h1 g2 h2 ns S
def dF(S:aH X Ex Y es as)(ns:es.all noStar=true:=by rfl):SE X Ex Y (.List es pos) (aa cI as):=Lr ns S
def dS{k:Nat}(S:aH X Ex Y es as)(ns:es.all noStar=true:=by rfl):SE X Ex Y (.Tuple es k pos) (aa cy as):=Lx ns S
def OW:SE X Ex Y (.Dict [] [] pos) El:=JR Eu EH
variable{tg:Expr}
def rO(hm:X.mg "range"=none)(S:aH X Ex Y [a] as)(hg:Gl X "range":=by rfl)(ns:noStar a=true:=by rfl):SI X Ex Y tg (.Call (.Name "range" p) [a] [] pos) (jF lD as):=Mz hg hm ns S
def PF(hm:X.mg "range"=none)(S:aH X Ex Y [a,b] as)(hg:Gl X "range":=by rfl)(ns:noStar a=true:=by rfl)(ns2:noStar b=true:=by rfl):SI X Ex Y tg (.Call (.Name "range" p) [a,b] [] pos) (jF CK as):=Nr hg hm ns ns2 S
def Au{x1:Nat}(hm:X.mg "enumerate"=none)(h:SE X Ex Y a d)(hg:Gl X "enumerate":=by rfl)(ns:noStar a=true:=by rfl):SI X Ex Y (.Tuple elts x1 tp) (.Call (.Name "enumerate" p) [a] [] pos) (qK d):=M9 hg hm ns h
def z9{x1:Nat}(hm:X.mg "zip"=none)(h:SE X Ex Y a d)(h2:SE X Ex Y b d2)(hg:Gl X "zip":=by rfl)(ns:noStar a=true:=by rfl)(ns2:noStar b=true:=by rfl):SI X Ex Y (.Tuple elts x1 tp) (.Call (.Name "zip" p) [a,b] [] pos) (B7 d d2):=Nl hg hm ns ns2 h h2
def gN(j:Nat){i:Nat}(hN:X.N[j]?=some x:=by rfl)(hj:Y[j]?=some i:=by rfl)(hl:Loc X.env.scope x:=by first|exact Or.inl rfl|exact Or.inr rfl)(hf:X.fn x=true\/X.env.scope.names.lookup x=some .local:=by first|exact Or.inl rfl|exact Or.inr rfl):fM X Y (.Name x p) (.nm i):=.nm hN hj hl hf
def g0:iY X Y [] []:=.nil
def gC(j:Nat){i:Nat}(t:iY X Y ts is)(hN:X.N[j]?=some x:=by rfl)(hj:Y[j]?=some i:=by rfl)(hl:Loc X.env.scope x:=by first|exact Or.inl rfl|exact Or.inr rfl)(hf:X.fn x=true\/X.env.scope.names.lookup x=some .local:=by first|exact Or.inl rfl|exact Or.inr rfl):iY X Y (.Name x p::ts) (i::is):=.cons hN hj hl hf t
def gT{k:Nat}(t:iY X Y ts is):fM X Y (.Tuple ts k p) (.tp is):=.tp t
def uH:Passes (dY X.prog X.w) X E0:=by rintro pins U H s e s' I⟨_,_,_,_,_,_,_,_,_,_,_,_,_,_,_,z⟩;exact z.elim
def bu{k k':Nat}(F:bX X.prog X.w X.K X.mg X.base k x ps (b8 X.mg X.K ms sp))(hp:Passes (dY X.prog X.w) X Ex)(hr:cQ k' X.A)(S:aH X Ex Y (e::es) as)(hk:k<=k':=by decide)(hg:Gl X x:=by rfl)(hd:(x==("__debug__":Str))=false:=by decide)(ns:(e::es).all noStar=true:=by rfl):SE X Ex Y (.Call (.Name x p) (e::es) [] pos) (aX sp ms as):=HE F hp (hr.mono hk) hg hd ns S
def cS(h:SE X Ex (aL X) a d):S1 X Ex (.Return (some a) pos) (cz d):=MG h
def kE(i:Nat)(hN:X.N[i]?=some x:=by rfl)(hv:jV X.env.scope x:=by first|exact Or.inl rfl|exact Or.inr (Or.inl rfl)|exact Or.inr (Or.inr rfl))(hd:(x==("__debug__":Str))=false:=by decide)(hcd:(x==("__classdict__":Str))=false:=by decide):S1 X Ex (.Return (some (.Name x p)) pos) (gP i):=KH (eN hN hv hd hcd) (aV hN)
def dZ(h:SE X Ex (aL X) a d)(hs:swapsWith a none pos.line X.env=pure false:=by rfl):S1 X Ex (.Expr a pos) (cO d):=KQ h hs
def aW(i:Nat)(hN:X.N.Nodup)(h:SE X Ex (aL X) a d)(hi:X.N[i]?=some x:=by rfl)(hl:Loc X.env.scope x:=by first|exact Or.inl rfl|exact Or.inr rfl)(hs:swapsWith a (some (.Name x p)) pos.line X.env=pure false:=by rfl)(hf:X.fn x=true\/X.env.scope.names.lookup x=some .local:=by first|exact Or.inl rfl|exact Or.inr rfl) : S1 X Ex (.Assign [.Name x p] a pos) (aG i d):=Nc hN hi hl hs hf h
def qq{k:Nat}(hN:X.N.Nodup)(ht:iY X (aL X) ts is)(h:SE X Ex (aL X) a d)(hc:X.calm=true:=by rfl)(hs:swapsWithSole [.Tuple ts k p] a pos.line X.env=pure false:=by rfl)(hw:swappedStores [.Tuple ts k p] a X.env=pure none:=by rfl):S1 X Ex (.Assign [.Tuple ts k p] a pos) (kN is d):=Mx hc hN ht hs hw h
def zA(i:Nat)(hu:X.A.units+64<cLine)(hd:SE X Ex (aL X) a de)(hd2:SE X Ex (aL X) b dj)(hN:X.N[i]?=some x:=by rfl)(hv:jV X.env.scope x:=by first|exact Or.inl rfl|exact Or.inr (Or.inl rfl)|exact Or.inr (Or.inr rfl))(hs:swapsWithSole [.Subscript (.Name x p) b pos'] a pos.line X.env=pure false:=by rfl)
  (ha:∀v,assign (.Subscript (.Name x p) b pos') X.env v=(do
   let ov <-holding [v] (eval (.Name x p) X.env)
   let iv <-holding [v,ov] (eval b X.env)
   standAt pos'
   holding [v,ov,iv] (setItem ov iv v)
   release [v,ov,iv] []):=by intro _;rfl)(hb:(x==("__debug__":Str))=false:=by decide)(hcd:(x==("__classdict__":Str))=false:=by decide):S1 X Ex (.Assign [.Subscript (.Name x p) b pos'] a pos) (i7 i dj de):=MD hu (eN hN hv hb hcd) (iz (aV hN)) hs ha hd hd2
def gB(hc:ST X Ex (aL X) a t)(ha:SS X Ex u d)(hb:SS X Ex v e):S1 X Ex (.If a u v pos) (cJ t d e):=Oh hc ha hb
def BL(hp:PassesOwn (model X.prog X.w) X.A X.env X.xe)(hc:ST X Ex (aL X) a t)(hb:SS X Ex u d):S1 X Ex (.While a u [] pos) (nY t d):=Ib hp hc hb
def iW(hp:PassesOwn (model X.prog X.w) X.A X.env X.xe)(hN:X.N.Nodup)(hi:SI X Ex (aL X) tg a di)(ht:fM X (aL X) tg t)(hb:SS X Ex u d)(hc:X.calm=true:=by rfl)(hs:∀x,foldedSetIterable a X.env x=pure x:=by intro _;rfl):S1 X Ex (.For tg a u [] pos) (fG di t d):=MN hp hc hN hi ht hb hs
end
section
variable{X:Cx}{Ex:XK}{Y:VI}
def e0:pH X Ex Y [] []:=.nil
def eC(h:SE X Ex Y e d)(t:pH X Ex Y es ds):pH X Ex Y (e::es) (d::ds):=.cons h t
def xM(j:Nat){i:Nat}{x name:Str}{id:String}{p apos cpos:Pos}{es:VG}{ds:List DE}{f:DM}{r:V->List V->Hp->VK->Prop}(hm:vZ X id r)(D:vC X.K f r)(slot:Slot "list" name id)(hty:typeOf (.builtin id)=pure (.type "method_descriptor"))(S:pH X Ex Y es ds)(hN:X.N[j]?=some x:=by rfl)(hv:jV X.env.scope x:=by first|exact Or.inl rfl|exact Or.inr (Or.inl rfl)|exact Or.inr (Or.inr rfl))(hj:Y[j]?=some i:=by rfl)(ns:es.all noStar=true:=by rfl)(l30:decide (es.length<30)=true:=by rfl)(hline:(apos.endLine==cpos.line)=true:=by rfl)(hd:(x==("__debug__":Str))=false:=by decide)(hcd:(x==("__classdict__":Str))=false:=by decide):SE X Ex Y (.Call (.Attribute (.Name x p) name apos) es [] cpos) (jZ f i ds):=Mq hm D slot hty (eN hN hv hd hcd) hj ns (RK l30) hline S
noncomputable def jL:VI->Bool
 |[]=>true
 |a::r=>!r.contains a&&jL r
theorem gw:∀{l:VI},jL l=true->l.Nodup
 |[],_=>Rv
 |a::r,h=>by rw[jL,QA,UZ,So,decide_eq_false_iff_not]at h;exact RE.mpr ⟨h.1,gw h.2⟩
noncomputable def vo (Y cs ix:VI)(vs:VL)(sl:VI):Bool:=(cs.length==vs.length)&&ix.all (λi=>Nat.blt i Y.length)&&cs.all (λc=>!Y.contains c)&&jL (bR Y cs ix)&&sl.all (λi=>cs.contains i)
def vh(h:vo Y cs ix vs sl=true):cs.length=vs.length/\(∀i∈ix,i<Y.length)/\(∀c∈cs,c∉Y)/\(bR Y cs ix).Nodup/\∀i∈sl,i∈cs:=by unfold vo at h;rw[QA,QA,QA,QA,QY,QY,QY,beq_iff_eq]at h;obtain⟨⟨⟨⟨h1,h2⟩,h3⟩,h4⟩,h5⟩:=h;refine⟨h1,λi hi=>by simpa using h2 i hi,λc hc z=>?_,gw h4,λi hi=>?_⟩;{have:=h3 c hc;rw[UZ,So,decide_eq_false_iff_not]at this;exact this z};have:=h5 i hi;rw[So,Rf]at this;exact this
noncomputable def JJ (r:Ur):Bool:=r.all λg=>g.is_async==0
def Dl(h:JJ r=true):∀g∈r,g.is_async=0:=λg hg=>by have:=QY.mp h g hg;simpa using this
variable{cs:VI}{elt tg iter:Expr}{ifs:VG}{scope:Scope}{pos:Pos}
def sQ{rest:Ur}{vs NB:VL}{ix:VI}{di:DI}{t:Tg}{c:DT}{r:DC}(B:lY X.N X.env.scope scope vs NB ix=true)(hi:SI X Ex Y tg iter di)(ht:∀(C:Addr)(s:Shared)(H:Hp)(fp:VE),fM (X.block scope C NB s H fp) (bR Y cs ix) tg t)(hif:∀(C:Addr)(s:Shared)(H:Hp)(fp:VE),jv (X.block scope C NB s H fp) E0 (bR Y cs ix) ifs c)(hr:∀(C:Addr)(s:Shared)(H:Hp)(fp:VE)(D:Addr),SL (X.block scope C NB s H fp) (bR Y cs ix) cs D elt (⟨tg,iter,ifs,0⟩::rest) scope pos 1 r)(hc:X.calm=true:=by rfl)(ck:vo Y cs ix vs t.slots=true:=by rfl)(ha:JJ rest=true:=by rfl)(hs:∀v,foldedSetIterable iter X.env v=pure v:=by intro _;rfl):SE X Ex Y (.ListComp elt (⟨tg,iter,ifs,0⟩::rest) scope pos) (cV cs di t c r):=
 let⟨h1,h2,h3,h4,h5⟩:=vh ck
 KU (bW.of B) hc h1 h2 h3 h4 hi ht h5 hif hr (Dl ha) hs
def v9{j:Nat}{y:Str}{py spos:Pos}{rest:Ur}{vs NB:VL}{ix:VI}{di:DI}{t:Tg}{c:DT}{r:DC}(hN:X.N.Nodup)(B:lY X.N X.env.scope scope vs NB ix=true)(hi:SI X Ex (aL X) tg iter di)(ht:∀(C:Addr)(s:Shared)(H:Hp)(fp:VE),fM (X.block scope C NB s H fp) (bR (aL X) cs ix) tg t)(hif:∀(C:Addr)(s:Shared)(H:Hp)(fp:VE),jv (X.block scope C NB s H fp) E0 (bR (aL X) cs ix) ifs c)(hr:∀(C:Addr)(s:Shared)(H:Hp)(fp:VE)(D:Addr),SL (X.block scope C NB s H fp) (bR (aL X) cs ix) cs D elt (⟨tg,iter,ifs,0⟩::rest) scope pos 1 r)(hj:X.N[j]?=some y:=by rfl)(hy:X.env.scope.names.lookup y=some .local:=by rfl)(hsw:swapsWith (.ListComp elt (⟨tg,iter,ifs,0⟩::rest) scope pos) (some (.Name y py)) spos.line X.env=pure true:=by rfl)(hc:X.calm=true:=by rfl)(ck:vo (aL X) cs ix vs t.slots=true:=by rfl)(ha:JJ rest=true:=by rfl)(hs:∀v,foldedSetIterable iter X.env v=pure v:=by intro _;rfl):S1 X Ex (.Assign [.Name y py] (.ListComp elt (⟨tg,iter,ifs,0⟩::rest) scope pos) spos) (aG j (cV cs di t c r)):=
 let⟨h1,h2,h3,h4,h5⟩:=vh ck
 MI hN hj hy (bW.of B) hc h1 h2 h3 h4 hi ht h5 hif hr (Dl ha) hs hsw
def gR{D:Addr}{k:Nat}(h:SE X E0 Y elt d)(hk:gens[k]?=none:=by rfl):SL X Y cs D elt gens scope pos k (cW sizeLine d):=Ho h hk
noncomputable def tN:PyData->Option String
 |.none=>some "NoneType"
 |.bool _=>some "bool"
 |.int _=>some "int"
 |.str _=>some "str"
 |.list _=>some "list"
 |.tuple _=>some "tuple"
 |.dict _=>none
noncomputable def iA (c t:String):Bool:=t==c||(c == "int" && t == "bool")
noncomputable def B9 (c:String):DR:=λds P=>match ds with
 |[d]=>aq (tN d) λt=>P .sh (.bool (iA c t))
 |_=>False
noncomputable def tys:List String:=["NoneType","bool","int","str","list","tuple"]
noncomputable def vI (K:Frag)(cs:List String):Bool:=cs.all λc=>tys.all λt=>kitOne K (.type t) (.type c)==some (iA c t)
def Lw{K:Frag}{cs:List String}(h:vI K cs=true){c t:String}(hc:c∈cs)(ht:t∈tys):kitOne K (.type t) (.type c)=some (iA c t):=by have:=QY.mp (QY.mp h c hc) t ht;simpa using this
def MR(s:ah Hm H)(r:Rp K Hm v d)(h:tN d=some t):fK K H v (.type t)/\t∈tys:=by
 cases r with
 |aU=>cases h;exact⟨.aU,by decide⟩
 |bl b=>cases h;exact⟨.bl b,by decide⟩
 |int i=>cases h;exact⟨.int i,by decide⟩
 |str x=>cases h;exact⟨.str x,by decide⟩
 |lst a _=>cases h;refine⟨?_,by decide⟩;rcases a with (a|⟨o,a⟩)|⟨its,n,a,_⟩;{exact .lst (s _ _ a)};{exact .dI (s _ _ a)};exact .kl a
 |tup a _=>cases h;exact⟨.tup (s _ _ a),by decide⟩
 |dk _ _=>cases h
 |dt _ _=>cases h
 |exc _ _=>cases h
def Lm{css:List String}(kf:vI X.K css=true)(hc:css.contains c=true)(hm:X.mg "isinstance"=none)(hm2:X.mg x=none)(hv:bootBuiltins x=some (.type c))(hg:Gl X "isinstance")(hg2:Gl X x)(hn:x≠"__name__")(hd:(x==("__debug__":Str))=false)(ns:noStar a=true)(S:aH X Ex Y [a] as) : SE X Ex Y (.Call (.Name "isinstance" p) [a,.Name x p2] [] pos) (aa (B9 c) as):=by refine fj (r:=λvs H Q=>∃v t,vs=[v]/\fK X.K H v (.type t)/\t∈tys/\Q (.bl (iA c t)) H) S (λU H Q h=>WE.of (xm Ft hg hm PyProof.Rows.boot_isinstance (gh aS (gh (HJ (v:=.ty c) hg2 hm2 hv rfl hn hd) lU) (aO ns)) (by decide) (by decide) (aO ns) (by rfl)) ?_) ?_;{refine λpins s I=>aJ (h pins s I) λv s1 ⟨y,H1,I1,r1,w,t,e,ty,ht,q⟩=>⟨y,H1,I1,r1,?_⟩;cases e;refine⟨_,_,_,_,rfl,ty,λu hu=>?_,q⟩;cases hu;exact Lw kf (by simpa using hc) ht};intro H Hm vs ds P Q s r h q;unfold B9 at h;split at h;{obtain⟨v,rfl,h1⟩:=dB r;rw[<-aR]at h;obtain⟨t,e,h⟩:=h;obtain⟨ty,ht⟩:=MR s h1 e;exact⟨v,t,rfl,ty,ht,bz.sc q s h (.bl _)⟩};exact h.elim
def OO(kf:vI X.K css=true)(hm:X.mg "isinstance"=none)(hm2:X.mg x=none)(hv:bootBuiltins x=some (.type c))(S:aH X Ex Y [a] as)(hc:css.contains c=true:=by decide)(hg:Gl X "isinstance":=by rfl)(hg2:Gl X x:=by rfl)(hn:x≠"__name__":=by decide)(hd:(x==("__debug__":Str))=false:=by decide)(ns:noStar a=true:=by rfl) : SE X Ex Y (.Call (.Name "isinstance" p) [a,.Name x p2] [] pos) (aa (B9 c) as):=Lm kf hc hm hm2 hv hg hg2 hn hd ns S
end
end Dv
namespace Dv
open PySem L2 PySem.W
open Classical in
noncomputable def Gh.fW (g:Gh)(H:Hp)(fp:VE):Gh:=⟨λa=>if a∈fp then H a else g.H0 a,λa=>if a∈fp then none else g.c9 a,g.pins⟩
section
variable{K:Frag}{g:Gh}{E:En}{U:St}{H H' Hm Hm':Hp}{F:Nat->VE}{fp:VE}
def l0{a:Addr}(h:a∈fp):(g.fW H fp).H0 a=H a:=by unfold Gh.fW;exact if_pos h
def f7{a:Addr}(h:a∉fp):(g.fW H fp).H0 a=g.H0 a:=by unfold Gh.fW;exact if_neg h
def CA{a:Addr}(h:a∈fp):(g.fW H fp).c9 a=none:=by unfold Gh.fW;exact if_pos h
def ya{a:Addr}(h:a∉fp):(g.fW H fp).c9 a=g.c9 a:=by unfold Gh.fW;exact if_neg h
structure m6(g:Gh)(F:Nat->VE)(H Hm:Hp)(fp:VE):Prop where
 yN:∀a∈fp,∃u,H a=some u/\nC u
 off:∀a∈fp,Hm a=none
 aD:∀a∈fp,∀i,a∉F i
 new:∀a∈fp,g.H0 a=none
def m6.aT(A:m6 g F H Hm fp):∀a∈fp,H a≠none:=λa ha z=>by obtain⟨u,hu,_⟩:=A.yN a ha;rw[z]at hu;cases hu
def m6.notM(A:m6 g F H Hm fp)(R:Rl K g E U H Hm F):∀a∈fp,a∉g.M:=λa ha m=>by obtain⟨q,hq,rfl⟩:=Q9.mp m;exact A.aD _ ha q.1 (by rw[R.wU hq];exact Q4)
theorem Rl.fW(R:Rl K g E U H Hm F)(A:m6 g F H Hm fp):Rl K (g.fW H fp) E U H Hm F where
 len:=R.len
 sub:=R.sub
 slot:=R.slot
 off:=R.off
 aT:=R.aT
 aD:=R.aD
 fr:=λp o hp ho=>by
  by_cases c:p∈fp
  .rw[l0 c]at ho;exact ho
  .rw[f7 c]at ho;exact R.fr p o hp ho
 new:=λi a ha=>by
  have c:a∉fp:=λz=>A.aD a z i ha
  rw[f7 c];exact R.new i a ha
 pin:=R.pin
 old:=λa ha=>by
  by_cases c:a∈fp
  .rw[CA c];exact .inl (A.off a c)
  .rw[f7 c]at ha;rw[ya c];exact R.old a ha
def Rl.vV{F':Nat->VE}(A:m6 g F H Hm fp)(nM:∀a∈fp,a∉g.M)(R:Rl K (g.fW H fp) E' σ' H' Hm' F'):Rl K g E' σ' H' Hm' F'/\m6 g F' H' Hm' fp/\∀a∈fp,H' a=H a:=by
 have keep:∀a∈fp,H' a=H a:=λa ha=>by
  cases e:H a with
  |none=>exact absurd e (A.aT a ha)
  |some o=>exact R.fr a o (nM a ha) (by rw[l0 ha];exact e)
 refine⟨?_,⟨λa ha=>by rw[keep a ha];exact A.yN a ha,λa ha=>?_,λa ha i z=>?_,A.new⟩,keep⟩
 .exact {
   len:=R.len
   sub:=R.sub
   slot:=R.slot
   off:=R.off
   aT:=R.aT
   aD:=R.aD
   fr:=λp o hp ho=>by
    have c:p∉fp:=λz=>by rw[A.new p z]at ho;cases ho
    exact R.fr p o hp (by rw[f7 c];exact ho)
   new:=λi a ha=>by
    rcases R.new i a ha with m|m
    .exact .inl m
    .by_cases c:a∈fp
     .exact .inr (A.new a c)
     .rw[f7 c]at m;exact .inr m
   pin:=R.pin
   old:=λa ha=>by
    have c:a∉fp:=λz=>ha (A.new a z)
    have h':=R.old a (by rw[f7 c];exact ha)
    rw[ya c]at h';exact h' }
 .have h':=R.old a (by rw[l0 ha];exact A.aT a ha);obtain⟨u,hu,nt⟩:=A.yN a ha;exact h'.off (CA ha) R.sub (by rw[keep a ha];exact hu) nt
 rcases R.new i a z with m|m;{exact nM a ha m};rw[l0 ha]at m;exact A.aT a ha m
def dG.snoc{b:Addr}(e:H b=some (.lst ys))(r:au K Hm ys es)(i:dG K H Hm xs ds fp):b∉fp->dG K H Hm (xs++[.ref b]) (ds++[.list es]) (fp++[b]):=by
 induction i with
 |nil=>exact λn=>.own e r n .nil
 |jK h1 h2 t ih=>exact λn=>.jK h1 h2 (ih n)
 |own h1 h2 h3 t ih=>intro n;refine .own h1 h2 (λz=>?_) (ih λz=>n (QB _ z));rcases QL.mp z with z|z;{exact h3 z};exact n (Q8.mp z▸Q4)
theorem dG.get:∀{xs:List V}{ds:VB}{fp:VE}{m:Nat},dG K H Hm xs ds fp->ds[m]?=some (.list es)->∃b ys,xs[m]?=some (.ref b)/\H b=some (.lst ys)/\au K Hm ys es/\b∈fp
 |_,_,_,_,.nil,h=>by simp at h
 |_,_,_,0,.jK e _ _,h=>by simp at h;rw[h]at e;cases e
 |_,_,_,m+1,.jK _ _ t,h=>t.get (m:=m) (by simpa using h)
 |_,_,_,0,.own e r _ _,h=>by simp at h;subst h;exact⟨_,_,rfl,e,r,Q4⟩
 |_,_,_,m+1,.own _ _ _ t,h=>by obtain⟨b,ys,h1,h2,h3,h4⟩:=t.get (m:=m) (by simpa using h);exact⟨b,ys,h1,h2,h3,QB _ h4⟩
theorem dG.put{b:Addr}(r:au K Hm ys new):∀{xs:List V}{ds:VB}{fp:VE}{m:Nat},dG K H Hm xs ds fp->xs[m]?=some (.ref b)->(∃es,ds[m]?=some (.list es))->dG K (upd H b (.lst ys)) Hm xs (ds.set m (.list new)) fp
 |_,_,_,_,.nil,h,_=>by simp at h
 |_,_,_,0,.jK e _ _,_,⟨es,h⟩=>by simp at h;rw[h]at e;cases e
 |_,_,_,m+1,.jK e h2 t,h,⟨es,h'⟩=>.jK e h2 (t.put (m:=m) r (by simpa using h) ⟨es,by simpa using h'⟩)
 |_,_,_,0,.own (b:=b') e r' n t,h,_=>by simp at h;subst h;exact .own ay r n (t.step (ah.refl _) λa ha=>ai λz=>n (z▸ha))
 |_,_,_,m+1,.own (b:=b') (fp:=fp) e r' n t,h,⟨es,h'⟩=>by have h:_:=h;obtain⟨b2,ys2,g1,g2,g3,g4⟩:=t.get (m:=m) (es:=es) (by simpa using h');simp at h;rw[h]at g1;cases g1;refine .own (by rw[ai (show b'≠b from λz=>n (by rw[z];exact g4))];exact e) r' n (t.put (m:=m) r h ⟨es,by simpa using h'⟩)
def Rl.Oc(R:Rl K g E U H Hm F){i:Nat}{b:Addr}(e:E[i]?=some (some (k,d)))(hv:U[i]?=some (some v))(hb:b∈F i)(new:Own K (upd H b o) Hm k v d' (F i))(nt:nC o)(hp:k=.ow true->∃ds,d'=.list ds) : Rl K g (E.set i (some (k,d'))) U (upd H b o) Hm F:=by
 have na:=R.off i b hb;have up:∀c,c≠b->upd H b o c=H c:=λc hc=>ai hc;have li:=aV e;exact {
  len:=by rw[QX];exact R.len
  sub:=λc u hc=>by
   have:c≠b:=λz=>by rw[z,na]at hc;cases hc
   rw[up c this];exact R.sub c u hc
  slot:=λj k' d'' e'=>by
   by_cases c:j=i
   .subst c;rw[aB li]at e';cases e';exact⟨_,hv,new⟩
   .rw[aj (Ne.symm c)]at e';obtain⟨u,g1,g2⟩:=R.slot j k' d'' e';refine⟨u,g1,g2.step (ah.refl _) λa ha=>up a λz=>c (R.aD j i b (z▸ha) hb)⟩
  off:=R.off
  aT:=λj a ha=>by
   by_cases c:a=b
   .rw[c];exact⟨_,ay,nt⟩
   .rw[up a c];exact R.aT j a ha
  aD:=R.aD
  fr:=λq u hq ho=>by
   have:q≠b:=λz=>by
    rcases R.new i b hb with y|y
    .exact hq (z▸y)
    .rw[z,y]at ho;cases ho
   rw[up q this];exact R.fr q u hq ho
  new:=R.new
  pin:=λq hq=>by
   obtain⟨g1,ds',g2⟩:=R.pin q hq
   by_cases c:i=q.1
   .rw[<-c]at g1 g2⊢;rw[e]at g2;cases g2;obtain⟨ds,rfl⟩:=hp rfl;exact⟨g1,ds,aB li⟩
   .exact⟨g1,ds',by rw[aj c];exact g2⟩
  old:=R.old }
def HF(h:b6 t d E=some E'):E'.length=E.length:=by
 have go:∀{is:VI}{ds:VB}{E E':En},bf is ds E=some E'->E'.length=E.length:=by
  intro is;induction is with
  |nil=>intro ds E E' h;cases ds with|nil=>cases h;rfl|cons _ _=>cases h
  |cons j is ih=>
   intro ds E E' h;cases ds with
   |nil=>cases h
   |cons d ds=>rw[bf]at h;by_cases o:bx E j=true;{rw[if_pos o]at h;rw[ih h,QX]};rw[if_neg o]at h;cases h
 cases t with
 |nm j=>exact go (is:=[j]) h
 |tp js=>
  cases d with
  |tuple ds=>exact go (is:=js) h
  |_=>cases h
 |nt j js=>obtain⟨a,ds,rfl,h⟩:=tE h;exact go (is:=j::js) h
end
section
variable{X:Cx}{Ex:XK}{Y cs:VI}{elt tg iter:Expr}{ifs:VG}{scope:Scope}{pos:Pos}
def Ea{vs:VL}{t:Tg}(B:bW X scope vs NB ix)(hc:X.calm=true)(hcs:cs.length=vs.length)(hix:∀i∈ix,i<Y.length)(aD:∀c∈cs,c∉Y)(nd:(bR Y cs ix).Nodup)(hi:SI X Ex Y tg iter di)(ht:∀(C:Addr)(s:Shared)(H:Hp)(fp:VE),fM (X.block scope C NB s H fp) (bR Y cs ix) tg t)(hts:∀i∈t.slots,i∈cs)(hif:∀(C:Addr)(s:Shared)(H:Hp)(fp:VE),jv (X.block scope C NB s H fp) E0 (bR Y cs ix) ifs c)(hr:∀(C:Addr)(s:Shared)(H:Hp)(fp:VE),SE (X.block scope C NB s H fp) E0 (bR Y cs ix) elt e)(hs:∀v,foldedSetIterable iter X.env v=pure v){w:(V->Hp->Prop)->St->Hp->Prop}(hw:∀{wi:TI}{G:TG}{tt:TT}{tr:TL}{U:St}{H:Hp}{Q:VK},PI X tg iter wi->(∀(C:Addr)(s:Shared)(H:Hp)(fp:VE),PG (X.block scope C NB s H fp) tg G)->(∀(C:Addr)(s:Shared)(H:Hp)(fp:VE),uq (X.block scope C NB s H fp) ifs tt)-> (∀(C:Addr)(s:Shared)(H:Hp)(fp:VE)(D:Addr),PL (X.block scope C NB s H fp) D elt (⟨tg,iter,ifs,0⟩::[]) scope pos 1 tr)->rH wi vs.length ix G tt tr U H Q->w Q U H)(g:Gh)(x:XC)(E:En)(U:St)(H Hm:Hp)(F:Nat->VE)(P:En->Kd->PyData->Prop)(Q:VK)(hx:XL X Ex x g)(R:Rl X.K g E U H Hm F)(p:nW sizeLine cs di t c e x E P)(q:∀E' k v u H' Hm' F' fp,P E' k v->Rl X.K g E' U H' Hm' F'->ah Hm Hm'->Tm X.K g F' H' Hm' k u v fp->Q u H'):w Q (sel Y U) H:=by
 obtain⟨wi,hpi,hwi⟩:=hi;refine hw (wi:=wi) (G:=λv U H Q=>∀(C:Addr)(s:Shared)(H2:Hp)(fp:VE),WG (X.block scope C NB s H2 fp) tg v U H Q) (tt:=λU H Q=>∀(C:Addr)(s:Shared)(H2:Hp)(fp:VE),wj (X.block scope C NB s H2 fp) ifs U H Q)
  (tr:=G0 λU H Q=>∀(C:Addr)(s:Shared)(H2:Hp)(fp:VE),WE (X.block scope C NB s H2 fp) elt U H Q) hpi (λC s H2 fp pins s' U H v u Q I r h=>h C s H2 fp pins s' u I r) (λC s H2 fp pins s' U H Q I h=>h C s H2 fp pins s' I)
  (λC s H2 fp D=>yh (λpins s' U H Q I h=>h C s H2 fp pins s' I)) ?_
 refine hwi g x E U H Hm F _ _ hx R p λE1 xs J H1 Hm1 F1 p1 R1 s1 it1=>?_;obtain⟨E0',I,hcl,i0,step,fin⟩:=p1;obtain⟨σ0,F0,R0,a0,n0⟩:=R1.aZ hcl;rw[<-hcs,yy hix aD a0 λc hc=>(n0 c hc).1];refine⟨λi m ys τ H'=>m=xs.length-i/\i<=xs.length/\∃E' dys' σ' Hm' F' fp,I i dys' E'/\Rl X.K g E' σ' H' Hm' F'/\ah Hm1 Hm'/\dG X.K H' Hm' ys dys' fp/\m6 g F' H' Hm' fp/\Agree cs σ0 σ'/\τ=sel (bR Y cs ix) σ',
  ⟨xs.length,by simp,Qt _,E0',[],σ0,Hm1,F0,[],i0,R0,ah.refl _,.nil,⟨(λ_ z=>by cases z),(λ_ z=>by cases z),(λ_ z=>by cases z),λ_ z=>by cases z⟩,Agree.refl _ _,rfl⟩,?_⟩
 rintro i m ys τ H2⟨rfl,hi,E2,dys2,σ2,Hm2,F2,fp,i2,R2,s2,r2,A2,a2,rfl⟩;obtain⟨go,stop⟩:=it1 i H2 Hm2 s2 R2.sub;by_cases c':i<xs.length
 .obtain⟨go,oZ⟩:=go xs[i] (QO c');refine .inr ⟨go,λys τ H'=>i+1<=xs.length/\∃E' dys' σ' Hm' F' fp,I (i+1) dys' E'/\Rl X.K g E' σ' H' Hm' F'/\ah Hm1 Hm'/\dG X.K H' Hm' ys dys' fp/\m6 g F' H' Hm' fp/\Agree cs σ0 σ'/\τ=sel (bR Y cs ix) σ',λys τ H' z=>⟨xs.length-(i+1),by lia,rfl,z⟩,λx H3 y C s H9 fp9=>?_⟩;obtain⟨Hm3,t1,t2,t3,old,rx⟩:=oZ x H3 y;have R3:=R2.turn t1 t2 t3 old;have k3:∀a∈fp,H3 a=H2 a:=λa ha=>by
   cases e:H2 a with
   |none=>exact absurd e (A2.aT a ha)
   |some o=>exact t3 _ _ e
  have A3:m6 g F2 H3 Hm3 fp:=⟨λa ha=>by rw[k3 a ha];exact A2.yN a ha,λa ha=>by
   obtain⟨u,hu,nt⟩:=A2.yN a ha;exact(old a (A2.aT a ha)).off (A2.off a ha) t2 (t3 _ _ hu) nt,A2.aD,A2.new⟩
  have r3:=r2.step (H':=H3) t1 k3;have nM:=A3.notM R3;obtain⟨E4,e4,p4⟩:=step i xs[i] dys2 E2 (QO c') i2;obtain⟨G,g1,g2⟩:=uJ (X:=X.block scope C NB s H9 fp9) hc B.nd nd (ht C s H9 fp9);refine WG.of g1 (g2 (g:=g.fW H3 fp) e4 rx (R3.fW A3) λσ4 F4 R4 ag=>?_);have a4:Agree cs σ0 σ4:=a2.trans ⟨by rw[<-R3.len,<-R4.len,HF e4],λj hj=>ag j λz=>hj (hts j z)⟩;intro C2 s2' H92 fp92;refine(hif C2 s2' H92 fp92).ok XL.no R4 p4 λE5 b H5 Hm5 F5 p5 R5 s5=>?_;cases b with
  |true=>
   refine l7 λC3 s3' H93 fp93=>?_;refine hr C3 s3' H93 fp93 (g.fW H3 fp) xF E5 σ4 H5 Hm5 F5 _ _ XL.no R5 (by rw[if_pos rfl]at p5;exact p5) λE6 k6 v6 u6 H6 Hm6 F6 fp6 p6 R6 s6 T6=>?_;obtain⟨⟨pb,rfl⟩,hl,p6⟩:=p6;obtain⟨R6',A6,k6⟩:=Rl.vV A3 nM R6;have T1:=T6.own;have hlen:ys.length=dys2.length:=by
    have:∀{xs:List V}{ds:VB}{fp:VE}{H Hm:Hp},dG X.K H Hm xs ds fp->xs.length=ds.length:=by
     intro xs ds fp H Hm h;induction h with
     |nil=>rfl
     |jK _ _ _ ih=>rw[QJ,QJ,ih]
     |own _ _ _ _ ih=>rw[QJ,QJ,ih]
    exact this r2
   cases T1 with
   |@ow _ b zs es hb rz=>
    have nb:b∉fp:=λz=>by have:=T6.new b Q4;rw[l0 z]at this;exact A3.aT b z this
    have r6:=(r3.step (H':=H6) (s5.trans s6) k6).snoc hb rz nb;refine⟨by rw[hlen];exact hl,c',E6,_,σ4,Hm6,F6,fp++[b],p6,R6',s2.trans (t1.trans (s5.trans s6)),r6,⟨λa ha=>?_,λa ha=>?_,λa ha=>?_,λa ha=>?_⟩,a4,rfl⟩;{rcases QL.mp ha with ha|ha;{exact A6.yN a ha};rw[Q8.mp ha];exact⟨_,hb,j9⟩};{rcases QL.mp ha with ha|ha;{exact A6.off a ha};rw[Q8.mp ha];exact T6.off b Q4};{rcases QL.mp ha with ha|ha;{exact A6.aD a ha};rw[Q8.mp ha];exact T6.aD b Q4};rcases QL.mp ha with ha|ha;{exact A6.new a ha};rw[Q8.mp ha];have:=T6.new b Q4;rw[f7 nb]at this;exact this
  |false=>obtain⟨R5',A5,k5⟩:=Rl.vV A3 nM R5;exact l6 ⟨c',E5,dys2,σ4,Hm5,F5,fp,by simpa using p5,R5',s2.trans (t1.trans s5),r3.step (H':=H5) s5 k5,A5,a4,rfl⟩
 have e:i=xs.length:=by lia
 subst e;refine .inl ⟨stop (Q7 _),λp hp=>?_⟩;obtain⟨E3,hcl2,p2⟩:=fin _ _ i2;obtain⟨σ3,F3,R3p,a3,n3⟩:=(R2.fW A2).aZ hcl2;obtain⟨R3,A3,_⟩:=Rl.vV A2 (A2.notM R2) R3p;have R3':=R3.agree (cs:=cs) ((a0.trans a2).trans a3).symm λc hc=>(n3 c hc).2;have s3:=bQ (o:=.lst ys) hp;have R4:=R3'.grow (H':=upd H2 p (.lst ys)) s3 (ah.refl _) (R3'.sub.trans s3) (λi a ha=>R3'.off i a ha) λ_ _=>.inl rfl;have np:p∉fp:=λz=>A2.aT p z hp;refine q _ _ _ _ _ Hm2 F3 (p::fp) p2 R4 (s1.trans s2) ⟨.dp ay np (r2.step (H':=upd H2 p (.lst ys)) (ah.refl _) λa ha=>ai λz=>np (z▸ha)),λa ha=>?_,λa ha i=>?_,λa ha=>?_⟩;{rcases QG.mp ha with rfl|ha;{exact R3'.q8 hp};exact A2.off a ha};{rcases QG.mp ha with rfl|ha;{exact R3'.fresh hp};exact A3.aD a ha i};rcases QG.mp ha with rfl|ha;{exact R3'.eL hp};exact A2.new a ha
end
section
variable{X:Cx}{Ex:XK}{Y cs:VI}{elt tg iter:Expr}{ifs:VG}{scope:Scope}{pos:Pos}
def OD{j:Nat}(hN:X.N.Nodup)(B:lY X.N X.env.scope scope vs NB ix=true)(hi:SI X Ex (aL X) tg iter di)(ht:∀(C:Addr)(s:Shared)(H:Hp)(fp:VE),fM (X.block scope C NB s H fp) (bR (aL X) cs ix) tg t)(hif:∀(C:Addr)(s:Shared)(H:Hp)(fp:VE),jv (X.block scope C NB s H fp) E0 (bR (aL X) cs ix) ifs c)(hr:∀(C:Addr)(s:Shared)(H:Hp)(fp:VE),SE (X.block scope C NB s H fp) E0 (bR (aL X) cs ix) elt e)(hj:X.N[j]?=some y:=by rfl)(hy:X.env.scope.names.lookup y=some .local:=by rfl)(hsw:swapsWith (.ListComp elt [⟨tg,iter,ifs,0⟩] scope pos) (some (.Name y py)) spos.line X.env=pure true:=by rfl)(hc:X.calm=true:=by rfl)(ck:vo (aL X) cs ix vs t.slots=true:=by rfl)(hs:∀v,foldedSetIterable iter X.env v=pure v:=by intro _;rfl):S1 X Ex (.Assign [.Name y py] (.ListComp elt [⟨tg,iter,ifs,0⟩] scope pos) spos) (aG j (nW sizeLine cs di t c e)):=by
 obtain⟨h1,h2,h3,h4,h5⟩:=vh ck;have B':bW X scope vs NB ix:=bW.of B;have ha:∀g∈([]:Ur),g.is_async=0:=λ_ z=>by cases z
 rw[sW];intro g D' E U H Hm F D hx R p nx rt;refine Ea B' hc h1 h2 h3 h4 hi ht h5 hif hr hs (w:=λQ τ H=>(Q=λu H1=>D.nx (τ.set j (some u)) H1)->WS X (.Assign [.Name y py] (.ListComp elt [⟨tg,iter,ifs,0⟩] scope pos) spos) D τ H)
  (λg1 g2 g3 g4 g5 e=>by
   subst e;exact WS.of (vf hN hj hy B' hc g1 g2 g3 g4 hsw ha hs) g5) g D'.xc E U H Hm F _ _ hx R p (λE' k v u H' Hm' F' fp p' R' s' T=>?_) rfl
 rw[jr Rg (iz (aV hj)) (R'.len▸gr p'.1)];exact nx _ _ _ _ _ p'.2 (R'.put T p'.1) s'
def EL{i n:Nat}(h:cM E n=some E')(ne:i≠n):E'[i]?=E[i]?:=by unfold cM at h;split at h;{split at h;{cases h;exact aj (Ne.symm ne)};cases h};cases h
def Lk{x y name:Str}{id:String}{p yp sp apos cpos:Pos}{jx:Expr}{f:DM}{r:V->List V->Hp->VK->Prop}{dj:DE}{i j n jn:Nat}(hm:vZ X id r)(D:vC X.K f r)(slot:Slot "list" name id)(hty:typeOf (.builtin id)=pure (.type "method_descriptor"))(hv:PE X (.Name x p) (jw j))(hj:Y[j]?=some i)(hy:PE X (.Name y yp) (jw jn))(hjn:Y[jn]?=some n)(hs:lI jx)(hd:SE X Ex Y jx dj)(hline:(apos.endLine==cpos.line)=true) : SE X Ex Y (.Call (.Attribute (.Subscript (.Name x p) jx sp) name apos) [.Name y yp] [] cpos) (xr f i dj n):=by
 intro g xc E U H Hm F P Q hx R h q;obtain⟨hh,h⟩:=h;obtain⟨o,ho⟩:=kh R hh;refine WE.of (zU Ua slot hty hm (aS (e:=.Subscript (.Name x p) jx sp)) (cY (es:=[.Name y yp]) rfl) rfl (CB rfl (show 1<30 by decide)) hline rfl rfl) ?_;refine WE.of (Gv CH hv aS hs) ⟨o,cP hj ho,?_⟩;refine hd g xc E U H Hm F _ _ hx R h λE1 k1 w u1 H1 Hm1 F1 fp1 p1 R1 s1 T1=>?_;obtain⟨a,pp,ds,m,es,k,d,E2,rfl,e1,hix,hes,en,ne,hf,p1⟩:=p1;cases T1.own.int;obtain⟨v',h1,h2⟩:=R1.slot i _ _ e1;rw[ho]at h1;cases h1;obtain⟨vn,Hm2,F2,hvn,s2,R2,rn⟩:=R1.cM en hf;have e2:E2[i]?=some (some (.dp pp,.list ds)):=(EL hf ne).trans e1;obtain⟨v2,h3,h4⟩:=R2.slot i _ _ e2;rw[ho]at h3;cases h3;generalize hfi:F2 i=fi at h4;cases h4 with
 |@dp _ a0 xs _ fq ha0 n0 it0=>
  obtain⟨b,ys,hxm,hb,ry,mb⟩:=it0.get hes;have hlen:xs.length=ds.length:=by
   have:∀{xs:List V}{ds:VB}{fp:VE}{H Hm:Hp},dG X.K H Hm xs ds fp->xs.length=ds.length:=by
    intro xs ds fp H Hm h;induction h with
    |nil=>rfl
    |jK _ _ _ ih=>rw[QJ,QJ,ih]
    |own _ _ _ _ ih=>rw[QJ,QJ,ih]
   exact this it0
  refine .inl ⟨_,xs,a,.ref b,rfl,rfl,bA.of ha0,?_,.inl ⟨rfl,_,bA.of hb⟩,?_⟩;{show(ko xs.length a).bind (λj=>xs[j]?)=some (.ref b);rw[hlen,show ko ds.length a=some m from hix];exact hxm};refine WE.of hy ⟨vn,cP hjn hvn,?_⟩;show r (.ref b) [vn] H1 Q;have mbF:b∈F2 i:=by rw[hfi];exact QB _ mb
  refine D H1 Hm2 b ys es [vn] [d] _ Q hb (R2.off i b mbF) R2.sub ry (.cons rn .nil) p1 λys' new u v p2 ry' ru=>?_;have nab:a0≠b:=λz=>n0 (z▸mb);have R3:=R2.Oc (o:=.lst ys') (d':=.list (ds.set m (.list new))) e2 ho mbF (by
   rw[hfi];exact .dp (by rw[ai nab];exact ha0) n0 (it0.put ry' hxm ⟨es,hes⟩)) j9 λz=>by cases z
  exact q _ _ _ _ _ _ _ [] p2 R3 (s1.trans s2) (Tm.sh ru)
def N8(j jn:Nat){i n:Nat}{x y name:Str}{id:String}{p yp sp apos cpos:Pos}{jx:Expr}{f:DM}{r:V->List V->Hp->VK->Prop}{dj:DE}(hm:vZ X id r)(D:vC X.K f r)(slot:Slot "list" name id)(hty:typeOf (.builtin id)=pure (.type "method_descriptor"))(hd:SE X Ex Y jx dj)(hN:X.N[j]?=some x:=by rfl)(hv:jV X.env.scope x:=by first|exact Or.inl rfl|exact Or.inr (Or.inl rfl)|exact Or.inr (Or.inr rfl))(hj:Y[j]?=some i:=by rfl)(hNn:X.N[jn]?=some y:=by rfl)(hvn:jV X.env.scope y:=by first|exact Or.inl rfl|exact Or.inr (Or.inl rfl)|exact Or.inr (Or.inr rfl))(hjn:Y[jn]?=some n:=by rfl)(hs:lI jx:=by intro _ _;rfl)(hline:(apos.endLine==cpos.line)=true:=by rfl)(hb:(x==("__debug__":Str))=false:=by decide)(hcd:(x==("__classdict__":Str))=false:=by decide)(hbn:(y==("__debug__":Str))=false:=by decide)(hcn:(y==("__classdict__":Str))=false:=by decide) : SE X Ex Y (.Call (.Attribute (.Subscript (.Name x p) jx sp) name apos) [.Name y yp] [] cpos) (xr f i dj n):=Lk hm D slot hty (eN hN hv hb hcd) hj (eN hNn hvn hbn hcn) hjn hs hd hline
end
section
variable{P:Program}{w:World}{K:Frag}{mg:Us}{base:Heap}{N:VL}{qual:Str}{scope:Scope}{f:Addr}{cd:Value}{A:Around}{outer:List Env}{s0:Shared}{H0:Hp}{Ex:XK}
def Hv{j}(h:∃C,mg x=some (.ref C)/\jH K C Bl "ValueError.__new__" none=true)(hg:Gl (fF (dY P w) P w K mg base N qual scope f cd A outer s0 H0 Ex) x:=by rfl)(hdb:(x==("__debug__":Str))=false:=by decide) : S1 (fF (dY P w) P w K mg base N qual scope f cd A outer s0 H0 Ex) Ex (.Raise (some (.Call (.Name x np) [.Constant (.str y) j p] [] cpos)) none pos) (xu x):=by obtain⟨C,h⟩:=h;intro g D' E U H Hm F D hx R hp nx rt;refine WS.of (D5 h.2 hg h.1 (gh Di lU) hdb) ⟨by show 1<=sizeLine;decide,λa ha=>?_⟩;exact hx x .none C a _ h.1 hp (λp o hp ho=>bQ ha _ _ (R.fr p o hp ho)) ay (R.eL ha)
end
end Dv
namespace Dv
open PySem L2
noncomputable def GJ (most:Nat)(E:En) (i:Nat)(v:PyData)(Q:En->Prop):Prop:=match E[i]?,v with
 |some (some (.ow p,.list ds)),.list es=>ds.length+es.length<=most/\Q (E.set i (some (.ow p,.list (ds++es))))
 |_,_=>False
universe u
noncomputable def aI {a b:Prop}(x:a)(y:b):a/\b:=⟨x,y⟩
theorem rr0:dC v x E Q=Q E .sh v:=rfl
theorem rr1:bJ i x (o::E) Q=Cm (o::E) i Q:=rfl
theorem rr2:aa r as x (o::E) Q=gx as x (o::E) λE1 os=>uY r as E1 os Q:=rfl
theorem rr3:aX sp ms as x (o::E) Q=gx as x (o::E) λE1 os=>BW sp ms as x E1 os Q:=rfl
theorem rr4:bI d x (o::E) Q=d x (o::E) λE' _ v=>rE v (Q E'):=rfl
theorem rr5:GD i x (o::E) Q=Br (o::E) i Q:=rfl
theorem rr6:KL t x (o::E) Q=t x (o::E) λE' b=>Q E' (!b):=rfl
theorem rr7:kK a b x (o::E) Q=a x (o::E) λE1 _ v=>yz v λc=>cL c (b x E1 Q) (Q E1 .sh (.bool false)):=rfl
theorem rr8:rT a b x (o::E) Q=a x (o::E) λE1 _ v=>yz v λc=>cL c (Q E1 .sh (.bool true)) (b x E1 Q):=rfl
theorem rr9:OS a x (o::E) Q=a x (o::E) λE1 _ v=>rE v λc=>Q E1 .sh (.bool !c):=rfl
theorem rr10:oq f f' a b c x (o::E) Q=a x (o::E) λE1 _ u=>pI u λi=>b x E1 λE2 _ v=>pI v λj=>cL (f i j) (c x E2 λE3 _ w=>pI w λk=>Q E3 .sh (.bool (f' j k))) (Q E2 .sh (.bool false)):=rfl
theorem rr11:t8 c a b x (o::E) Q=c x (o::E) λE1 t=>cL t (a x E1 Q) (b x E1 Q):=rfl
theorem rr12:dP D E=D.nx E:=rfl
theorem rr13:ao a b D (o::E)=a { D with nx:=b D } (o::E):=rfl
theorem rr14:cJ c a b D (o::E)=c D.xc (o::E) λE1 t=>cL t (a D E1) (b D E1):=rfl
theorem rr15:aG i e D (o::E)=e D.xc (o::E) λE' k v=>bK (qz E' i) (D.nx (E'.set i (some (k,v)))):=rfl
theorem rr16:kN is e D (o::E)=e D.xc (o::E) λE' k v=>bK k.fz (GQ is v E' D.nx):=rfl
theorem rr17:cz e D (o::E)=e D.xc (o::E) D.rt:=rfl
theorem rr18:gP i D (o::E)=DB (o::E) i D.rt:=rfl
theorem rr19:jZ f i es x (o::E) Q=bK (ir (o::E) i) (gx (es.map .ev) x (o::E) λE1 os=>Dm f i (es.map .ev) E1 os Q):=rfl
theorem rr20:i7 i j e D (o::E)=e D.xc (o::E) λE1 k v=>bK k.fz (bK (here E1 i) (j D.xc E1 λE2 k2 w=>bK k2.fz (i7.setI E2 i w v D.nx))):=rfl
theorem rr21:OT f i e D (o::E)=bK (here (o::E) i) (e D.xc (o::E) λE1 _ v=>Ko f E1 i v D.nx):=rfl
theorem rr22:xu c D E=D.xc c .none:=rfl
theorem rr23:cO e D (o::E)=e D.xc (o::E) λE' _ _=>D.nx E':=rfl
theorem rr24:g9 x E Q=Q E true:=rfl
theorem rr25:iE e x (o::E) Q=e x (o::E) λE' k v=>bK k.fz (F9 v λxs=>Q E' xs):=rfl
theorem rr26:jF g as x (o::E) Q=gx as x (o::E) λE1 os=>aq (bT as E1 os) λds=>aq (g ds) λxs=>Q E1 xs:=rfl
theorem rr27:qK e x (o::E) Q=e x (o::E) λE' k v=>bK k.fz (uo v λds=>Q E' (iG ds)):=rfl
theorem rr28:B7 a b x (o::E) Q=a x (o::E) λE1 k v=>bK k.fz (b x E1 λE2 k2 v2=>bK k2.fz (uo v λds=>uo v2 λes=>Q E2 ((ds.zip es).map λp=>.tuple [p.1,p.2]))):=rfl
theorem rr29:cW most e x ys (o::E) Q=e x (o::E) λE1 k v=>k.fz=true/\ys.length<most/\Q (ys++[v]) E1:=rfl
theorem rr30:gx [] x E Q=Q E []:=rfl
theorem rr31:gx (.pk i::r) x (o::E) Q=bK (here (o::E) i) (gx r x (o::E) λE' os=>Q E' (none::os)):=rfl
theorem rr32:gx (.ev d::r) x (o::E) Q=d x (o::E) λE1 k v=>bK k.fz (gx r x E1 λE' os=>Q E' (some v::os)):=rfl
theorem rr33:bT [] E []=some []:=rfl
theorem rr34:∀{i:Nat}{r:List Arg}{o:Option (Kd×PyData)}{E:En}{os:List (Option PyData)},bT (.pk i::r) (o::E) (none::os)=match(o::E)[i]? with
  |some (some (k,d))=>cL k.rd ((bT r (o::E) os).map (d::·)) none
  |_=>none:=rfl
theorem rr35:∀{d:DE}{v:PyData}{r:List Arg}{E:En}{os:List (Option PyData)},bT (.ev d::r) E (some v::os)=(bT r E os).map (v::·):=rfl
theorem rr36:aq (some a) Q=Q a:=rfl
theorem rr37:aq none Q=False:=rfl
theorem rr38:here (o::E) i=match(o::E)[i]? with
  |some (some _)=>true
  |_=>false:=rfl
theorem rr39:b9 (some (k,d))=!k.pin:=rfl
theorem rr40:b9 none=true:=rfl
theorem rr41:ir (o::E) i=match(o::E)[i]? with
  |some (some (.ow _,.list _))=>true
  |_=>false:=rfl
theorem rr42:gH (o::E) i=match(o::E)[i]? with
  |some (some (.sh,_))=>true
  |_=>false:=rfl
theorem rr43:qx (o::E) i=match(o::E)[i]? with
  |some (some (k,d))=>cL k.fz (some ((o::E).set i (some (.sh,d)))) none
  |_=>none:=rfl
theorem rr44:fR [] E=some E:=rfl
theorem rr45:fR (i::r) E=(qx E i).bind (fR r):=rfl
theorem rr46:Cm (o::E) i Q=match(o::E)[i]? with
  |some (some (_,d))=>aq (qx (o::E) i) λE'=>Q E' .sh d
  |_=>False:=rfl
theorem rr47:DB (o::E) i Q=match(o::E)[i]? with
  |some (some (k,d))=>bK (!k.pin) (Q ((o::E).set i none) k d)
  |_=>False:=rfl
theorem rr48:Br (o::E) i Q=match(o::E)[i]? with
  |some (some (k,d))=>bK k.rd (rE d (Q (o::E)))
  |_=>False:=rfl
theorem rr49:∀{r:DR}{as:List Arg}{o:Option (Kd×PyData)}{E:En}{os:List (Option PyData)}{Q:En->Kd->PyData->Prop},uY r as (o::E) os Q=aq (bT as (o::E) os) λds=>r ds λk v=>aq (qf as (o::E) k v) λE2=>Q E2 k v:=rfl
theorem rr50:∀{sp:bF}{ms:VF}{as:List Arg}{x:XC}{o:Option (Kd×PyData)}{E:En}{os:List (Option PyData)}{Q:En->Kd->PyData->Prop},BW sp ms as x (o::E) os Q=aq (bT as (o::E) os) λds=>bK (qZ ms as (o::E)) (sp ds (λus k v=>De ms as (o::E) us k v Q) x):=rfl
theorem rr51:∀{f:DM}{i:Nat}{as:List Arg}{o:Option (Kd×PyData)}{E:En}{os:List (Option PyData)}{Q:En->Kd->PyData->Prop},Dm f i as (o::E) os Q=aq (bT as (o::E) os) λargs=>match(o::E)[i]? with
  |some (some (.ow p,.list ds))=>f ds args λnew v=>Q ((o::E).set i (some (.ow p,.list new))) .sh v
  |_=>False:=rfl
theorem rr52:Ko f (o::E) i v Q=match(o::E)[i]? with
  |some (some (_,.int a))=>pI v λb=>Q ((o::E).set i (some (.sh,.int (f a b))))
  |_=>False:=rfl
theorem rr53:rE (.bool b) Q=Q b:=rfl
theorem rr54:yz (.bool b) Q=Q b:=rfl
theorem rr55:pI (.int i) Q=Q i:=rfl
theorem rr56:rE (.list ds) Q=Q (!ds.isEmpty):=rfl
theorem rr57:F9 (.list ds) Q=Q ds:=rfl
theorem rr58:F9 (.tuple ds) Q=Q ds:=rfl
theorem rr59:uo (.list ds) Q=Q ds:=rfl
theorem rr60:qf as (o::E) k v=cL ((b5 as).all (gH (o::E))||flat k v) (some (o::E)) (fR (b5 as) (o::E)):=rfl
theorem rr61:b5 []=[]:=rfl
theorem rr62:b5 (.pk i::r)=i::b5 r:=rfl
theorem rr63:b5 (.ev d::r)=b5 r:=rfl
theorem rr64:Kd.fz .sh=true:=rfl
theorem rr65:Kd.fz (.ow false)=true:=rfl
theorem rr66:Kd.fz (.dp false)=true:=rfl
theorem rr67:Kd.fz (.dk false)=true:=rfl
theorem rr68:Kd.fz (.dt false)=true:=rfl
theorem rr69:Kd.rd .sh=true:=rfl
theorem rr70:Kd.rd (.ow p)=true:=rfl
theorem rr71:Kd.rd (.dp p)=true:=rfl
theorem rr72:Kd.rd (.dk p)=true:=rfl
theorem rr73:Kd.rd (.dt p)=true:=rfl
theorem rr74:Kd.pin .sh=false:=rfl
theorem rr75:Kd.pin (.ow p)=p:=rfl
theorem rr76:Kd.pin (.dp p)=p:=rfl
theorem rr77:Kd.pin (.dk p)=p:=rfl
theorem rr78:Kd.pin (.dt p)=p:=rfl
theorem rr79:flat .sh v=lf v:=rfl
theorem rr80:lf (.int i)=true:=rfl
theorem rr81:lf (.bool b)=true:=rfl
theorem rr82:lf (.str s)=true:=rfl
theorem rr83:lf .none=true:=rfl
theorem rr84:(br ms Q x).xc=x:=rfl
theorem rr85:(br ms Q x).nx (o::E)=aq (d7 ms (o::E)) λus=>Q us .sh .none:=rfl
theorem rr86:(br ms Q x).rt (o::E) k v=aq (d7 ms (o::E)) λus=>Q us k v:=rfl
theorem rr87:d7 [] E=some []:=rfl
theorem rr88:d7 (true::ms) (some (.ow true,.list es)::E)=(d7 ms E).map (.list es::·):=rfl
theorem rr89:d7 (false::ms) (o::E)=d7 ms E:=rfl
theorem rr90:ini (true::ms) (d::ds)=some (.ow true,d)::ini ms ds:=rfl
theorem rr91:ini (false::ms) (d::ds)=some (.sh,d)::ini ms ds:=rfl
theorem rr92:ini [] []=[]:=rfl
theorem rr93:List.replicate (n+1) (none:Option (Kd×PyData))=none::List.replicate n none:=rfl
theorem rr94:List.replicate 0 (none:Option (Kd×PyData))=[]:=rfl
theorem rr95:∀{α β:Type}{f:α->β}{a:α},(some a).map f=some (f a):=rfl
theorem rr96:∀{α β:Type}{f:α->Option β}{a:α},(some a).bind f=f a:=rfl
theorem rr97:∀{α:Type}{p:α->Bool},[].all p=true:=rfl
theorem rr98:∀{α:Type}{p:α->Bool}{a:α}{l:List α},(a::l).all p=(p a&&l.all p):=rfl
theorem rr99:(true&&b)=b:=rfl
theorem rr100:(false&&b)=false:=rfl
theorem rr101:(true||b)=true:=rfl
theorem rr102:(false||b)=b:=rfl
theorem rr103:((!true)=false):=rfl
theorem rr104:((!false)=true):=rfl
theorem rr105:∀{α:Type}{l:List α},([]:List α)++l=l:=rfl
theorem rr106:∀{α:Type}{a:α}{l m:List α},(a::l)++m=a::(l++m):=rfl
theorem rr107:qz (o::E) i=match(o::E)[i]? with
  |some o=>b9 o
  |none=>false:=rfl
theorem rr108:bK true P=P:=rfl
theorem rr109:bK false P=False:=rfl
theorem rr110:∀{α:Sort u}{a b:α},cL true a b=a:=rfl
theorem rr111:∀{α:Sort u}{a b:α},cL false a b=b:=rfl
theorem rr112:GQ is (.tuple ds) E Q=aq (stK is ds E) Q:=rfl
theorem rr113:stK [] [] E=some E:=rfl
theorem rr114:stK (i::is) (d::ds) (o::E)=cL (qz (o::E) i) (stK is ds ((o::E).set i (some (.sh,d)))) none:=rfl
theorem rr115:kJ i []=false:=rfl
theorem rr116:kJ i (j::l)=(i==j||kJ i l):=rfl
theorem rr117:n9 [] ks E=true:=rfl
theorem rr118:n9 (i::r) ks E=((!kJ i ks&&!kJ i r&&ir E i)&&n9 r ks E):=rfl
theorem rr119:∀{α:Type}{o:α}{E:List α},(o::E)[0]?=some o:=rfl
theorem rr120:∀{α:Type}{o:α}{E:List α}{n:Nat},(o::E)[n+1]?=E[n]?:=rfl
theorem rr121:∀{α:Type}{o a:α}{E:List α},(o::E).set 0 a=a::E:=rfl
theorem rr122:∀{α:Type}{o a:α}{E:List α}{n:Nat},(o::E).set (n+1) a=o::E.set n a:=rfl
def dv:=aI @rr0<|aI @rr1<|aI @rr2<|aI @rr3<|aI @rr4<|aI @rr5<|aI @rr6<|aI @rr7<|aI @rr8<|aI @rr9<|aI @rr10<|aI @rr11<|aI @rr12<|aI @rr13<|aI @rr14<|aI @rr15<|aI @rr16<|aI @rr17<|aI @rr18<|aI @rr19<|aI @rr20<|aI @rr21<|aI @rr22<|aI @rr23<|aI @rr24<|aI @rr25<|aI @rr26<|aI @rr27<|aI @rr28<|aI @rr29<|aI @rr30<|aI @rr31<|aI @rr32<|aI @rr33<|aI @rr34<|aI @rr35<|aI @rr36<|aI @rr37<|aI @rr38<|aI @rr39<|aI @rr40<|aI @rr41<|aI @rr42<|aI @rr43<|aI @rr44<|aI @rr45<|aI @rr46<|aI @rr47<|aI @rr48<|aI @rr49<|aI @rr50<|aI @rr51<|aI @rr52<|aI @rr53<|aI @rr54<|aI @rr55<|aI @rr56<|aI @rr57<|aI @rr58<|aI @rr59<|aI @rr60<|aI @rr61<|aI @rr62<|aI @rr63<|aI @rr64<|aI @rr65<|aI @rr66<|aI @rr67<|aI @rr68<|aI @rr69<|aI @rr70<|aI @rr71<|aI @rr72<|aI @rr73<|aI @rr74<|aI @rr75<|aI @rr76<|aI @rr77<|aI @rr78<|aI @rr79<|aI @rr80<|aI @rr81<|aI @rr82<|aI @rr83<|aI @rr84<|aI @rr85<|aI @rr86<|aI @rr87<|aI @rr88<|aI @rr89<|aI @rr90<|aI @rr91<|aI @rr92<|aI @rr93<|aI @rr94<|aI @rr95<|aI @rr96<|aI @rr97<|aI @rr98<|aI @rr99<|aI @rr100<|aI @rr101<|aI @rr102<|aI @rr103<|aI @rr104<|aI @rr105<|aI @rr106<|aI @rr107<|aI @rr108<|aI @rr109<|aI @rr112<|aI @rr113<|aI @rr114<|aI @rr115<|aI @rr116<|aI @rr117<|aI @rr118<|aI @rr119<|aI @rr120<|aI @rr121<|@rr122
def dw:
 (∀{o:Option (Kd×PyData)}{E:En}{i:Nat},bx (o::E) i=match(o::E)[i]? with
  |some o=>b9 o
  |none=>false) /\
 (∀{P:Prop},(True/\P)=P) /\
 (∀{P:Prop},(P/\True)=P) /\
 (∀{α:Type}{a:α},(a=a)=True) /\
 (∀{b:Bool},(b||true)=true) /\
 (∀{α:Type}{a b:α},(if True then a else b)=a) /\
 (∀{α:Type}{a b:α},(if False then a else b)=b) /\
 (∀{p:Prop} [Decidable p],(decide p=true)=p) /\
 ((true=false)=False) /\
 ((false=true)=False) /\
 (∀{b:Bool},((!b)=true)=(b=false)) /\
 (∀{p:Prop} [Decidable p],(decide p=false)=¬p) /\
 (type_of%@cZ) /\
 (∀{α:Type}{p:Prop} [Decidable p]{a b:α},cL (decide p) a b=if p then a else b) /\
 (∀{p:Prop} [Decidable p]{a b:Prop},cL (decide p) a b=if p then a else b) /\
 (∀{b:Bool}{p q:Prop},cL b p q=if b=true then p else q) /\
 (∀{α:Type}{b:Bool}{p q:α},cL b p q=if b=true then p else q):=
 ⟨(by intro o E i;unfold bx b9;generalize (o::E)[i]?=z;rcases z with _|_|⟨k,d⟩<;>rfl),(by intros;simp),(by intros;simp),(by intros;simp),(by intros;simp),(by intros;simp),(by intros;simp),(by intros;simp),(by intros;simp),(by intros;simp),(by intros;simp),(by intros;simp),@cZ,(by intros;rw[bH];simp only[Rf]),(by intros;rw[bH];simp only[Rf]),(by intros;exact bH),(by intros;exact bH)⟩
def Po{x:PyData}{l:VB}:cX (x::l) 0=some x:=by unfold cX ko;simp
def Pa{x y:PyData}{l:VB}:cX (x::y::l) 1=some y:=by unfold cX ko;simp;rw[if_pos (by lia)];rfl
def Pc{n:Nat}:jy (n+1) 0=some 0:=by unfold jy;simp
def NK{n:Nat}:jy (n+2) 1=some 1:=by unfold jy;simp;lia
theorem rr123:cA [.int a,.int b] P=P .sh (.int (a+b)):=rfl
theorem rr124:cA [.list a,.list b] P=(a.length+b.length<=sizeLine/\P (.ow false) (.list (a++b))):=rfl
theorem rr125:cA [.tuple a,.tuple b] P=((a≠[]/\a.length+b.length<=sizeLine)/\P .sh (.tuple (a++b))):=rfl
theorem rr126:kT [.int a,.int b] P=P .sh (.int (a-b)):=rfl
theorem rr127:dO [.int a,.int b] P=(sV a b/\P .sh (.int (a*b))):=rfl
theorem rr128:dO [.list a,.int k] P=((-(2^63)<=k/\k<2^63/\a.length*k.toNat<=sizeLine)/\P (.ow false) (.list (List.replicate k.toNat a).flatten)):=rfl
theorem rr129:mq [.int a,.int b] P=(0<b/\P .sh (.int (a%b))):=rfl
theorem rr130:Aq [.int a,.int b] P=(AE a b/\P .sh (.int (a/b))):=rfl
theorem rr131:tF [.int a,.int b] P=(wm a b/\P .sh (.int (a^b.toNat))):=rfl
theorem rr132:oY [.int a,.int b] P=P .sh (.bool (decide (a<b))):=rfl
theorem rr133:PX [.int a,.int b] P=P .sh (.bool (decide (a<=b))):=rfl
theorem rr134:t7 [.int a,.int b] P=P .sh (.bool (decide (b<a))):=rfl
theorem rr135:Lb [.int a,.int b] P=P .sh (.bool (decide (b<=a))):=rfl
theorem rr136:fL [.int a] P=P .sh (.int (-a)):=rfl
theorem rr137:eV [.int a,.int b] P=P .sh (.bool (decide (a=b))):=rfl
theorem rr138:eV [.str a,.str b] P=P .sh (.bool (decide (a=b))):=rfl
theorem rr139:nX [.int a,.int b] P=P .sh (.bool !(decide (a=b))):=rfl
theorem rr140:nX [.str a,.str b] P=P .sh (.bool !(decide (a=b))):=rfl
theorem rr141:eV [.list a,.list b] P=((dl 8 (.list a)=true/\dl 8 (.list b)=true)/\P .sh (.bool (decide (PyData.list a=.list b)))):=rfl
theorem rr142:nX [.list a,.list b] P=((dl 8 (.list a)=true/\dl 8 (.list b)=true)/\P .sh (.bool !(decide (PyData.list a=.list b)))):=rfl
theorem rr143:aK [.list xs,.int i] P=aq (atK xs i) (P .sh):=rfl
theorem rr144:aK [.tuple xs,.int i] P=aq (atK xs i) (P .sh):=rfl
theorem rr145:fU [.list xs] P=P .sh (.int xs.length):=rfl
theorem rr146:fU [.tuple xs] P=P .sh (.int xs.length):=rfl
theorem rr147:oO [.list xs] P=P (.ow false) (.list xs):=rfl
theorem rr148:oO [.tuple xs] P=P (.ow false) (.list xs):=rfl
theorem rr149:lB [.list xs] P=P .sh (.tuple xs):=rfl
theorem rr150:lB [.tuple xs] P=P .sh (.tuple xs):=rfl
theorem rr151:uI [.int a,.int b] P=P .sh (.int (if b<a then b else a)):=rfl
theorem rr152:MU [.int a,.int b] P=P .sh (.int (if b>a then b else a)):=rfl
theorem rr153:O5 [.int a] P=P .sh (.int (if a<0 then-a else a)):=rfl
theorem rr154:lQ [.int a] P=P .sh (.int a):=rfl
theorem rr155:lQ [.bool b] P=P .sh (.int (if b=true then 1 else 0)):=rfl
theorem rr156:lu [.int j] P=((0<=j/\j<=1000)/\P (.ow false) (.list (i8 0 j.toNat))):=rfl
theorem rr157:cI ds P=(ds.length<=sizeLine/\P (.ow false) (.list ds)):=rfl
theorem rr158:cy ds P=(ds.length<=sizeLine/\P .sh (.tuple ds)):=rfl
theorem rr159:kg false false [.list xs] P=P (.ow false) (.list (cutD xs none none)):=rfl
theorem rr160:kg true false [.list xs,.int a] P=P (.ow false) (.list (cutD xs (some a) none)):=rfl
theorem rr161:kg false true [.list xs,.int b] P=P (.ow false) (.list (cutD xs none (some b))):=rfl
theorem rr162:kg true true [.list xs,.int a,.int b] P=P (.ow false) (.list (cutD xs (some a) (some b))):=rfl
theorem rr163:kg false true [.tuple xs,.int b] P=P .sh (.tuple (cutD xs none (some b))):=rfl
theorem rr164:lD [.int j]=@ite _ (-(2^62)<=j/\j<2^62) (Classical.propDecidable _) (some (i8 0 j.toNat)) none:=rfl
theorem rr165:CK [.int i,.int j]=@ite _ (-(2^62)<=i/\i<2^62/\-(2^62)<=j/\j<2^62) (Classical.propDecidable _) (some (i8 i (j-i).toNat)) none:=rfl
theorem rr166:B9 c [d] P=aq (tN d) λt=>P .sh (.bool (iA c t)):=rfl
theorem rr167:tN (.int i)=some "int":=rfl
theorem rr168:tN (.tuple i)=some "tuple":=rfl
theorem rr169:tN (.list i)=some "list":=rfl
theorem rr170:tN (.bool b)=some "bool":=rfl
theorem rr171:tN .none=some "NoneType":=rfl
theorem rr172:iA "int" "int"=true:=rfl
theorem rr173:iA "int" "tuple"=false:=rfl
theorem rr174:iA "tuple" "int"=false:=rfl
theorem rr175:iA "tuple" "tuple"=true:=rfl
theorem rr176:iA "bool" "int"=false:=rfl
theorem rr177:iA "list" "list"=true:=rfl
theorem rr178:iA "int" "NoneType"=false:=rfl
theorem rr179:iA "tuple" "NoneType"=false:=rfl
theorem rr180:cF ds [d] P=(ds.length<sizeLine/\P (ds++[d]) .none):=rfl
theorem rr181:lP ds [.list es] P=(ds.length+es.length<=sizeLine/\P (ds++es) .none):=rfl
theorem rr182:Li ds [] P=∃d,ds[ds.length-1]?=some d/\P ds.dropLast d:=rfl
theorem rr183:Li ds [.int i] P=((-(2^63)<=i/\i<2^63)/\∃n d,seqIndex? i ds.length=some n/\ds[n]?=some d/\P (ds.eraseIdx n) d):=rfl
theorem rr184:b6 (.nm i) d E=bf [i] [d] E:=rfl
theorem rr185:b6 (.tp is) (.tuple ds) E=bf is ds E:=rfl
theorem rr186:bf [] [] E=some E:=rfl
theorem rr187:aZ [] E=some E:=rfl
theorem rr188:i7.setI (o::E) i w v Q=match(o::E)[i]?,w with
  |some (some (.ow p,.list ds)),.int a=>aq (wz ds.length a) λn=>Q ((o::E).set i (some (.ow p,.list (ds.set n v))))
  |some (some (.dk p,.dict kvs)),w=>(j4 w=true/\kvs.length<16777216)/\Q ((o::E).set i (some (.dk p,.dict (putD kvs w v))))
  |some (some (.dt p,.dict (_::kvs))),.tuple ks=>(ks.all j4=true/\kvs.length<16777216)/\Q ((o::E).set i (some (.dt p,.dict ((.none,.none)::putD kvs (.tuple ks) v))))
  |_,_=>False:=rfl
theorem rr189:De ms as (o::E) us k v Q=aq (iQ ms as us (o::E)) λE2=>aq (rj ms as us E2 k v) λE3=>Q E3 k v:=rfl
theorem rr190:iQ [] [] [] E=some E:=rfl
theorem rr191:iQ (false::ms) (a::r) us E=iQ ms r us E:=rfl
theorem rr192:iQ (true::ms) (.pk i::r) (u::us) (o::E)=match(o::E)[i]? with
  |some (some (.ow p,.list _))=>cL (yj u) (iQ ms r us ((o::E).set i (some (.ow p,u)))) none
  |_=>none:=rfl
theorem rr193:yj (.list l)=true:=rfl
theorem rr194:rj ms as us (o::E) k v=cL ((kept ms as).all (gH (o::E))||(flat k v&&us.all (flat (.ow false)))) (some (o::E)) (fR (kept ms as) (o::E)):=rfl
theorem rr195:kept [] []=[]:=rfl
theorem rr196:kept (false::ms) (.pk i::r)=i::kept ms r:=rfl
theorem rr197:kept (false::ms) (.ev d::r)=kept ms r:=rfl
theorem rr198:kept (true::ms) (a::r)=kept ms r:=rfl
theorem rr199:qZ ms as (o::E)=(shape ms as&&n9 (lent ms as) (kept ms as) (o::E)):=rfl
theorem rr200:lent [] []=[]:=rfl
theorem rr201:lent (true::ms) (.pk i::r)=i::lent ms r:=rfl
theorem rr202:lent (false::ms) (a::r)=lent ms r:=rfl
theorem rr203:shape [] []=true:=rfl
theorem rr204:shape (true::ms) (.pk i::r)=shape ms r:=rfl
theorem rr205:shape (false::ms) (a::r)=shape ms r:=rfl
theorem rr206:∀{α:Type},([]:List α).length=0:=rfl
theorem rr207:∀{α:Type}{a:α}{l:List α},(a::l).length=l.length+1:=rfl
theorem rr208:sizeLine=16777216:=rfl
theorem rr209:∀{f:DE->Arg},List.map f []=[]:=rfl
theorem rr210:∀{f:DE->Arg}{a:DE}{l:List DE},List.map f (a::l)=f a::List.map f l:=rfl
theorem rr211:atK (x::l) 0=some x:=rfl
theorem rr212:atK (x::y::l) 1=some y:=rfl
theorem rr213:wz (n+1) 0=some 0:=rfl
theorem rr214:wz (n+2) 1=some 1:=rfl
theorem rr215:wz (n+1+1) 1=some 1:=rfl
def Jh:(∀{x:PyData}{l:VB},cX (x::l) 0=some x)/\(∀{x y:PyData}{l:VB},cX (x::y::l) 1=some y)/\(∀{n:Nat},jy (n+1) 0=some 0)/\(∀{n:Nat},jy (n+2) 1=some 1)/\(∀{n:Nat},jy (n+1+1) 1=some 1)/\(∀{P:Kd->PyData->Prop},dM false [.none,.none] P=P .sh (.bool true))/\(∀{P:Kd->PyData->Prop},dM true [.none,.none] P=P .sh (.bool false))/\(∀{i:Int}{P:Kd->PyData->Prop},dM false [.int i,.none] P=P .sh (.bool false))/\(∀{i:Int}{P:Kd->PyData->Prop},dM true [.int i,.none] P=P .sh (.bool true))/\(∀{i:VB}{P:Kd->PyData->Prop},dM false [.tuple i,.none] P=P .sh (.bool false))/\(∀{i:VB}{P:Kd->PyData->Prop},dM true [.tuple i,.none] P=P .sh (.bool true))/\(∀{d:PyData}{xs:VB}{P:Kd->PyData->Prop},mJ false [d,.list xs] P=((xs.all (dl 8)=true/\dl 8 d=true)/\P .sh (.bool (decide (d∈xs)))))/\(∀{d:PyData}{xs:VB}{P:Kd->PyData->Prop},mJ true [d,.list xs] P=((xs.all (dl 8)=true/\dl 8 d=true)/\P .sh (.bool !(decide (d∈xs)))))/\(∀{d:PyData}{xs:VB}{P:Kd->PyData->Prop},mJ false [d,.tuple xs] P=((xs.all (dl 8)=true/\dl 8 d=true)/\P .sh (.bool (decide (d∈xs)))))/\(∀{d:PyData}{xs:VB}{P:Kd->PyData->Prop},mJ true [d,.tuple xs] P=((xs.all (dl 8)=true/\dl 8 d=true)/\P .sh (.bool !(decide (d∈xs)))))/\(∀{i:Nat}{is:VI}{d:PyData}{ds:VB}{o:Option (Kd×PyData)}{E:En},bf (i::is) (d::ds) (o::E)=if bx (o::E) i then bf is ds ((o::E).set i (some (.sh,d)))else none)/\(∀{i:Nat}{r:VI}{o:Option (Kd×PyData)}{E:En},aZ (i::r) (o::E)=if bx (o::E) i then aZ r ((o::E).set i none)else none)/\(∀{i:Nat},List.contains [] i=false)/\(∀{i j:Nat}{l:VI},List.contains (j::l) i=(i==j||List.contains l i))/\(∀{α:Type},(([]:List α).Nodup)=True)/\(∀{i:Nat},([i]:VI).Nodup=True)/\type_of%@rN/\type_of%@uS:=
 ⟨Po,Pa,Pc,NK,NK,(by simp[dM]),(by simp[dM]),(by simp[dM]),(by simp[dM]),(by simp[dM]),(by simp[dM]),(by intro d xs P;cases d<;>rfl),(by intro d xs P;cases d<;>rfl),(by intro d xs P;cases d<;>rfl),(by intro d xs P;cases d<;>rfl),rfl,rfl,(by intros;simp),(by intros;rw[List.contains_cons]),(by intros;simp),(by intros;simp),@rN,@uS⟩
def dx:=aI @rr123<|aI @rr124<|aI @rr125<|aI @rr126<|aI @rr127<|aI @rr128<|aI @rr129<|aI @rr130<|aI @rr131<|aI @rr132<|aI @rr133<|aI @rr134<|aI @rr135<|aI @rr136<|aI @rr137<|aI @rr138<|aI @rr139<|aI @rr140<|aI @rr141<|aI @rr142<|aI @rr143<|aI @rr144<|aI @rr145<|aI @rr146<|aI @rr147<|aI @rr148<|aI @rr149<|aI @rr150<|aI @rr151<|aI @rr152<|aI @rr153<|aI @rr154<|aI @rr155<|aI @rr156<|aI @rr157<|aI @rr158<|aI @rr159<|aI @rr160<|aI @rr161<|aI @rr162<|aI @rr163<|aI @rr164<|aI @rr165<|aI @rr166<|aI @rr167<|aI @rr168<|aI @rr169<|aI @rr170<|aI @rr171<|aI @rr172<|aI @rr173<|aI @rr174<|aI @rr175<|aI @rr176<|aI @rr177<|aI @rr178<|aI @rr179<|aI @rr180<|aI @rr181<|aI @rr182<|aI @rr183<|aI @rr184<|aI @rr185<|aI @rr186<|aI @rr187<|aI @rr188<|aI @rr189<|aI @rr190<|aI @rr191<|aI @rr192<|aI @rr193<|aI @rr194<|aI @rr195<|aI @rr196<|aI @rr197<|aI @rr198<|aI @rr199<|aI @rr200<|aI @rr201<|aI @rr202<|aI @rr203<|aI @rr204<|aI @rr205<|aI @rr206<|aI @rr207<|aI @rr208<|aI @rr209<|aI @rr210<|aI @rr211<|aI @rr212<|aI @rr213<|aI @rr214<|aI @rr215<|@Jh
end Dv
namespace L2
open PySem PySem.Spec PyProof.Rows
def Dr{K:Uy}{mb:Us}{CX:kF}{k:Nat}{fa a:Addr}{sp:Sp}{s₁:Shared}{vs:VD}{ns:VJ}(KX:K.In s₁.heap)(hns:s₁.heap.Ns mainGlobals mg)(hb:s₁.heap.Ns builtinsNs mb)(hbb:∀x:Str,x≠"__name__"->mb x=bootBuiltins x)(hlim:s₁.heap.NoLimit)(hg:s₁.gens=#[])(ha:s₁.heap.get? a=some { cls:=.type "list",data:=.seq vs.toArray })(hi:IntsAre vs ns)(hl:ns.length<=sizeLine)(hr:cQ k callerA)(F:∀base:Heap,K.In base->base.Ns mainGlobals mg->fH P w K mg base CX k fa fd [x] sp)(hbind:∀(s:Shared)(u:Value),BindsTo s fd ⟨[u],[]⟩ [(x,u)])(hsp:∀H:Hp,Fp H->Dv.bM K H a (ns.map V.int)->sp [.ref a] H (λv _=>v=.bl true) λ_ _ _=>False)(hCX:∀H e s',CX [] H s₁ (λ_ _ _=>False) e s'->False) : codeAny (model P w) callerA (.call (.ref fa) ⟨[.ref a],[]⟩) (λr s'=>r=.ok (.ret (.bool true))/\OldK s₁.heap s'.heap/\s'.os=s₁.os/\AllBare s'.gens) s₁:=by
 have rv:=uw hi;have wV:=hi.length
 -- from an abstract heap in which nothing but the script may be tracked
 have core:∀H:Hp,Fp H->Dv.bM K H a (ns.map V.int)->cK P w H s₁.heap->(∀b,H b≠none->b=a)->(H a≠none->K.lookup a=none)->
   codeAny (model P w) callerA (.call (.ref fa) ⟨[.ref a],[]⟩) (λr s'=>r=.ok (.ret (.bool true))/\OldK s₁.heap s'.heap/\s'.os=s₁.os/\AllBare s'.gens) s₁:=by
  intro H hO hS hok hA hK;have base_of:∀{b:Addr}{o:Obj},s₁.heap.get? b=some o->H b=none->(mD s₁.heap H).get? b=some o:=λe n=>EB e n
  have noA:∀{b:Addr}{o:Obj}{es:Uu}{ep:Nat},s₁.heap.get? b=some o->o.data=.dict es ep->H b=none:=λ{b o es ep} e d=>by
   cases q:H b with
   |none=>rfl
   |some u=>
    have e':b=a:=hA b (by rw[q];simp)
    subst e';rw[ha]at e;cases e;have d':Data.seq vs.toArray _=Data.dict es ep:=d;cases d'
  have nsK:∀{b:Addr}{m:Us},s₁.heap.Ns b m->(mD s₁.heap H).Ns b m:=λ{b m} ⟨o,es,ep,e,d,r⟩=>⟨o,es,ep,base_of e (noA e d),d,r⟩
  have hKb:K.In (mD s₁.heap H):=λb o e=>base_of (KX b o e) (by
   cases q:H b with
   |none=>rfl
   |some u=>
    have e':b=a:=hA b (by rw[q];simp)
    subst e';rw[hK (by rw[q];simp)]at e;cases e)
  have hM:Mod K mg (mD s₁.heap H):=⟨hKb,nsK hns,⟨mb,nsK hb,hbb⟩,let⟨mc,h1,h2⟩:=hlim;⟨mc,nsK h1,h2⟩⟩
  have e0:AG P w K mg (mD s₁.heap H) callerA [] s₁ H:=⟨rfl,hM,λb o e=>IL e,T7 (A8 _ _),trivial,λb hb=>absurd (show b∈([]:VE)from hb) (by simp),hok,.of_eq hg⟩
  refine codeAny_mono ((F _ hKb (nsK hns)).run callerA [] s₁ H ⟨[.ref a],[]⟩ [.ref a] [.ref a] _ _ hr e0 (hbind s₁ (.ref a)) (.cons rfl .nil) (hsp H hO hS)) λr s' h=>?_
  cases r with
  |error e=>exact(hCX H e s' h).elim
  |ok fl=>
   cases fl with
   |next=>exact False.elim h
   |brk=>exact False.elim h
   |cont=>exact False.elim h
   |ret u=>
    obtain⟨v,H',os,bare,un,hok',r',q⟩:=h;have q':v=.bl true:=q;subst q';obtain rfl:u=Value.bool true:=r';refine⟨rfl,OldK.of_keep λb o e=>?_,os,bare⟩
    cases q:H b with
    |none=>exact un.keep b o e q (by intro z;exact absurd (show b∈([]:VE)from z) (by simp)) (by simp)
    |some u=>
     rcases hO b with z|⟨ob,xs,z⟩
     .rw[q]at z;cases z
     .have z2:=un.jG b ob _ z;obtain⟨e1,_⟩:=hok b _ z;obtain⟨e2,_⟩:=hok' b _ z2;rw[e]at e1;cases e1;exact e2
 cases hk:K.lookup a with
 |some o=>
  -- the script is one of the module's own objects
  have e:=KX a o hk;rw[ha]at e;cases e;refine core (λ_=>none) (λ_=>.inl rfl) (.inr ⟨vs,_,hk,by rw[wV];exact hl,rv⟩) (λb u z=>by have z':(none:Option HO)=some u:=z;cases z') (λb z=>absurd rfl z) λz=>absurd rfl z
 |none=>
  refine core (λb=>if b=a then some (.dI { cls:=.type "list",data:=.seq vs.toArray } (.lst (ns.map V.int)))else none) (λb=>?_) (.inl (.inr ⟨{ cls:=.type "list",data:=.seq vs.toArray },if_pos rfl⟩)) (λb u z=>?_) (λb z=>?_) λ_=>hk
  .by_cases hb:b=a
   .exact .inr ⟨_,_,if_pos hb⟩
   .exact .inl (if_neg hb)
  .by_cases hb:b=a
   .have z':=(if_pos hb).symm.trans z;cases z';subst hb;exact⟨ha,by rw[Q5];exact hl,vs,_,rv,ha⟩
   .have z':=(if_neg hb).symm.trans z;cases z'
  .by_cases hb:b=a
   .exact hb
   .exact absurd (if_neg hb) z
def JH{l:PySem.W.OpenLaw}{n k:Nat}{YP:World->Heap->Prop}{d:DefRec}{K:Params->Uy}{CX:World->kF}{sp:World->Sp}(hn:l.most=some n)(hn2:n<=sizeLine)(hdf:d.params.defaults=[])(hr:cQ k callerA)(hY:∀(w:World)(h:Heap),YP w h->(K w.params).In h)(F:∀(w:World)(mg:Us)(fa:Addr)(h:Heap),(K w.params).In h->h.Ns mainGlobals mg->mg d.name=some (.ref fa)-> ∃fd:FuncData,(∀(s:Shared)(u:Value),BindsTo s fd ⟨[u],[]⟩ [(x,u)]) /\ ∀base:Heap,(K w.params).In base->base.Ns mainGlobals mg->fH l.prog w (K w.params) mg base (CX w) k fa fd [x] (sp w))(hsp:∀(w:World)(H:Hp)(a:Addr)(ns:VJ),ns.length<=n->Fp H->Dv.bM (K w.params) H a (ns.map V.int)->sp w [.ref a] H (λv _=>v=.bl true) λ_ _ _=>False)(hCX:∀(w:World)(H:Hp)(s:Shared)(e:Value)(s':Shared),CX w [] H s (λ_ _ _=>False) e s'->False) : PySem.W.WalkO q loose XP YP l.row.toRowW d [] (λf vs=>PySem.call f vs):=by refine NQ.xR hn hdf λw s₀ s₁ mg mb fa o pm cd doc a vs ns G VN ho hd hcd hmg hobj hints hlen hg=>?_;have KX:=hY w _ VN;obtain⟨fd,hb,hF⟩:=F w mg fa _ KX G.T.g hmg;exact Dr KX G.T.g G.T.b G.T.builtins G.T.nolimit hg hobj hints (Qd hlen hn2) hr hF hb (λH hO hS=>hsp w H a ns hlen hO hS) λH e s'=>hCX w H s₁ e s'
end L2
namespace Dv
open PySem L2 PySem.W
inductive yU(K:Frag)(vs:List V)(H:Hp)(Q:VK):Prop
 |mk:∀(a:Addr)(ns:VJ),(vs=[.ref a])->(bM K H a (ns.map V.int))->(ns.length<=63)->(∀H',Q (.bl true) H')->yU K vs H Q
noncomputable def Bw (K:Frag):Sp:=λvs H Q _E3=>yU K vs H Q
noncomputable def sR:bF:=λds Q x=>∃ns:VJ,ds=[.list (ns.map .int)]/\ns.length<=63/\Q [] .sh (.bool true)
def IP(h:Bw K vs H Q E):b8 mg K [false] sR vs H Q E:=by
 obtain⟨a,ns,rfl,r,hl,q⟩:=h;refine⟨[.list (ns.map .int)],[],H,λ_ _ r=>r=.bool true,xF,ah.refl _,.sh (.lst r (pW ns)) .nil,⟨ns,rfl,hl,rfl⟩,λus k r u H' Hm' fp e _ _ _ _ _ o _=>?_,λ_ _ _ _ _ _ z=>z.elim⟩;cases e;cases o with
 |sh h=>cases h;exact q H'
def B8{l:OpenLaw}{YP:World->Heap->Prop}{d:DefRec}{K:Params->Frag}{k:Nat}(hn:l.most=some 63)(hdf:d.params.defaults=[])(hr:cQ k callerA)(hY:∀(w:World)(h:Heap),YP w h->(K w.params).In h)(F:∀(w:World)(mg:Us)(fa:Addr)(h:Heap),(K w.params).In h->h.Ns mainGlobals mg->mg d.name=some (.ref fa)-> ∃fd:FuncData,(∀(s:Shared)(u:Value),BindsTo s fd ⟨[u],[]⟩ [(pn,u)])/\∀base:Heap,(K w.params).In base->base.Ns mainGlobals mg->fH l.prog w (K w.params) mg base (dY l.prog w) k fa fd [pn] (b8 mg (K w.params) [false] sR)) : WalkO q loose XP YP l.row.toRowW d [] (λf vs=>PySem.call f vs):=
 L2.JH (n:=63) (k:=k) (x:=pn) (CX:=λw=>dY l.prog w) (sp:=λw=>Bw (K w.params)) hn (by decide) hdf hr hY (λw mg fa h h1 h2 h3=>by
  obtain⟨fd,hb,hF⟩:=F w mg fa h h1 h2 h3;exact⟨fd,hb,λbase g1 g2=>(hF base g1 g2).imp λvs H Q E z=>IP z⟩) (λ_ _ a ns hl _ hS=>⟨a,ns,rfl,hS,hl,λ_=>rfl⟩) λw H s e s' z=>by
  obtain⟨_,_,_,_,_,_,_,_,_,_,_,_,_,_,_,z⟩:=z;exact z.elim
noncomputable def qP:DR:=λds P=>∃ps:Ux,ds=[.list (ps.map pD)]/\ps.length<=1000/\∀qs:Ux,qs.Perm ps->P (.ow false) (.list (qs.map pD))
def EZ:∀{zs ys:List V},zs.Perm ys->∀{ps:Ux},au K H ys (ps.map pD)->∃qs:Ux,qs.Perm ps/\au K H zs (qs.map pD):=by
 intro zs ys h;induction h with
 |nil=>intro ps r;exact⟨ps,.refl _,r⟩
 |cons x _ ih=>
  intro ps r;cases ps with
  |nil=>cases r
  |cons p ps=>
   cases r with
   |cons h t=>obtain⟨qs,pq,r'⟩:=ih t;exact⟨p::qs,pq.cons _,.cons h r'⟩
 |swap x y l=>
  intro ps r
  match ps,r with
  |p::p2::ps,.cons h (.cons h2 t)=>exact⟨p2::p::ps,List.Perm.swap _ _ _,.cons h2 (.cons h t)⟩
 |trans _ _ ih1 ih2=>intro ps r;obtain⟨q1,p1,r1⟩:=ih2 r;obtain⟨q2,p2,r2⟩:=ih1 r1;exact⟨q2,p2.trans p1,r2⟩
def CN:cg K qP (Cj K):=by
 rintro H Hm vs ds P Q s r⟨ps,rfl,hn,h⟩q;obtain⟨x,rfl,h1⟩:=dB r;obtain⟨a,xs,rfl,ha,r1⟩:=gg h1;have l1:xs.length=ps.length:=by rw[r1.len,Q5]
 refine⟨a,xs,rfl,(bM.mono s ha).sq,λy hy=>?_,by rw[l1];exact hn,λzs p pm hp=>?_⟩
 .obtain⟨i,hi⟩:=Rm hy;obtain⟨d,e,r'⟩:=r1.OH hi;rw[QF]at e;obtain⟨p,_,rfl⟩:=SD.mp e;cases r' with
  |tup b r2=>obtain⟨x,y,rfl,h2,h3⟩:=eU r2;cases h2;cases h3;exact⟨_,_,_,rfl,bE.of (s _ _ b)⟩
 obtain⟨qs,pq,r'⟩:=EZ pm r1;exact bz.nl q s (h qs pq) hp r'
section
variable{X:Cx}{Ex:XK}{Y:VI}{a:Expr}{p pos:Pos}{as:List Arg}
def Mb(hm:X.mg "sorted"=none)(S:aH X Ex Y [a] as)(hg:Gl X "sorted":=by rfl)(ns:noStar a=true:=by rfl):SE X Ex Y (.Call (.Name "sorted" p) [a] [] pos) (aa qP as):=fX vO CN hg hm PyProof.Rows.boot_sorted (by decide) (by decide) (by rw[QH,ns];rfl) S
end
end Dv
namespace Dv
open PySem L2 PySem.W PyProof.Rows
def uA{M:Model}{A:Around}{E:Uq}{s:Shared}{a b:Value}{T id:String}{Q:Uq}(ha:s.TypeIs a T)(hb:s.TypeIs b T)(hl:typeLookup (.type T) (dunderI "add")=pure (some (.builtin id)))(hi:isSeqSlotId id=true)(hfill:fillsNumberSlot (.type T) "add"=pure false)(hc:wpAny M A (call (.builtin id) [a,b]) Q E s):wpAny M A (inplaceOp .Add a b) Q E s:=by
 unfold inplaceOp;refine RU ?_;have hfi:fillsInplaceSlot (.type T) "add" (Operator.Add == .Add)=pure false:=by unfold fillsInplaceSlot;show(typeLookup (.type T) (dunderI "add")>>=λfi=>pure (fi.isSome&&!isSeqSlot fi))=pure false;rw[hl];show(pure ((some (Value.builtin id)).isSome&&!isSeqSlotId id):Sem Bool)=pure false;rw[hi];rfl
 have hsi:seqSlot? (.type T) (dunderI "add")=pure (some (.builtin id)):=PySem.seqSlot_of hl hi;refine Q0 (Sy ha (Q0 (wpAny_of_eq hfi ?_)));show wpAny M A (if false=true then _ else _) Q E s;rw[if_neg QW];refine Q0 (binaryOp1_none (nm:="add") ha hb hfill ?_);refine Q0 (wpAny_of_eq hsi ?_);exact Q0 (RJ hc)
noncomputable def Pk (K:Frag):Gg:=λx y H Q=>∃l b xs zs,x=.ref l/\y=.ref b/\H l=some (.lst xs)/\bM K H b zs/\xs.length+zs.length<=sizeLine/\Q (.ref l) (upd H l (.lst (xs++zs)))
section
variable{X:Cx}{Ex:XK}
def IF:Ob X .Add (Pk X.K):=by
 intro pins s U H x y v u Q I rx ry h;obtain⟨l,b,xs,zs,rfl,rfl,hH,hB,hz,q⟩:=h;cases rx;cases ry;obtain⟨z,its,n,r,hl,e⟩:=I.AJ hH;obtain⟨z2,its2,n2,r2,e2⟩:=hB.get I;have hl2:=r2.length;have hsz:its.toArray.size+its2.toArray.size<=sizeLine:=by rw[QI,QI];lia
 have hlong:¬(!its.toArray.isEmpty&&Builtin.List.listTooLong (its.toArray.size+its2.toArray.size))=true:=by rw[qi hsz,TU];exact QW
 refine uA (T:="list") ⟨_,e,rfl⟩ ⟨_,e2,rfl⟩ F.slot_list_iadd.lookup (by decide+kernel) noFill_list_add ?_;refine Sb F.slot_list_iadd ⟨_,e,rfl⟩ F.entry_list_iadd (F.args_list_iadd_2 _ _)
  (AutoSeq1.list___iadd___list_list_0 l its.toArray n b its2.toArray n2 hlong (by rw[QI];lia) (by lia)) ⟨e,e2,?_⟩
 refine⟨.ref l,_,I.AO (its':=its++its2) hH e (by simp) (r.append r2) ?_,rfl,q⟩;rw[QE];lia
def MZ{i:Nat}(hN:X.N.Nodup)(hi:X.N[i]?=some x)(hl:Loc X.env.scope x)(hf:X.fn x=true\/X.env.scope.names.lookup x=some .local)(h:SE X Ex (aL X) e d):S1 X Ex (.AugAssign (.Name x pos') .Add e pos) (uQ sizeLine i d):=by
 intro g D' E U H Hm F D hx R p nx rt;obtain⟨hh,p⟩:=p;have hh':here E i=true:=by unfold ir at hh;unfold here;split at hh;{rename_i q;rw[q]};cases hh
 obtain⟨v0,hv0⟩:=kh R hh';refine WS.of (Jr hN hi hl aS IF hf) ⟨v0,cP (iz (aV hi)) hv0,h g D'.xc E U H Hm F _ _ hx R p λE' k v u H' Hm' F' fp p' R' s' T=>?_⟩;obtain⟨fz,pp,ds,es,e1,rfl,hlen,p'⟩:=p';obtain⟨Hm2,up,R2,rp⟩:=T.dI R' fz;obtain⟨b,zs,rfl,hb,rz⟩:=gg rp;obtain⟨v1,h1,h2⟩:=R2.slot i _ _ e1;rw[hv0]at h1;cases h1;generalize hfi:F' i=fi at h2;cases h2 with
 |@ow _ a xs _ ha rx=>
  obtain⟨a',xs',g1,g2,g3,g4,R3⟩:=R2.chg (es:=ds++es) e1 (rx.app rz);rw[hv0]at g1;cases g1;rw[ha]at g2;cases g2;refine⟨a,b,xs,zs,rfl,rfl,ha,bM.mono R2.sub hb,by rw[rx.len,rz.len];exact hlen,?_⟩;show D.nx ((sel (aL X) U).set i (some (.ref a))) _;have hsel:(sel (aL X) U).set i (some (.ref a))=sel (aL X) U:=by refine Qw λj=>?_;rw[RS];by_cases c:i=j;{subst c;have:=cP (iz (aV hi)) hv0;rw[if_pos rfl,this,if_pos];rcases Qy i (sel (aL X) U).length with z|z;{exact z};rw[Qc z]at this;cases this};rw[if_neg c]
  rw[hsel];exact nx _ _ _ _ _ p' R3 (s'.trans up)
def OL(i:Nat)(hN:X.N.Nodup)(h:SE X Ex (aL X) e d)(hi:X.N[i]?=some x:=by rfl)(hl:Loc X.env.scope x:=by first|exact Or.inl rfl|exact Or.inr rfl)(hf:X.fn x=true\/X.env.scope.names.lookup x=some .local:=by first|exact Or.inl rfl|exact Or.inr rfl):S1 X Ex (.AugAssign (.Name x pos') .Add e pos) (uQ sizeLine i d):=MZ hN hi hl hf h
end
end Dv
namespace Dv
open PySem L2 PySem.W
section
variable{K:Frag}{g:Gh}{E:En}{U:St}{H H' Hm Hm':Hp}{F:Nat->VE}
def Rl.Ml(R:Rl K g E U H Hm F){p:Addr}(A:m6 g F H Hm [p]):Rl K g E U (upd H p o) Hm F where
 len:=R.len
 sub:=λb u e=>by
  have:b≠p:=λz=>by rw[z,A.off p Q4]at e;cases e
  rw[ai this];exact R.sub _ _ e
 slot:=λi k d e=>by
  obtain⟨v,h1,h2⟩:=R.slot i k d e;exact⟨v,h1,h2.step (ah.refl _) λa ha=>ai λz=>A.aD p Q4 i (z▸ha)⟩
 off:=R.off
 aT:=λi a ha=>by
  obtain⟨u,hu,n⟩:=R.aT i a ha;have ne:a≠p:=λz=>A.aD p Q4 i (z▸ha)
  exact⟨u,by rw[ai ne];exact hu,n⟩
 aD:=R.aD
 fr:=λq o hq ho=>by
  have:q≠p:=λz=>by rw[z,A.new p Q4]at ho;cases ho
  rw[ai this];exact R.fr q o hq ho
 new:=R.new
 pin:=R.pin
 old:=R.old
end
end Dv
namespace SM
open PySem
section
variable{prog:Program}{w:World}{K:Type} [DecidableEq K]{knd:HeapKind prog w K}{A:Around}{E:Uq}{s:Shared}{d a:Addr}{k:K}{xs:List (K×Addr×Value)}
def A9(hu:knd.room A)(hkey:knd.is s.heap k a)(hm:s.heap.DictOfH knd d xs)(hsz:xs.length<=sizeLine)(old:∀p,atKey xs k=some p->Q p.2 { s with toks:=s.toks+knd.draws k })(new:atKey xs k=none->∀h',h'.DictOfH knd d (storedH xs k a dv)->Heap.SameBut d s.heap h'->Q dv { s with heap:=h',toks:=s.toks+knd.draws k }):wpAny (model prog w) A (dictSetDefault d (.ref a) dv) Q E s:=by
 obtain⟨o,es,ep,ho,hc,hd,he,his,hn⟩:=hm;unfold dictSetDefault;try with_reducible refine RU ?_
 refine Q0 (knd.pyHash hu hkey (?_:_));refine Q0 (wpAny_dictFind_heap (s:={ s with toks:=s.toks+knd.draws k }) hu hkey ho hd he his hn (λhno=>?_) λj p hj=>?_)
 .have hnot:k∉xs.map (·.1):=not_mem_keys_of_get hno;have hat:=atKey_none_of_get hno;refine Q0 (RJ (Q0 (wpAny_updateDictKeys (hz:=by have e:=size_of_entries he;lia) (s:={ s with toks:=s.toks+knd.draws k }) ho hd (Q6 (new hat _ ⟨_,_,ep+1,SY _ ho (Obj.isFreed_of_dict (Obj.data_mapDictKeys hd _)),hc.mapDictKeys _,Obj.data_mapDictKeys hd _,?_,?_,?_⟩ (TX ..))))));{rw[storedH_new hat];simp[he,entryOfKey]}
  .rw[storedH_new hat];intro x hx;rcases QL.mp hx with hx|hx;{exact knd.keeps (his x hx) ho hd (TX ..)};have e:x=(k,a,dv):=by simpa using hx
   subst e;exact knd.keeps hkey ho hd (TX ..)
  rw[storedH_new hat,QZ,U1];refine⟨hn,by simp,λx hx y hy e=>?_⟩;have e2:y=k:=by simpa using hy
  exact hnot (by rw[<-e2,<-e];exact hx)
 have hat:=atKey_of_get hn hj;refine Q0 (U3 (s:={ s with toks:=s.toks+knd.draws k }) ho hd (?_:_));rw[entry_at he j,hj];exact Q0 (RJ (Q6 (old p hat)))
def qT(hu:knd.room A.in1)(hkey:knd.is s.heap k a)(hd0:(d==sysModules)=false)(hm:s.heap.DictOfH knd d xs)(hsz:xs.length<=sizeLine)(old:∀p,atKey xs k=some p->Q p.2 { s with toks:=s.toks+knd.draws k })(new:atKey xs k=none->∀h',h'.DictOfH knd d (storedH xs k a dv)->Heap.SameBut d s.heap h'->Q dv { s with heap:=h',toks:=s.toks+knd.draws k }):wpAny (model prog w) A (call (.builtin "dict.setdefault") [.ref d,.ref a,dv]) Q E s:=by refine Ru F.slot_dict_setdefault hm.typeIs F.entry_dict_setdefault (?_:_) (F.args_dict_setdefault_3 _ _ _);unfold Builtin.«dict.setdefault»;refine Q0 (?_:_);unfold Builtin.Dict.keyAndDefault;refine Q0 (wpAny_notOrdered_dict hm.typeIs (?_:_));refine id (?_:wpAny _ _ (pure (d,Value.ref a,some dv)) _ _ s);refine Q6 (?_:_);refine id (?_:wpAny _ _ (if(d==sysModules)=true then _ else(dictSetDefault d (.ref a) dv>>=_)) _ _ s);rw[if_neg (by rw[hd0];exact QW)];exact Q0 (A9 hu hkey hm hsz (λp hp=>Q6 ⟨p.2,rfl,old p hp⟩) λhn h' hm' hs'=>Q6 ⟨dv,rfl,new hn h' hm' hs'⟩)
end
end SM
namespace L2
open PySem PySem.Spec PyProof.Rows
section
variable{X:Cx}
noncomputable def MK:V->List V->Hp->VK->Prop:=λx vs H Q=>∃(a b:Addr)(kvs:List (List Key×V))(k:List Key) (v:V),x=.ref a/\vs=[.ref b,v]/\H a=some (.dT kvs)/\H b=some (.tup (k.map kV))/\kvs.length<sizeLine /\
 match bY kvs k with
 |some u=>Q u H
 |none=>Q v (upd H a (.dT (kvs++[(k,v)])))
def II(hu:X.A.units+8<cLine):Jk X "dict.setdefault" MK:=by
 intro pins s U H x vs v us Q I rx rv h;obtain⟨a,b,kvs,k,y,rfl,rfl,ha,hb,hl,q⟩:=h;cases rx;obtain⟨u1,u2,rfl,ru1,ru2⟩:=rv.two;cases ru1;obtain⟨z,hd,xs,rel,dd⟩:=FN I.hok ha;have hz:xs.length<=sizeLine:=by rw[<-Paired.length rel];exact z
 have rv2:=rel.val k;refine SM.qT (Sz (by lia)) (lZ I.hok hb) hd dd hz (λp hp=>?_) λhn h' dd' hs=>?_
 .rw[hp]at rv2;cases e:bY kvs k with
  |none=>rw[e]at rv2;exact absurd rv2.eW (by simp)
  |some u=>rw[e]at rv2 q;obtain⟨w',hw,rw'⟩:=iU.some_of (v:=u) (o:=some p.2) rv2;cases hw;exact⟨u,H,I.tok _,rw',q⟩
 rw[hn]at rv2;cases e:bY kvs k with
 |some u=>rw[e]at rv2;exact absurd rv2.eW (by simp)
 |none=>
  rw[e]at q;have ep:putK kvs k y=kvs++[(k,y)]:=by unfold putK;rw[if_neg];rw[qv,e];decide
  have rp:=rel.put k hb ru2;rw[ep]at rp;obtain⟨qo,es,ep',hq,h2,h3,h4,_,h5⟩:=dd';refine⟨y,_,sP I (ob:=.dT (kvs++[(k,y)])) (by rw[ha];exact RV) hs ⟨qo,hq⟩ ⟨by rw[QE];exact hl,hd,_,rp.keeps λc ys ec=>?_,qo,es,ep',hq,h2,h3,h4,h5⟩,ru2,q⟩;rw[ai (GP ec ha (λz=>nomatch z))];exact ec
end
end L2
namespace SM
open PySem
noncomputable def nj (h:Heap)(d:Addr)(es:Uu) (ep:Nat):Prop:=∃o,h.get? d=some o/\o.ExactDict/\o.data=.dict es ep
section
variable{prog:Program}{w:World}{A:Around}{E:Uq}{s:Shared}{es:Uu}{ep:Nat}{v d it:Addr}{i:Nat}
def nj.ty(h:nj s.heap d es ep):s.TypeIs (.ref d) "dict":=by obtain⟨o,ho,hc,_⟩:=h;exact⟨o,ho,hc.1⟩
def Hs(hd:(d==sysModules)=false)(hm:nj s.heap d es ep)(q:Q (.ref s.heap.objs.size) { s with heap:=s.heap.push { cls:=.type "dict_values",data:=.fields #[.ref d] } }) : wpAny (model prog w) A (call (.builtin "dict.values") [.ref d]) Q E s:=by refine Ru F.slot_dict_values hm.ty F.entry_dict_values (?_:_) (F.args_dict_values_1 _);unfold Builtin.«dict.values»;refine Q0 (?_:_);unfold Builtin.Dict.noArgs;refine Q0 (wpAny_notOrdered_dict hm.ty (?_:_));refine id (?_:wpAny _ _ (pure d) _ _ s);refine Q6 (?_:_);refine id (?_:wpAny _ _ (Builtin.Dict.showsAll d>>=_) _ _ s);unfold Builtin.Dict.showsAll;rw[if_neg (by rw[hd];exact QW)];refine Q0 (Q6 (?_:_));exact Q0 (RX (Q6 ⟨_,rfl,q⟩))
def CQ(hv:s.heap.IsValuesView v d)(hm:nj s.heap d es ep)(q:Q (.ref s.heap.objs.size) { s with heap:=s.heap.push { cls:=.type "dict_valueiterator",data:=.fields #[.ref d,.int 0 0,.int es.size 0,.int ep 0] } }):wpAny (model prog w) A (pyIter (.ref v)) Q E s:=by
 obtain⟨ov,v1,v2,v3⟩:=id hv;obtain⟨o,m1,m2,m3⟩:=id hm;refine wpAny_pyIter_slot hv.typeIs F.slot_dict_values_iter (Ru F.slot_dict_values_iter hv.typeIs F.entry_dict_values_iter (?_:_) (F.args_dict_values_iter_1 _));unfold Builtin.«dict_values.__iter__»;refine Q0 (Q6 (?_:_));refine Q0 (?_:_);unfold Builtin.Dict_items.dictOf;refine Q0 (Rt v1 v3 (x:=.ref d) rfl (Q6 (?_:_)));refine Q0 (?_:_);unfold Builtin.Dict_items.newIterator;refine Q0 (U3 m1 m3 (?_:_));refine Q0 (wpAny_dictEpoch m1 m3 (?_:_));have own0:Builtin.Dict_items.ownsTuple "dict_valueiterator"=false:=by decide
 simp only[own0,TH,RZ];refine RX (Q6 ⟨_,rfl,"dict_valueiterator",_,⟨_,Qn _ rfl,rfl⟩,U4.lookup,(?_:_)⟩);simpa[rawInt]using q
def EC(ht:s.heap.IsValIter it d i es.size ep)(hm:nj s.heap d es ep)(hx:es[i]?=some e)(q:∀h',h'.IsValIter it d (i+1) es.size ep->Heap.SameBut it s.heap h'->Q (some e.val) { s with heap:=h' }):wpAny (model prog w) A (pyNext (.ref it)) Q E s:=by
 obtain⟨o,t1,t2,t3⟩:=id ht;obtain⟨od,m1,m2,m3⟩:=id hm;unfold pyNext;refine Q0 (wpAny_attempt (Tj (name:=Str.ofString "__next__") ht.typeIs U4
  (Ru U4 ht.typeIs Uj (?_:_) (Uk _))))
 refine Q0 (Q6 (?_:_));refine Q0 (?_:_);refine Q0 (?_:_);first|refine Q0 (U5 ht.typeIs (Q6 (?_:_)))|refine Q0 (U6 ht.typeIs (Q6 (?_:_)))
 refine Q0 (wpAny_fieldsOf t1 t3 (?_:_));have own0:Builtin.Dict_items.ownsTuple "dict_valueiterator"=false:=by decide
 simp only[own0,TH,RZ];refine id (?_:wpAny _ _ (if(Value.ref d==Value.none)=true then _ else _) _ _ s);have nn:¬((Value.ref d==Value.none)=true):=λz=>QW z;rw[if_neg nn];refine Q0 (Q6 (?_:_));refine Q0 (U3 m1 m3 (?_:_));rw[if_neg (by simp)];refine Q0 (Q6 (?_:_));refine Q0 (wpAny_dictEpoch m1 m3 (?_:_));rw[if_neg (by simp)];refine Q6 (?_:_);have lt:i<es.size:=(Tp.mp hx).1;have ev:es[i]=e:=(Tp.mp hx).2;simp only[show ¬((i:Int)<0)from Ry.mpr (Ss i),RZ,Ti,T8 lt];refine Q0 (?_:_);first|refine Q0 (U5 ht.typeIs (Q6 (?_:_)))|refine Q0 (U6 ht.typeIs (Q6 (?_:_)))
 refine Q0 (Uc ht.typeIs (?_:_));refine id (?_:wpAny _ _ (setField (.ref it) 1 (rawInt ((i:Int)+1))>>=_) _ _ s);refine Q0 (T5 t1 t3 (by simp) (?_:_));have ht':(s.heap.update it (Obj.mapFields (·.setIfInBounds 1 (rawInt ((i:Int)+1))))).IsValIter it d (i+1) es.size ep:=
  ⟨_,SY _ t1 (UR (To t3 _)),(Obj.cls_mapFields ..).trans t2,by rw[To t3];simp[rawInt]⟩
 generalize hU:s.heap.update it (Obj.mapFields (·.setIfInBounds 1 (rawInt ((i:Int)+1))))=VM at ht'⊢;refine Q0 (RU (?_:_));refine Q0 (Uc (s:={ s with heap:=VM }) ht'.typeIs (?_:_));refine Q0 (Uc (s:={ s with heap:=VM }) ht'.typeIs (?_:_));refine id (?_:wpAny _ _ (pure es[i].val) _ _ _);refine Q6 (Q6 ⟨_,rfl,Q6 (?_:_)⟩);rw[ev];exact q VM ht' (hU▸TX ..)
def xJ(hh:A.handled=none)(ht:s.heap.IsValIter it d i es.size ep)(hm:nj s.heap d es ep)(hx:es.size<=i)(q:∀h',Heap.ExtBut it s.heap h'->Q none { s with heap:=h' }):wpAny (model prog w) A (pyNext (.ref it)) Q E s:=by
 obtain⟨o,t1,t2,t3⟩:=id ht;obtain⟨od,m1,m2,m3⟩:=id hm;unfold pyNext;refine Q0 (wpAny_attempt (Tj (name:=Str.ofString "__next__") ht.typeIs U4
  (Ru U4 ht.typeIs Uj (?_:_) (Uk _))))
 refine Q0 (Q6 (?_:_));refine Q0 (?_:_);refine Q0 (?_:_);first|refine Q0 (U5 ht.typeIs (Q6 (?_:_)))|refine Q0 (U6 ht.typeIs (Q6 (?_:_)))
 refine Q0 (wpAny_fieldsOf t1 t3 (?_:_));have own0:Builtin.Dict_items.ownsTuple "dict_valueiterator"=false:=by decide
 simp only[own0,TH,RZ];refine id (?_:wpAny _ _ (if(Value.ref d==Value.none)=true then _ else _) _ _ s);have nn:¬((Value.ref d==Value.none)=true):=λz=>QW z;rw[if_neg nn];refine Q0 (Q6 (?_:_));refine Q0 (U3 m1 m3 (?_:_));rw[if_neg (by simp)];refine Q0 (Q6 (?_:_));refine Q0 (wpAny_dictEpoch m1 m3 (?_:_));rw[if_neg (by simp)];refine Q6 (?_:_);simp only[show ¬((i:Int)<0)from Ry.mpr (Ss i),RZ,Ti,Array.getElem?_eq_none hx];refine Q0 (?_:_);first|refine Q0 (U5 ht.typeIs (Q6 (?_:_)))|refine Q0 (U6 ht.typeIs (Q6 (?_:_)))
 refine id (?_:wpAny _ _ (setField (.ref it) 0 .none>>=_) _ _ s);refine Q0 (T5 t1 t3 (by simp) (?_:_));refine id (?_:wpAny _ _ (newExc (.type "StopIteration") []>>=_) _ _ _);refine Q0 (?_:_);simp only[newTuple,newExc];refine Q0 (RX (?_:_) (by size_fits));refine Q0 (m:=firstArgMember _ _) (wpAny_of_eq (a:=Value.none) (by first|rfl|(simp only[firstArgMember];rfl)) (?_:_));refine RX (?_:_) (by size_fits);simp only[raiseNew];refine Q0 (wpAny_handled (?_:_));rw[show A.in1.handled=none from hh];refine Q0 (Q6 (wpAny_throw (?_:_)));refine Q0 (wpAny_isInstance (T:="StopIteration") (b:=true) ⟨_,Qn _ rfl,rfl⟩ isSubtype_stop (?_:_));exact Q6 (q _ (((TX ..).extBut.push _).push _))
end
end SM
namespace L2
open PySem PySem.Spec PyProof.Rows
theorem tU{α β:Type}{F:α->β->Prop}:∀{l:List α}{m:List β},Paired F l m->∀{i:Nat}{x:α},l[i]?=some x->∃y,m[i]?=some y/\F x y
 |_,_,.nil,_,_,h=>nomatch h
 |_,_,.cons r _,0,_,h=>by cases h;exact⟨_,rfl,r⟩
 |_,_,.cons _ t,i+1,_,h=>tU t (i:=i) h
end L2
namespace Dv
open PySem L2 PySem.W
section
variable{X:Cx}{Ex:XK}{Y:VI}{pos:Pos}{tg:Expr}
def set_same{U:St}{i:Nat}(h:U[i]?=some (some v)):U.set i (some v)=U:=by refine Qw λj=>?_;rw[RS];by_cases c:i=j;{subst c;rw[if_pos rfl,h,if_pos (aV h)]};rw[if_neg c]
end
noncomputable def Rec (K:Frag) (x:Str)(st:Stmt):Prop:=∃(f:Addr)(fd:FuncData),nsIn K mainGlobals x=some (some (.ref f))/\qM K x x st f fd
def LW{K:Frag}{x:Str}{st:Stmt}{f:Addr}{oc:Value}{od an:VC}{osl:Up}{kV doc pm cdv ct:Value}(n:nsIn K mainGlobals x=some (some (.ref f)))(l:K.lookup f=some ⟨oc,od,.func (fnOf x x (ji st) (gn st) (av st) .none kV doc pm an cdv ct),osl⟩)(c:codeIn K cdv x=true)(k:keepIn K (.ref f)=true):Rec K x st:=⟨f,_,n,Lv l c k⟩
noncomputable def Ll (K:Frag) (x:Str):Prop:=∃C,nsIn K mainGlobals x=some (some (.ref C))/\jH K C Bl "ValueError.__new__" none=true
def Hh{K:Frag}{x:Str}{C:Addr}(h1:nsIn K mainGlobals x=some (some (.ref C)))(h2:jH K C Bl "ValueError.__new__" none=true):Ll K x:=⟨C,h1,h2⟩
def bB{P:Program}{w:World}{K:Frag}{base:Heap}{mg:Us}{k:Nat}{x:Str}{ps:VL}{sp:Sp}{st:Stmt}(N:∃h:Heap,K.In h/\h.Ns mainGlobals mg)(r:Rec K x st)(b:∀(kV doc pm:Value)(an:VC)(cdv ct:Value)(us:VD),us.length=ps.length->bindArgs (fnOf x x (ji st) (gn st) (av st) .none kV doc pm an cdv ct) ⟨us,[]⟩=pure (ps.zip us))(ok:∀{f:Addr}{fd:FuncData},qM K x x st f fd->fH P w K mg base (dY P w) k f fd ps sp):bX P w K mg base k x ps sp:=by obtain⟨f,fd,n,F⟩:=r;obtain⟨h,X,G⟩:=N;exact⟨f,fd,mg_of X G n,F.kp,F.binds b,ok F⟩
end Dv
namespace L2
open PySem PySem.Spec PyProof.Rows
section
variable{prog:Program}{w:World}{A:Around}{E:Uq}{s:Shared}{l:Addr}{xs:Array (Int×Tok)}
def pN(hl:s.heap.IsTuple l (intItems xs))(h:∀s₂:Shared,s₂={ s with heap:=s.heap.push { cls:=.type "tuple_iterator",data:=.fields #[.ref l,.int 0 0] } }-> (s₂.heap.IsTupleIter s.heap.objs.size l 0/\s₂.heap.IsTuple l (intItems xs))->(∀b∈[s.heap.objs.size,l],b<s₂.heap.objs.size)->l≠s.heap.objs.size->Q (.ref s.heap.objs.size) s₂) : wpAny (model prog w) A (pyIter (.ref l)) Q E s:=by
 have hlt:l<s.heap.objs.size:=by obtain⟨_,e,_⟩:=hl;exact QD e
 refine wpAny_pyIter_tuple hl (h _ rfl ⟨⟨_,Qn _ rfl,rfl,rfl⟩,hl.push _⟩ (λb hb=>?_) (QV hlt));show b<(s.heap.push _).objs.size;rw[Heap.size_push];rcases QG.mp hb with rfl|hb;{exact TQ _};rcases QG.mp hb with rfl|hb;{exact TJ hlt};cases hb
def ud{h':Heap}(hk:∀b o,b∉[s.heap.objs.size]->(s.heap.push o1).get? b=some o->h'.get? b=some o) : ∀b o,s.heap.get? b=some o->h'.get? b=some o:=λb o e=>by refine hk b o (λhm=>?_) (QU _ e);rcases QG.mp hm with e1|hm;{exact absurd (e1▸QD e) (Qx _)};cases hm
def zE(hh:A.handled=none)(hl:s.heap.IsTuple l (intItems xs))(hne:0<xs.size)(h:∀v h' tk,(intItems xs)[argBest (λi j=>decide (numAt xs i>numAt xs j)) (xs.size-1)]?=some v->(∀b o,s.heap.get? b=some o->h'.get? b=some o)->Q v { s with heap:=h',toks:=tk }) : wpAny (model prog w) A (call (.builtin "max") [.ref l]) Q E s:=by refine call_max_walk (pN hl λs₂ e st hfp hlI=>?_);subst e;refine⟨_,_,_,_,_,_,_,rfl,Walks.tuple (A:=A.in1) hh _ l hlI (intItems xs),st,hfp,by simpa[intItems]using hne,CmpOf.ints_gt (numAt xs) (λ_ _=>TM),λv h' tk hP hk=>?_⟩;exact h v h' tk (by simpa[intItems]using hP) (ud hk)
def AK(hh:A.handled=none)(hl:s.heap.IsTuple l (intItems xs))(hne:0<xs.size)(h:∀v h' tk,(intItems xs)[argBest (λi j=>decide (numAt xs i<numAt xs j)) (xs.size-1)]?=some v->(∀b o,s.heap.get? b=some o->h'.get? b=some o)->Q v { s with heap:=h',toks:=tk }) : wpAny (model prog w) A (call (.builtin "min") [.ref l]) Q E s:=by refine call_min_walk (pN hl λs₂ e st hfp hlI=>?_);subst e;refine⟨_,_,_,_,_,_,_,rfl,Walks.tuple (A:=A.in1) hh _ l hlI (intItems xs),st,hfp,by simpa[intItems]using hne,CmpOf.ints_lt (numAt xs) (λ_ _=>TM),λv h' tk hP hk=>?_⟩;exact h v h' tk (by simpa[intItems]using hP) (ud hk)
end
section
variable{X:Cx}
inductive CY(K:Uy)(xs:List V)(H:Hp)(Q:VK):Prop
 |mk:∀(a:Addr)(ns:VJ),(xs=[.ref a])->(bE K H a (ns.map V.int))->(ns≠[])->(∀M,M∈ns->(∀n∈ns,M<=n)->Q (.int M) H)->CY K xs H Q
noncomputable def FJ (K:Uy):List V->Hp->VK->Prop:=λxs H Q=>CY K xs H Q
inductive Cb(K:Uy)(xs:List V)(H:Hp)(Q:VK):Prop
 |mk:∀(a:Addr)(ns:VJ),(xs=[.ref a])->(bE K H a (ns.map V.int))->(ns≠[])->(∀M,M∈ns->(∀n∈ns,n<=M)->Q (.int M) H)->Cb K xs H Q
noncomputable def FE (K:Uy):List V->Hp->VK->Prop:=λxs H Q=>Cb K xs H Q
def D3(hc:X.calm=true):bZ X (.builtin "min") (FJ X.K):=by
 intro pins s U H xs us Q I r h;obtain⟨a,ns,rfl,hq,ne,q⟩:=h;obtain⟨u,rfl,ru⟩:=vals1 r;cases ru;obtain⟨its,rv,p,_⟩:=I.tuple hq;obtain⟨ps,rfl,rfl⟩:=oB rv;have hl:s.heap.IsTuple a (intItems ps.toArray):=by have:s.heap.IsTuple a (ps.map (λp=>Value.int p.1 p.2)).toArray:=p;simpa[intItems]using this
 refine AK (I.ok.hd hc) hl (by simpa using Sg.mpr (λe=>ne (by rw[e];rfl))) λv h' tk hv hk=>?_;obtain⟨t,rfl⟩:=TM hv;obtain⟨g1,g2⟩:=argBest_lt (numAt ps.toArray) (ps.toArray.size-1);have pos:0<ps.length:=Sg.mpr λe=>ne (by rw[e];rfl);refine⟨.int _,H,I.kept (t':=tk) hk,⟨_,rfl⟩,q _ ?_ λn hn=>?_⟩;{rw[numAt_eq];exact getD_mem (by simp at g1⊢;lia)};obtain⟨j,hj,rfl⟩:=mem_getD hn;rw[Q5]at hj;have e:(ps.map (·.1)).getD j 0=numAt ps.toArray j:=by rw[numAt_eq]
 rw[e];exact g2 j (by simp;lia)
def BF(hc:X.calm=true):bZ X (.builtin "max") (FE X.K):=by
 intro pins s U H xs us Q I r h;obtain⟨a,ns,rfl,hq,ne,q⟩:=h;obtain⟨u,rfl,ru⟩:=vals1 r;cases ru;obtain⟨its,rv,p,_⟩:=I.tuple hq;obtain⟨ps,rfl,rfl⟩:=oB rv;have hl:s.heap.IsTuple a (intItems ps.toArray):=by have:s.heap.IsTuple a (ps.map (λp=>Value.int p.1 p.2)).toArray:=p;simpa[intItems]using this
 refine zE (I.ok.hd hc) hl (by simpa using Sg.mpr (λe=>ne (by rw[e];rfl))) λv h' tk hv hk=>?_;obtain⟨t,rfl⟩:=TM hv;obtain⟨g1,g2⟩:=argBest_gt (numAt ps.toArray) (ps.toArray.size-1);have pos:0<ps.length:=Sg.mpr λe=>ne (by rw[e];rfl);refine⟨.int _,H,I.kept (t':=tk) hk,⟨_,rfl⟩,q _ ?_ λn hn=>?_⟩;{rw[numAt_eq];exact getD_mem (by simp at g1⊢;lia)};obtain⟨j,hj,rfl⟩:=mem_getD hn;rw[Q5]at hj;have e:(ps.map (·.1)).getD j 0=numAt ps.toArray j:=by rw[numAt_eq]
 rw[e];exact g2 j (by simp;lia)
end
section
variable{X:Cx}
noncomputable def qI (i j:Int):Prop:=i.natAbs<2^128/\j.natAbs<2^128
noncomputable def Aw (i j:Int):Prop:=0<=j/\j<=1000/\i.natAbs<2^128
def qI.ok{i j:Int}(h:qI i j):IntMulOk i j:=
 .of_bits (Qd (intBits_le h.1) (by decide)) (Qd (intBits_le h.2) (by decide))
def Ij:bq X (binaryOp .Mult) (rI qI λi j=>.int (i*j)):=zj λ_ _ _ _ _ _ _ hc q=>mul_int q hc.ok
def Hg:bq X (binaryOp .Pow) (rI Aw λi j=>.int (i^j.toNat)):=zj λi j _ _ _ _ _ hc q=>by have h1:=hc.1;have h2:=hc.2.1;have h3:=intBits_le hc.2.2;refine pow_int h1 ?_ q;have:(Builtin.Int.intBits i:Int)*j<=128*1000:=Int.mul_le_mul (by lia) h2 h1 (by lia);exact RG this (by decide)
end
end L2
namespace Dv
open PySem L2 PySem.W
noncomputable def zR:DR:=oF qI λi j=>.int (i*j)
noncomputable def zG:DR:=oF Aw λi j=>.int (i^j.toNat)
def jm{a b:Int}:zR [.int a,.int b] P=(qI a b/\P .sh (.int (a*b))):=rfl
def jo{a b:Int}:zG [.int a,.int b] P=(Aw a b/\P .sh (.int (a^b.toNat))):=rfl
section
variable{X:Cx}{Ex:XK}{Y:VI}{a b:Expr}{as:List Arg}{pos:Pos}
def Nu(S:aH X Ex Y [a,b] as):SE X Ex Y (.BinOp a .Mult b pos) (aa zR as):=iK Ij (kY λ_ _ _=>.int _) S
def MO(S:aH X Ex Y [a,b] as):SE X Ex Y (.BinOp a .Pow b pos) (aa zG as):=iK Hg (kY λ_ _ _=>.int _) S
end
noncomputable def mH:DR:=λds P=>match ds with
 |[.tuple [.int a,.int b]]=>P .sh (.int (if b<a then b else a))
 |_=>False
noncomputable def mG:DR:=λds P=>match ds with
 |[.tuple [.int a,.int b]]=>P .sh (.int (if b>a then b else a))
 |_=>False
def l5{a b:Int}:mH [.tuple [.int a,.int b]] P=P .sh (.int (if b<a then b else a)):=rfl
def lW{a b:Int}:mG [.tuple [.int a,.int b]] P=P .sh (.int (if b>a then b else a)):=rfl
def EJ:cg K mH (FJ K):=by
 intro H Hm vs ds P Q s r h q;unfold mH at h;split at h
 .obtain⟨x,rfl,h1⟩:=dB r;cases h1 with
  |@tup a xs _ a1 r1=>
   obtain⟨y,z,rfl,h2,h3⟩:=eU r1;cases h2;cases h3;rename_i i j;refine⟨a,[i,j],rfl,bE.of (s _ _ a1),U7 _ _,λM m1 m2=>?_⟩;have e:M=if j<i then j else i:=by have e1:=m2 i (by simp);have e2:=m2 j (by simp);simp only[QG,R9,Rb]at m1;split<;>lia
   rw[e];exact bz.sc q s h (.int _)
 exact h.elim
def EU:cg K mG (FE K):=by
 intro H Hm vs ds P Q s r h q;unfold mG at h;split at h
 .obtain⟨x,rfl,h1⟩:=dB r;cases h1 with
  |@tup a xs _ a1 r1=>
   obtain⟨y,z,rfl,h2,h3⟩:=eU r1;cases h2;cases h3;rename_i i j;refine⟨a,[i,j],rfl,bE.of (s _ _ a1),U7 _ _,λM m1 m2=>?_⟩;have e:M=if j>i then j else i:=by have e1:=m2 i (by simp);have e2:=m2 j (by simp);simp only[QG,R9,Rb]at m1;split<;>lia
   rw[e];exact bz.sc q s h (.int _)
 exact h.elim
section
variable{X:Cx}{Ex:XK}{Y:VI}{a b:Expr}{as:List Arg}{pos p:Pos}
def Gk(hm:X.mg "min"=none)(S:aH X Ex Y [a] as)(hc:X.calm=true:=by rfl)(hg:Gl X "min":=by rfl)(ns:noStar a=true:=by rfl):SE X Ex Y (.Call (.Name "min" p) [a] [] pos) (aa mH as):=fX (D3 hc) EJ hg hm Ub (by decide) (by decide) (by rw[QH,ns];rfl) S
def GH(hm:X.mg "max"=none)(S:aH X Ex Y [a] as)(hc:X.calm=true:=by rfl)(hg:Gl X "max":=by rfl)(ns:noStar a=true:=by rfl):SE X Ex Y (.Call (.Name "max" p) [a] [] pos) (aa mG as):=fX (BF hc) EU hg hm PyProof.Rows.boot_max (by decide) (by decide) (by rw[QH,ns];rfl) S
end
end Dv
namespace L2
open PySem PySem.Spec PyProof.Rows
end L2
namespace Dv
open PySem L2 PySem.W
noncomputable def DU (k:Kd)(v:PyData)(Q:VB->Prop):Prop:=match k,v with
 |.ow _,.list es=>Q es
 |_,_=>False
noncomputable def wZ (as:List Arg)(us:VB)(E:En)(k:Kd)(v:PyData):Option En:=cL ((b5 as).all (gH E)||(flat k v&&us.all (flat (.ow false)))) (some E) (fR (b5 as) E)
noncomputable def qL (sp:bF)(as1:List Arg)(d0:DE)(as2 as:List Arg):DE:=λx E Q=>gx as1 x E λE1 os1=>d0 x E1 λE2 k v=>DU k v λes=>gx as2 x E2 λE3 os2=>aq (bT as1 E3 os1) λds1=>aq (bT as2 E3 os2) λds2=>sp (ds1++.list es::ds2) (λus k v=>aq (wZ as us E3 k v) λE4=>Q E4 k v) x
def Em:qL sp as1 d0 as2 as x (o::E) Q=gx as1 x (o::E) λE1 os1=>d0 x E1 λE2 k v=>DU k v λes=>gx as2 x E2 λE3 os2=>aq (bT as1 E3 os1) λds1=>aq (bT as2 E3 os2) λds2=>sp (ds1++.list es::ds2) (λus k v=>aq (wZ as us E3 k v) λE4=>Q E4 k v) x:=rfl
def M8{p:Bool}:DU (.ow p) (.list es) Q=Q es:=rfl
def LH:wZ as us (o::E) k v=cL ((b5 as).all (gH (o::E))||(flat k v&&us.all (flat (.ow false)))) (some (o::E)) (fR (b5 as) (o::E)):=rfl
def Ng(h:DU k v Q):∃p es,k=.ow p/\v=.list es/\Q es:=by unfold DU at h;split at h;{exact⟨_,_,rfl,rfl,h⟩};exact h.elim
section
variable{K:Frag}
theorem Got.mono{U:St}{Hm Hm':Hp}{as:List Arg}{os:List (Option PyData)}{vs:List V}(s:ah Hm Hm')(G:Got K U Hm as os vs):Got K U Hm' as os vs:=by
 induction G with
 |nil=>exact .nil
 |pk h _ ih=>exact .pk h ih
 |ev r _ ih=>exact .ev (r.mono s) ih
def BD(h:Ag K H Hm ms vs2 ds2 as):au K Hm vs1 ds1->Ag K H Hm (List.replicate vs1.length false++ms) (vs1++vs2) (ds1++ds2) as:=by
 induction ds1 generalizing vs1 with
 |nil=>intro r;cases r;exact h
 |cons d ds ih=>intro r;cases r with|cons a b=>exact .sh a (ih b)
def J3(r:au K Hm vs ds):Ag K H Hm (List.replicate vs.length false) vs ds []:=by have h:=BD (Ag.nil (K:=K) (H:=H) (Hm:=Hm)) r;rwa[Qz,Qz,Qz]at h
def yQ{U:St}{Hm:Hp}{as:List Arg}{os:List (Option PyData)}{vs:List V}(G:Got K U Hm as os vs):vs.length=as.length:=by
 induction G with
 |nil=>rfl
 |pk _ _ ih=>exact congrArg (·+1) ih
 |ev _ _ ih=>exact congrArg (·+1) ih
noncomputable def Gh.put (g:Gh)(a:Addr)(o:HO):Gh:={ H0:=upd g.H0 a o,c9:=λb=>if b=a then none else g.c9 b,pins:=g.pins }
def Rl.beside{F:Nat->VE}{a:Addr}(R:Rl K g E U H Hm F)(ha:H a=some o)(hm:Hm a=none)(nf:∀i,a∉F i)(h0:g.H0 a=none):Rl K (g.put a o) E U H Hm F where
 len:=R.len
 sub:=R.sub
 slot:=R.slot
 off:=R.off
 aT:=R.aT
 aD:=R.aD
 fr:=λp u hp hu=>by
  by_cases c:p=a
  .subst c
   replace hu:upd g.H0 p o p=some u:=hu
   rw[ay]at hu;cases hu;exact ha
  .replace hu:upd g.H0 a o p=some u:=hu
   rw[ai c]at hu;exact R.fr p u hp hu
 new:=λi b hb=>by
  rcases R.new i b hb with z|z
  .exact .inl z
  .exact .inr ((ai λy=>nf i (by rw[<-y];exact hb)).trans z)
 pin:=R.pin
 old:=λb hb=>by
  show OE (Hm b) (if b=a then none else g.c9 b)
  by_cases c:b=a
  .rw[if_pos c,c,hm];exact .rfl'
  .rw[if_neg c];exact R.old b (by replace hb:upd g.H0 a o b≠none:=hb;rwa[ai c]at hb)
def Rl.HN{F:Nat->VE}{a:Addr}(R:Rl K (g.put a (.lst xs)) E U H Hm F)(nM:a∉g.M)(h0:g.H0 a=none) : H a=some (.lst xs)/\Hm a=none/\(∀i,a∉F i)/\Rl K g E U (λb=>if b=a then none else H b) Hm F:=by
 have ha:H a=some (.lst xs):=R.fr a _ nM ay;have hm:Hm a=none:=by have h:=R.old a (by show upd g.H0 a (.lst xs) a≠none;rw[ay];exact λz=>nomatch z);refine h.off ?_ R.sub ha j9;show(if a=a then none else g.c9 a)=none;exact if_pos rfl
 have nf:∀i,a∉F i:=λi z=>by rcases R.new i a z with y|y;{exact nM y};replace y:upd g.H0 a (.lst xs) a=none:=y;rw[ay]at y;cases y
 have nF:∀{i b},b∈F i->b≠a:=λh z=>nf _ (z▸h);refine⟨ha,hm,nf,{ len:=R.len,sub:=λb o e=>?_,slot:=λi k d e=>?_,off:=R.off,aT:=λi b hb=>?_,aD:=R.aD,fr:=λp u hp hu=>?_,new:=λi b hb=>?_,pin:=R.pin,old:=λb hb=>?_ }⟩;{show(if b=a then none else H b)=some o;rw[if_neg λz=>by rw[z,hm]at e;cases e];exact R.sub b o e};{obtain⟨v,h1,h2⟩:=R.slot i k d e;exact⟨v,h1,h2.step (ah.refl _) λb hb=>if_neg (nF hb)⟩};{obtain⟨u,hu,nt⟩:=R.aT i b hb;exact⟨u,(if_neg (nF hb)).trans hu,nt⟩}
 .have c:p≠a:=λz=>by rw[z,h0]at hu;cases hu
  exact(if_neg c).trans (R.fr p u hp ((ai c).trans hu))
 .rcases R.new i b hb with z|z;{exact .inl z};exact .inr ((ai (nF hb)).symm.trans z)
 have c:b≠a:=λz=>hb (by rw[z,h0]);have h:=R.old b (by show upd g.H0 a (.lst xs) b≠none;rwa[ai c]);have e:(g.put a (.lst xs)).c9 b=g.c9 b:=if_neg c;rwa[e]at h
end
section
variable{X:Cx}{Ex:XK}{Y:VI}
def IJ(h:oi X es1 U H λvs1 H1=>oi X es2 U H1 λvs2 H2=>Q (vs1++vs2) H2):oi X (es1++es2) U H Q:=by
 induction es1 generalizing H Q with
 |nil=>exact h
 |cons e es ih=>exact λpins s I=>aJ (h pins s I) λv s1 ⟨y,H1,I1,r1,w⟩=>⟨y,H1,I1,r1,ih w⟩
def EM{x:Str}{k:Nat}{ps:VL}{sp:bF}{p pos:Pos}{e0:Expr}{es1 es2:VG}{d0:DE}{as1 as2:List Arg}(F:bX X.prog X.w X.K X.mg X.base k x ps (b8 X.mg X.K (List.replicate es1.length false++true::List.replicate es2.length false) sp))(hp:Passes (dY X.prog X.w) X Ex)(hr:cQ k X.A)(hg:Gl X x)(hd:(x==("__debug__":Str))=false){e:Expr}{es:VG}(hes:e::es=es1++e0::es2)(ns:(e::es).all noStar=true)(S1:aH X Ex Y es1 as1)(S0:SE X Ex Y e0 d0)(S2:aH X Ex Y es2 as2):SE X Ex Y (.Call (.Name x p) (e::es) [] pos) (qL sp as1 d0 as2 (as1++as2)):=by
 intro g xc E U H Hm Fo P Q hx R h q;obtain⟨f,fd,h1,h2,h3,h4⟩:=F;refine WE.of (zh (E:=Ex) h4 hr hg h1 h2 h3 .nil hp (cY ns) hd (aO (by rw[QH,QA]at ns;exact ns.1)) (eY (by rw[QH,QA]at ns;exact ns.2))) ?_;rw[hes];refine IJ ?_;refine iN hx S1 R h λE1 os1 vs1 H1 Hm1 F1 p1 R1 s1 G1=>?_;refine S0 g xc E1 U H1 Hm1 F1 _ _ hx R1 p1 λE2 k v u H2 Hm2 F2 fp p2 R2 s2 T=>?_;obtain⟨b,es',rfl,rfl,p2⟩:=Ng p2;obtain⟨own,toff,tdis,tnew⟩:=T;cases own with
 |@ow _ a xs _ ha hxs=>
 have hm:=toff a Q4;have nf:=tdis a Q4;have h0:=tnew a Q4;have nM:a∉g.M:=λz=>by obtain⟨y,hy,rfl⟩:=Q9.mp z;exact nf y.1 (by rw[R2.wU hy];exact Q4)
 have hx':XL X Ex xc (g.put a (.lst xs)):=λc d C b H' hC hxc fr hb hn=>by
  replace hn:upd g.H0 a (.lst xs) b=none:=hn;have nb:b≠a:=λz=>by rw[z,ay]at hn;cases hn
  exact hx c d C b H' hC hxc (λp o hp ho=>fr p o hp (by
   show upd g.H0 a (.lst xs) p=some o;rw[ai λz=>by rw[z,h0]at ho;cases ho];exact ho)) hb (by rwa[ai nb]at hn)
 refine iN hx' S2 (R2.beside ha hm nf h0) p2 λE3 os2 vs2 H3 Hm3 F3 p3 R3 s3 G2=>?_;obtain⟨ha3,hm3,nf3,R4⟩:=R3.HN nM h0;rw[<-aR,dD]at p3;obtain⟨ds1,f1,p3⟩:=p3;rw[<-aR,dD]at p3;obtain⟨ds2,f2,p3⟩:=p3;have off:∀c∈(b5 (as1++as2)).flatMap F3,Hm3 c=none:=λc hc=>by obtain⟨i,_,h⟩:=Qj.mp hc;exact R4.off i c h
 have up:=gu (Hm:=Hm3) (H:=λb=>if b=a then none else H3 b) off;have pin:∀(as:List Arg),(∀i∈b5 as,i∈b5 (as1++as2))->∀i∈b5 as,∀c∈F3 i,lend Hm3 (λb=>if b=a then none else H3 b) ((b5 (as1++as2)).flatMap F3) c=(if c=a then none else H3 c):=λas hs i hi c hc=>dW (Qj.mpr ⟨i,hs i hi,hc⟩);have pk1:∀{as bs:List Arg}{i:Nat},i∈b5 as->i∈b5 (as++bs):=by
  intro as bs i;induction as with
  |nil=>intro h;cases h
  |cons y as ih=>
   cases y with
   |pk j=>intro h;rcases QG.mp h with rfl|h;{exact Q4};exact QB _ (ih h)
   |ev d=>exact ih
 have pk2:∀{as bs:List Arg}{i:Nat},i∈b5 bs->i∈b5 (as++bs):=by
  intro as bs i;induction as with
  |nil=>exact id
  |cons y as ih=>
   cases y with
   |pk j=>exact λh=>QB _ (ih h)
   |ev d=>exact ih
 have r1:=lS R4 up (G1.mono (s2.trans s3)) f1 (pin _ λ_=>pk1);have r2:=lS R4 up G2 f2 (pin _ λ_=>pk2);have lo:lend Hm3 (λb=>if b=a then none else H3 b) ((b5 (as1++as2)).flatMap F3) a=none:=by
  rw[b7 λz=>by
   obtain⟨i,_,h⟩:=Qj.mp z;exact nf3 i h]
  exact hm3
 have sb:ah (lend Hm3 (λb=>if b=a then none else H3 b) ((b5 (as1++as2)).flatMap F3)) H3:=λc o e=>by have e2:=gY R4.sub c o e;replace e2:(if c=a then none else H3 c)=some o:=e2;split at e2;{cases e2};exact e2
 have l1:vs1.length=es1.length:=by
  have:∀{es:VG}{as:List Arg},aH X Ex Y es as->es.length=as.length:=λS=>by
   induction S with
   |nil=>rfl
   |pk _ _ _ ih=>exact congrArg (·+1) ih
   |ev _ _ ih=>exact congrArg (·+1) ih
  rw[yQ G1,this S1]
 have l2:vs2.length=es2.length:=by
  have:∀{es:VG}{as:List Arg},aH X Ex Y es as->es.length=as.length:=λS=>by
   induction S with
   |nil=>rfl
   |pk _ _ _ ih=>exact congrArg (·+1) ih
   |ev _ _ ih=>exact congrArg (·+1) ih
  rw[yQ G2,this S2]
 have ag:Ag X.K H3 (lend Hm3 (λb=>if b=a then none else H3 b) ((b5 (as1++as2)).flatMap F3)) (List.replicate vs1.length false++true::List.replicate vs2.length false) (vs1++.ref a::vs2) (ds1++.list es'::ds2) [a]:=BD (.mu ha3 (((hxs.mono s3).mono up)) lo (by simp) (J3 r2)) r1;rw[l1,l2]at ag;show b8 X.mg X.K _ sp ((vs1++.ref a::vs2)++[]) H3 Q Ex;rw[Qz];refine⟨_,_,_,_,xc,sb,ag,p3,λus k r u H' Hm' fp p4 sM sS fr old bk o new=>?_,λc d C b H' hC hxc fr hb hn=>?_⟩
 .replace p4:aq (wZ (as1++as2) us E3 k r) λE4=>P E4 k r:=p4;rw[<-aR]at p4;obtain⟨E4,hE,p4⟩:=p4;unfold wZ at hE;rw[bH,mR]at hE;have hn:∀{c},(if c=a then none else H3 c)≠none->c≠a/\H3 c≠none:=λ{c} h=>by by_cases z:c=a;{rw[if_pos z]at h;exact absurd rfl h};rw[if_neg z]at h;exact⟨z,h⟩
  obtain⟨Hm'',F'',R'',s'',T⟩:=qJ R4 (E2:=E3) (E3:=E4) (is:=b5 (as1++as2)) (ix:=[]) (us:=us) (λ_ z=>nomatch z) (λ_ z=>nomatch z) rfl (λ_ _=>rfl) (λ_ z=>nomatch z) (rV hE) sM sS
   (λp w hp hw=>fr p w (λz=>by rw[Q8.mp z,if_pos rfl]at hw;cases hw) (by
    by_cases z:p=a
    .rw[if_pos z]at hw;cases hw
    .rw[if_neg z]at hw;exact hw)) (λc _ hc=>old c (λz=>(hn hc).1 (Q8.mp z)) (hn hc).2) o (λc hc=>by
     obtain⟨n1,n2⟩:=new c hc;exact⟨by show(if c=a then none else H3 c)=none;rw[n1];split<;>rfl,n2⟩)
  exact q _ _ _ _ _ _ _ _ p4 R'' (s1.trans (s2.trans (s3.trans s''))) T
 refine hx c d C b H' hC hxc (λp o hp ho=>fr p o (λz=>?_) (R3.fr p o hp ?_)) hb ?_;{rw[Q8.mp z,h0]at ho;cases ho};{show upd g.H0 a (.lst xs) p=some o;rw[ai λz=>by rw[z,h0]at ho;cases ho];exact ho};have n:=R3.eL hn;replace n:upd g.H0 a (.lst xs) b=none:=n;rwa[ai λz=>by rw[z,ha3]at hn;cases hn]at n
def Kw{k k':Nat}{x:Str}{ps:VL}{sp:bF}{p pos:Pos}{e0 e:Expr}{es es1 es2:VG}{d0:DE}{as1 as2:List Arg}{ms:VF}(F:bX X.prog X.w X.K X.mg X.base k x ps (b8 X.mg X.K ms sp))(hp:Passes (dY X.prog X.w) X Ex)(hr:cQ k' X.A)(S1:aH X Ex Y es1 as1)(S0:SE X Ex Y e0 d0)(S2:aH X Ex Y es2 as2)(hes:e::es=es1++e0::es2:=by rfl)(hms:ms=List.replicate es1.length false++true::List.replicate es2.length false:=by rfl){as:List Arg}(ha:as=as1++as2:=by rfl)(hk:k<=k':=by decide)(hg:Gl X x:=by rfl)(hd:(x==("__debug__":Str))=false:=by decide)(ns:(e::es).all noStar=true:=by rfl) : SE X Ex Y (.Call (.Name x p) (e::es) [] pos) (qL sp as1 d0 as2 as):=by subst hms ha;exact EM F hp (hr.mono hk) hg hd hes ns S1 S0 S2
end
end Dv
namespace SM
open PySem PySem.W PyProof.Rows
section
variable{prog:Program}{w:World}{A:Around}{E:Uq}{s:Shared}{es:Uu}{ep:Nat}{v d:Addr}
def nj.at(D:nj h d es ep)(k:∀o,h.get? d=some o->h'.get? d=some o):nj h' d es ep:=by obtain⟨o,ho,r⟩:=D;exact⟨o,k o ho,r⟩
def BG(hh:A.handled=none)(I d:Addr)(ne:d≠I)(es:Uu) (ep:Nat) : Walks prog w A I [I,d] [I] es.size (λi v=>∃e,es[i]?=some e/\v=e.val) (λi h=>h.IsValIter I d i es.size ep/\nj h d es ep) where
 sub:=λb hb=>by
  simp at hb;simp[hb]
 frame:=λi h h' st hk=>⟨st.1.at λo e=>hk I (by simp) o e,st.2.at λo e=>hk d (by simp) o e⟩
 item:=λi s Q E hi st hQ=>by
  refine EC st.1 st.2 (T8 hi) λh' hit' sb=>?_
  exact hQ _ h' s.toks ⟨_,T8 hi,rfl⟩ ⟨hit',st.2.at λo e=>by rw[sb.2 d ne];exact e⟩ λb o hb e=>by rw[sb.2 b (λz=>hb (by simp[z]))];exact e
 done:=λs Q E st hQ=>xJ hh st.1 st.2 (Q7 _) λh' eb=>hQ h' s.toks λb o hb e=>eb b o (λz=>hb (by simp[z])) e
 self:=λi s Q E st hQ=>wpAny_pyIter_valiter st.1 hQ
def Es(v d:Addr)(es:Uu) (ep:Nat):KdlSrc prog w "dict_values" v d es.size (λi x=>∃e,es[i]?=some e/\x=e.val) (λh=>h.IsValuesView v d/\nj h d es ep) where
 type:=λs D=>D.1.typeIs
 there:=λh D=>by
  obtain⟨⟨o,ho,_⟩,o2,ho2,_⟩:=D;exact⟨QD ho,QD ho2⟩
 keep:=λh h' D hk=>by
  obtain⟨⟨o,ho,r⟩,D2⟩:=D;exact⟨⟨o,hk v (.inl rfl) o ho,r⟩,D2.at λo e=>hk d (.inr rfl) o e⟩
 notList:=by decide
 notTuple:=by decide
 hint:=λA E s Q D q=>kdl_hint_values D.1.typeIs q
 iter:=λA s hh D=>by
  refine⟨_,_,λE Q q=>CQ D.1 D.2 q,BG hh _ d ?_ es ep,⟨⟨_,Qn _ rfl,rfl,rfl⟩,D.2.at λo e=>QU _ e⟩⟩
  obtain⟨o,ho,_⟩:=D.2;exact QV (QD ho)
end
end SM
namespace L2
open PySem PySem.Spec PyProof.Rows
section
variable{X:Cx}
theorem t9{α β:Type}{F:α->β->Prop}:∀{l:List α}{m:List β},l.length=m.length->(∀(j:Nat) x y,l[j]?=some x->m[j]?=some y->F x y)->Paired F l m
 |[],[],_,_=>.nil
 |[],_::_,h,_=>nomatch h
 |_::_,[],h,_=>nomatch h
 |x::l,y::m,h,k=>.cons (k 0 x y rfl rfl) (t9 (Nat.succ.inj h) λj a b e1 e2=>k (j+1) a b e1 e2)
inductive JT(Q:VK) (x:V)(H1:Hp):Prop
 |mk:∀a kvs,(x=.ref a)->(H1 a=some (.dT kvs))->(∀l,H1 l=none->Q (.ref l) (upd H1 l (.lst (kvs.map (·.2)))))->JT Q x H1
noncomputable def P7 (tl:TE):TE:=λU H Q=>tl U H λx H1=>JT Q x H1
def Ep{apos cpos:Pos}(hc:X.calm=true)(hg:Gl X "list")(hm:X.mg "list"=none)(hl:PE X l tl)(hbase:attributeBase l "values" X.env (eval l X.env)=eval l X.env:=by rfl)(hline:(apos.endLine==cpos.line)=true:=by rfl) : PE X (.Call (.Name "list" p) [.Call (.Attribute l "values" apos) [] [] cpos] [] pos) (P7 tl):=by
 intro pins s U H Q I h;refine Call_ (iJ I hg hm UY (SW ?_ rfl rfl));show wpAny _ _ (spliced ((false,eval (.Call (.Attribute l "values" apos) [] [] cpos) X.env)::backTo pos [])) _ _ s;refine Calls.spliced_cons ?_;refine wpAny_Call_method0_late hbase hline (aJ (hl pins s U H _ I h) λv s1 ⟨x,H1,I1,r1,q1⟩=>?_);obtain⟨a,kvs,e,ha,q⟩:=q1;subst e;cases r1;obtain⟨z,hd,xs,rel,o,es,ep,h1,h2,h3,h4,h5⟩:=(show bg X.prog X.w H1 s1.heap a (.dT kvs)from I1.hok a _ ha);refine⟨"dict","dict.values",F.plainAttrs_dict,F.slot_dict_values,F.type_dict_values,⟨o,h1,h2.1⟩,λb e=>?_,UP rfl (PySem.evalArgs_none (SM.Hs hd ⟨o,h1,h2,h3⟩ ?_))⟩;{cases e;exact⟨o,h1,h2.2.1⟩};refine Calls.spliced_nil ?_;have el:es.size=kvs.length:=by rw[<-Rq,h4,Q5,Paired.length rel]
 have kp1:∀b u,s1.heap.get? b=some u->(s1.heap.push { cls:=.type "dict_values",data:=.fields #[.ref a] }).get? b=some u:=λb u e=>QU _ e;refine PySem.W.kdl_call (s:={ s1 with heap:=s1.heap.push { cls:=.type "dict_values",data:=.fields #[.ref a] } }) (SM.Es s1.heap.objs.size a es ep) (I1.ok.hd hc) ⟨⟨_,Qn _ rfl,rfl,rfl⟩,⟨o,kp1 _ _ h1,h2,h3⟩⟩ (by lia) λh' tk acc c kp hS its=>?_;obtain⟨z1,z2⟩:=its;have rv:Vals (kvs.map (·.2)) acc.toList:=by refine t9 (by rw[Q5];show kvs.length=acc.size;lia) λj x y hx hy=>?_;rw[SK]at hy;obtain⟨en,e1,rfl⟩:=z2 j y hy;rw[<-SK,h4,QF]at e1;rw[QF]at hx;obtain⟨kv,e3,rfl⟩:=SD.mp hx;obtain⟨k,e4,r⟩:=tU rel e3;rw[e4]at e1;cases e1;exact r.2.2
 have I2:Inv X pins U H1 { s1 with heap:=s1.heap.push { cls:=.type "dict_values",data:=.fields #[.ref a] } }:=I1.kept (t':=s1.toks) kp1;exact⟨.ref _,_,I2.laid (t':=tk) kp (Q7 _) (o:=.lst (kvs.map (·.2))) ⟨by rw[Q5];exact z,acc.toList,c,rv,by simpa using hS⟩,rfl,q _ (I2.hok.fresh (Q7 _))⟩
end
end L2
namespace Dv
open PySem L2 PySem.W
noncomputable def Kz (E:En) (i:Nat):Bool:=match E[i]? with
 |some (some (.dt _,.dict ((.none,.none)::_)))=>true
 |_=>false
noncomputable def Cp (kvs:Uo)(k v:PyData):Uo:=match bV kvs k with
 |some _=>kvs
 |none=>kvs++[(k,v)]
noncomputable def Ar (i jc:Nat)(e:DE):DE:=λx E Q=>Kz E i=true/\∃kc ks,E[jc]?=some (some (kc,.list ks))/\kc.rd=true/\ks.all j4=true/\e x E λE2 k v=>k.fz=true/\∃kvs,E2[i]?=some (some (.dt false,.dict ((.none,.none)::kvs)))/\kvs.length<sizeLine/\Q (E2.set i (some (.dt false,.dict ((.none,.none)::Cp kvs (.tuple ks) v)))) .sh ((bV kvs (.tuple ks)).getD v)
noncomputable def KW (i:Nat):DE:=λ_ E Q=>∃p kvs,E[i]?=some (some (.dt p,.dict ((.none,.none)::kvs)))/\Q E (.ow false) (.list (kvs.map (·.2)))
section
variable{K:Frag}
theorem dg.vals:∀{kvs:List (List Key×V)}{ds:Uo},dg K H kvs ds->au K H (kvs.map (·.2)) (ds.map (·.2))
 |_,_,.nil=>.nil
 |_,_,.cons r t=>.cons r t.vals
end
section
variable{X:Cx}{Ex:XK}{Y:VI}
def BY{tp:Addr}{F:Nat->VE}(R:Rl K g E U H Hm F)(htp:H tp=none):Rl K g E U (upd H tp (.tup xs)) (upd Hm tp (.tup xs)) F/\ah Hm (upd Hm tp (.tup xs)):=by
 have n:=fQ R.sub htp;have s2:=bQ (o:=.tup xs) n;refine⟨R.grow (bQ htp) s2 (λb o e=>?_) (λi a ha=>?_) λa ha=>.inl (ai λz=>R.oz ha (z▸htp)),s2⟩;{by_cases c:b=tp;{rw[c,ay]at e⊢;exact e};rw[ai c]at e⊢;exact R.sub _ _ e};rw[ai λz=>by
  obtain⟨u,hu,_⟩:=R.aT i a ha;rw[z,htp]at hu;cases hu]
 exact R.off i a ha
def Mg{i j jc jj:Nat}(hu:X.A.units+64<cLine)(hg:Gl X "tuple")(hm:X.mg "tuple"=none)(hv:PE X (.Name x p) (jw j))(hj:Y[j]?=some i)(hc:PE X (.Name c cp) (jw jj))(hjc:Y[jj]?=some jc)(h0:SE X Ex Y e d)(ns:noStar e=true)(l1:(ap.endLine==cpos.line)=true):SE X Ex Y (.Call (.Attribute (.Name x p) "setdefault" ap) [.Call (.Name "tuple" tp) [.Name c cp] [] cpos1,e] [] cpos) (Ar i jc d):=by
 intro g xc E U H Hm F P Q hx R h q;obtain⟨hd,kc,ks,ec,hkc,hks,pq⟩:=h;obtain⟨p0,kv0,ei⟩:∃p kvs,E[i]?=some (some (.dt p,.dict ((.none,.none)::kvs))):=by unfold Kz at hd;split at hd;{rename_i p kvs e;exact⟨p,kvs,e⟩};cases hd
 obtain⟨v0,hv0,o0⟩:=R.slot i _ _ ei;obtain⟨a,kvs0,rfl,ha0⟩:∃a kvs,v0=.ref a/\H a=some (.dT kvs):=by
  generalize F i=fi at o0;cases o0 with
  |dt ha _=>exact⟨_,_,rfl,ha⟩
 obtain⟨vc,hvc,oc⟩:=R.slot jc _ _ ec;have rc:Rp X.K H vc (.list ks):=oc.rp hkc R.sub λ_ _=>rfl;obtain⟨k,rfl⟩:=iL hks;cases rc with
 |@lst ca xs _ hca rxs=>
 have exs:=qB rxs;subst exs;refine WE.of (zU PySem.F.plainAttrs_dict PySem.F.slot_dict_setdefault PySem.F.type_dict_setdefault (II (by lia)) hv (gh (ki m9 hg hm PyProof.Rows.boot_tuple (gh hc lU)) (gh aS lU (aO ns))) rfl (by rw[aO (by rfl),aO ns];rfl) l1 (aO (by rfl)) ?_) ?_;{exact eY (by rw[QH,ns];rfl)};refine⟨_,cP hj hv0,.inr (.inr (.inl ⟨rfl,.inr ⟨_,ha0⟩⟩)),_,cP hjc hvc,ca,_,rfl,.inl ⟨hca.sq,λtp htp=>?_⟩⟩;obtain⟨R1,sm1⟩:=BY (xs:=k.map kV) R htp;refine h0 g xc E U _ _ F _ _ hx R1 pq λE2 kd v u H2 Hm2 F2 fp p2 R2 s2 T=>?_;obtain⟨hk,kvd,e2,hl,pq⟩:=p2;obtain⟨Hm3,s3,R3,rv⟩:=T.dI R2 hk;have htp3:H2 tp=some (.tup (k.map kV)):=R3.sub _ _ (s3 _ _ (s2 _ _ ay));obtain⟨v',F3,hv3,R4,T4⟩:=R3.move e2 rfl;rw[hv0]at hv3;cases hv3;generalize hfi:F2 i=fi at T4;obtain⟨own,toff,tdis,tnew⟩:=T4;have li:=aV e2;have op:bx (E2.set i none) i=true:=by unfold bx;rw[aB li]
 cases own with
 |@dt _ _ kvs _ ha tvs=>
 refine⟨a,tp,kvs,k,u,rfl,rfl,ha,htp3,by rw[tvs.len];exact hl,?_⟩;have sm:=sm1.trans (s2.trans s3);rcases tvs.val (k:=k)with⟨z1,z2⟩|⟨w,d',z1,z2,rw'⟩;{rw[z2];have A1:m6 g F3 H2 Hm3 [a]:=⟨λb hb=>by rw[Q8.mp hb];exact⟨_,ha,qS⟩,toff,tdis,tnew⟩;have R5:=R4.Ml (o:=.dT (kvs++[(k,u)])) A1;have T6:Tm X.K g F3 (upd H2 a (.dT (kvs++[(k,u)]))) Hm3 (.dt false) (.ref a) (.dict ((.none,.none)::(kvd++[(.tuple (k.map aY),v)]))) [a]:=⟨.dt ay (tvs.app k rv),toff,tdis,tnew⟩;have R7:=R5.put T6 op;rw[U8,set_same hv0]at R7;unfold Cp at pq;rw[z1]at pq;exact q _ _ _ _ _ _ _ [] pq R7 sm (Tm.sh rv)};rw[z1];unfold Cp at pq;rw[z2]at pq;have T6:Tm X.K g F3 H2 Hm3 (.dt false) (.ref a) (.dict ((.none,.none)::kvd)) [a]:=⟨.dt ha tvs,toff,tdis,tnew⟩;have R7:=R4.put T6 op;rw[U8,set_same hv0]at R7;exact q _ _ _ _ _ _ _ [] pq R7 sm (Tm.sh rw')
def OQ(j jj:Nat){i jc:Nat}(hu:X.A.units+64<cLine)(hm:X.mg "tuple"=none)(h0:SE X Ex Y e d)(hg:Gl X "tuple":=by rfl)(hN:X.N[j]?=some x:=by rfl)(hv:jV X.env.scope x:=by first|exact Or.inl rfl|exact Or.inr (Or.inl rfl)|exact Or.inr (Or.inr rfl))(hj:Y[j]?=some i:=by rfl)(hNc:X.N[jj]?=some c:=by rfl)(hvc:jV X.env.scope c:=by first|exact Or.inl rfl|exact Or.inr (Or.inl rfl)|exact Or.inr (Or.inr rfl))(hjc:Y[jj]?=some jc:=by rfl)(ns:noStar e=true:=by rfl)(l1:(ap.endLine==cpos.line)=true:=by rfl)(b1:(x==("__debug__":Str))=false:=by decide)(b2:(x==("__classdict__":Str))=false:=by decide)(b3:(c==("__debug__":Str))=false:=by decide)(b4:(c==("__classdict__":Str))=false:=by decide) : SE X Ex Y (.Call (.Attribute (.Name x p) "setdefault" ap) [.Call (.Name "tuple" tp) [.Name c cp] [] cpos1,e] [] cpos) (Ar i jc d):=Mg hu hg hm (eN hN hv b1 b2) hj (eN hNc hvc b3 b4) hjc h0 ns l1
def PU(j:Nat){i:Nat}(hm:X.mg "list"=none)(hc:X.calm=true:=by rfl)(hg:Gl X "list":=by rfl)(hN:X.N[j]?=some x:=by rfl)(hv:jV X.env.scope x:=by first|exact Or.inl rfl|exact Or.inr (Or.inl rfl)|exact Or.inr (Or.inr rfl))(hj:Y[j]?=some i:=by rfl)(hline:(apos.endLine==cpos.line)=true:=by rfl)(b1:(x==("__debug__":Str))=false:=by decide)(b2:(x==("__classdict__":Str))=false:=by decide) : SE X Ex Y (.Call (.Name "list" lp) [.Call (.Attribute (.Name x p) "values" apos) [] [] cpos] [] pos) (KW i):=by
 intro g xc E U H Hm F P Q hx R h q;obtain⟨p0,kvd,ei,pq⟩:=h;obtain⟨v0,hv0,o0⟩:=R.slot i _ _ ei;refine WE.of (Ep hc hg hm (eN hN hv b1 b2) rfl hline) ?_;generalize F i=fi at o0;cases o0 with
 |@dt _ a kvs _ ha tvs=>
 refine⟨_,cP hj hv0,a,kvs,rfl,ha,λl hl=>?_⟩;have s2:=bQ (o:=.lst (kvs.map (·.2))) hl;have R2:=R.grow (H':=upd H l (.lst (kvs.map (·.2)))) s2 (ah.refl _) (R.sub.trans s2) R.off λ_ _=>.inl rfl;refine q _ _ _ _ _ Hm F [l] pq R2 (ah.refl _) ⟨.ow ay tvs.vals,λb hb=>?_,λb hb i=>?_,λb hb=>?_⟩;{rw[Q8.mp hb];exact R.q8 hl};{rw[Q8.mp hb];exact R.fresh hl};rw[Q8.mp hb];exact R.eL hl
end
noncomputable def FU:DS:=λ_ _=>False
def Np:S1 X Ex st FU:=λ_ _ _ _ _ _ _ _ _ _ p=>p.elim
end Dv
namespace Dv
inductive Dk{A0 A1:Type}(P:A0->A1->Prop):Prop
 |mk (a0:A0)(a1:A1)(h:P a0 a1):Dk P
inductive Gx{A0 A1 A2:Type}(P:A0->A1->A2->Prop):Prop
 |mk (a0:A0)(a1:A1)(a2:A2)(h:P a0 a1 a2):Gx P
inductive FY{A0 A1 A2 A3:Type}(P:A0->A1->A2->A3->Prop):Prop
 |mk (a0:A0)(a1:A1)(a2:A2)(a3:A3)(h:P a0 a1 a2 a3):FY P
inductive GK{A0 A1 A2 A3 A4:Type}(P:A0->A1->A2->A3->A4->Prop):Prop
 |mk (a0:A0)(a1:A1)(a2:A2)(a3:A3)(a4:A4)(h:P a0 a1 a2 a3 a4):GK P
inductive N4{A0 A1 A2 A3 A4 A5 A6 A7:Type}(P:A0->A1->A2->A3->A4->A5->A6->A7->Prop):Prop
 |mk (a0:A0)(a1:A1)(a2:A2)(a3:A3)(a4:A4)(a5:A5)(a6:A6)(a7:A7)(h:P a0 a1 a2 a3 a4 a5 a6 a7):N4 P
inductive DF(p0 p1 p2:Prop):Prop
 |mk (h0:p0)(h1:p1)(h2:p2):DF p0 p1 p2
inductive GB(p0 p1 p2 p3:Prop):Prop
 |mk (h0:p0)(h1:p1)(h2:p2)(h3:p3):GB p0 p1 p2 p3
inductive N6(p0 p1 p2 p3 p4 p5:Prop):Prop
 |mk (h0:p0)(h1:p1)(h2:p2)(h3:p3)(h4:p4)(h5:p5):N6 p0 p1 p2 p3 p4 p5
inductive JO(p0 p1 p2 p3 p4 p5 p6:Prop):Prop
 |mk (h0:p0)(h1:p1)(h2:p2)(h3:p3)(h4:p4)(h5:p5)(h6:p6):JO p0 p1 p2 p3 p4 p5 p6
inductive Gw(p0 p1 p2 p3 p4 p5 p6 p7:Prop):Prop
 |mk (h0:p0)(h1:p1)(h2:p2)(h3:p3)(h4:p4)(h5:p5)(h6:p6)(h7:p7):Gw p0 p1 p2 p3 p4 p5 p6 p7
inductive NL(p0 p1 p2 p3 p4 p5 p6 p7 p8:Prop):Prop
 |mk (h0:p0)(h1:p1)(h2:p2)(h3:p3)(h4:p4)(h5:p5)(h6:p6)(h7:p7)(h8:p8):NL p0 p1 p2 p3 p4 p5 p6 p7 p8
end Dv
namespace PB
open PySem L2 Dv
noncomputable def fB:DS:=ao (kN [1,2] (bJ 0)) (ao (aG 3 (nW sizeLine [6] (jF lD [.pk 1]) (.nm 6) (g9) (aa cI []))) (ao (fG (iE (bJ 2)) (.tp [4,5]) (ao (cO (xr cF 3 (bJ 4) 5)) (cO (xr cF 3 (bJ 5) 4)))) (gP 3)))
noncomputable def ie (Vb:bF):DS:=ao (aG 2 (aX Vb [false] [.pk 0])) (ao (aG 3 (aa dO [.ev (aa cI [.ev (dC .none)]),.ev (aa aK [.pk 0,.ev (dC (.int 0))])])) (ao (i7 3 (bJ 1) (dC (.int 0))) (ao (aG 4 (aa cI [.pk 1])) (ao (nY (GD 4) (ao (aG 5 (aa cI [])) (ao (fG (iE (bJ 4)) (.nm 6) (fG (iE (aa aK [.pk 2,.pk 6])) (.nm 7) (cJ (bI (aa (dM false) [.ev (aa aK [.pk 3,.pk 7]),.ev (dC .none)])) (ao (i7 3 (bJ 7) (aa cA [.ev (aa aK [.pk 3,.pk 6]),.ev (dC (.int 1))])) (cO (jZ cF 5 [bJ 7]))) (dP)))) (aG 4 (bJ 5))))) (gP 3)))))
noncomputable def fD:DS:=cJ (KL (bI (oq (λi j=>decide (i<=j)) (λi j=>decide (i<j)) (dC (.int 0)) (bJ 1) (aa aK [.pk 0,.ev (dC (.int 0))])))) (xu "NoPlace") (dP)
noncomputable def kG (Vf VR:bF):DS:=ao (cO (aX Vf [false,false] [.pk 0,.pk 1])) (cz (aX VR [false,false] [.pk 0,.pk 1]))
noncomputable def jS:DS:=cz (aa uI [.ev (aa aK [.pk 0,.ev (aa aK [.pk 1,.ev (dC (.int 0))])]),.ev (aa aK [.pk 0,.ev (aa aK [.pk 1,.ev (dC (.int 1))])])])
noncomputable def kW:DS:=ao (kN [2,3] (bJ 0)) (ao (aG 4 (t8 (bI (aa eV [.pk 1,.ev (dC (.str "ties"))])) (aa cI []) (aa lu [.pk 2]))) (ao (aG 5 (t8 (bI (aa eV [.pk 1,.ev (dC (.str "places"))])) (aa cI []) (aa oO [.pk 3]))) (cz (aa cA [.pk 4,.pk 5]))))
noncomputable def kL (Va:bF):DS:=ao (cJ (bI (aa (B9 "int") [.pk 1])) (cz (aa aK [.pk 0,.pk 1])) (dP)) (cz (aX Va [false,false] [.pk 0,.pk 1]))
noncomputable def jU (Vi:bF):DS:=cz (cV [3,4] (qK (bJ 0)) (.tp [3,4]) (bI (aa nX [.ev (aX Vi [false,false] [.pk 4,.pk 1]),.ev (aX Vi [false,false] [.pk 4,.pk 2])])) (cW sizeLine (bJ 3)))
noncomputable def mU (VQ:bF):DS:=cz (cV [1] (jF lD [.ev (aa aK [.pk 0,.ev (dC (.int 0))])]) (.nm 1) (g9) (cW sizeLine (aX VQ [false,false] [.pk 0,.pk 1])))
noncomputable def gZ:DS:=ao (aG 1 (El)) (ao (fG (iE (bJ 0)) (.tp [2,3,4]) (cO (Ar 1 4 (aa cy [.pk 2,.pk 3,.pk 4])))) (cz (KW 1)))
noncomputable def mC (VP Vj Ve:bF):DS:=ao (aG 2 (aX VP [false] [.pk 0])) (ao (aG 3 (aX Vj [false,false] [.pk 0,.pk 1])) (ao (aG 4 (aa cI [])) (ao (fG (qK (bJ 3)) (.tp [5,6]) (uQ sizeLine 4 (cV [7] (iE (aa (kg true false) [.pk 3,.ev (aa cA [.pk 5,.ev (dC (.int 1))])])) (.nm 7) (g9) (cW sizeLine (aa cy [.pk 6,.pk 7,.ev (aX Ve [false,false,false] [.pk 2,.pk 6,.pk 7])]))))) (gP 4))))
noncomputable def fu:DS:=cJ (bI (aa t7 [.ev (aa aK [.pk 0,.ev (dC (.int 0))]),.ev (dC (.int 7))])) (FU) (dP)
noncomputable def jY:DS:=ao (aG 2 (aa cI [])) (ao (fG (jF lD [.pk 1]) (.nm 3) (ao (aG 4 (cV [6,7,8] (iE (bJ 0)) (.tp [6,7,8]) (g9) (cW sizeLine (t8 (bI (aa (mJ false) [.pk 3,.pk 8])) (dC (.int 1)) (dC (.int 0)))))) (ao (aG 5 (cV [6] (jF lD [.pk 1]) (.nm 6) (g9) (cW sizeLine (t8 (bI (aa eV [.pk 3,.pk 6])) (dC (.int 1)) (dC (.int 0)))))) (cO (jZ cF 2 [aa cA [.ev (aa cA [.pk 4,.pk 5]),.ev (aa cI [.ev (dC (.int 1))])]]))))) (cz (aa cA [.pk 2,.ev (aa cI [.ev (aa cA [.ev (aa dO [.ev (aa cI [.ev (aa fL [.ev (dC (.int 1))])]),.ev (aa fU [.pk 0])]),.ev (aa dO [.ev (aa cI [.ev (dC (.int 0))]),.ev (aa cA [.pk 1,.ev (dC (.int 1))])])])])])))
noncomputable def jB:DS:=ao (aG 5 (aa dO [.ev (aa aK [.ev (aa aK [.pk 0,.pk 3]),.ev (aa fL [.ev (dC (.int 1))])]),.ev (aa aK [.ev (aa aK [.pk 0,.pk 4]),.pk 2])])) (ao (aG 6 (aa dO [.ev (aa aK [.ev (aa aK [.pk 0,.pk 4]),.ev (aa fL [.ev (dC (.int 1))])]),.ev (aa aK [.ev (aa aK [.pk 0,.pk 3]),.pk 2])])) (cz (rT (aa oY [.pk 5,.pk 6]) (kK (aa eV [.pk 5,.pk 6]) (aa oY [.ev (aa aK [.pk 1,.pk 3]),.ev (aa aK [.pk 1,.pk 4])])))))
noncomputable def mF (VT:bF):DS:=ao (aG 3 (dC .none)) (ao (fG (jF lD [.ev (aa fU [.pk 1])]) (.nm 4) (cJ (bI (kK (aa t7 [.ev (aa aK [.ev (aa aK [.pk 0,.pk 4]),.pk 2]),.ev (dC (.int 0))]) (rT (aa (dM false) [.pk 3,.ev (dC .none)]) (aX VT [false,false,false,false,false] [.pk 0,.pk 1,.pk 2,.pk 4,.pk 3])))) (aG 3 (bJ 4)) (dP))) (gP 3))
noncomputable def qg:DS:=ao (aG 4 (aa aK [.pk 0,.pk 2])) (ao (aG 5 (aa cI [])) (ao (fG (qK (bJ 0)) (.tp [6,7]) (cJ (bI (aa eV [.pk 6,.pk 2])) (cO (jZ cF 5 [bJ 4])) (cO (jZ cF 5 [cV [8,9] (B7 (bJ 7) (bJ 4)) (.tp [8,9]) (g9) (cW sizeLine (aa Aq [.ev (aa kT [.ev (aa dO [.pk 8,.ev (aa aK [.pk 4,.pk 3])]),.ev (aa dO [.ev (aa aK [.pk 7,.pk 3]),.pk 9])]),.pk 1]))])))) (gP 5)))
noncomputable def iX (VS Vk Vl:bF):DS:=ao (aG 2 (aX VS [false,false] [.pk 0,.pk 1])) (ao (aG 3 (cV [7] (jF lD [.pk 1]) (.nm 7) (g9) (cW sizeLine (aa cA [.ev (aa fU [.pk 0]),.pk 7])))) (ao (aG 4 (dC (.int 1))) (ao (nY (bI (aa oY [.ev (aa qN [.ev (aa (kg false true) [.ev (aa aK [.pk 2,.ev (aa fL [.ev (dC (.int 1))])]),.ev (aa fL [.ev (dC (.int 1))])])]),.ev (dC (.int 0))])) (ao (aG 5 (aa aK [.ev (cV [7,8] (qK (aa (kg false true) [.ev (aa aK [.pk 2,.ev (aa fL [.ev (dC (.int 1))])]),.ev (aa fL [.ev (dC (.int 1))])])) (.tp [7,8]) (bI (aa oY [.pk 8,.ev (dC (.int 0))])) (cW sizeLine (bJ 7))),.ev (dC (.int 0))])) (ao (aG 6 (aX Vk [false,false,false] [.pk 2,.pk 3,.pk 5])) (ao (aG 2 (aX Vl [false,false,false,false] [.pk 2,.pk 4,.pk 6,.pk 5])) (ao (aG 4 (aa aK [.ev (aa aK [.pk 2,.pk 6]),.pk 5])) (i7 3 (bJ 6) (bJ 5))))))) (cz (aa cy [.pk 4,.pk 3,.pk 2])))))
noncomputable def kP (Vg Vm Vd VO:bF):DS:=ao (cO (aX Vg [false] [.pk 0])) (ao (aG 2 (aX Vm [false] [.ev (aX Vd [false,false] [.pk 0,.pk 1])])) (ao (kN [3,4,5] (aX VO [false,false] [.pk 2,.ev (aa aK [.pk 0,.ev (dC (.int 0))])])) (ao (aG 6 (aa aK [.pk 5,.ev (aa fL [.ev (dC (.int 1))])])) (ao (aG 7 (aa (kg true true) [.pk 6,.ev (aa fU [.pk 2]),.ev (aa fL [.ev (dC (.int 1))])])) (ao (aG 8 (cV [10,11] (B7 (bJ 4) (bJ 5)) (.tp [10,11]) (bI (aa oY [.pk 10,.ev (aa fU [.pk 2])])) (cW sizeLine (aa cy [.pk 10,.ev (aa aK [.pk 11,.ev (aa fL [.ev (dC (.int 1))])])])))) (ao (aG 9 (cV [10,11] (iE (bJ 8)) (.tp [10,11]) (bI (aa t7 [.pk 11,.ev (dC (.int 0))])) (cW sizeLine (aa cy [.ev (aa aK [.ev (aa aK [.pk 2,.pk 10]),.ev (dC (.int 0))]),.ev (aa aK [.ev (aa aK [.pk 2,.pk 10]),.ev (dC (.int 1))]),.pk 11])))) (cz (aa cy [.pk 3,.pk 7,.pk 9]))))))))
noncomputable def f9:DS:=ao (aG 2 (dC (.int 0))) (u9 (cJ (bI (aa oY [.pk 1,.ev (aa fU [.pk 0])])) (aG 2 (aa aK [.pk 0,.pk 1])) (cJ (bI (aa nX [.pk 0,.ev (aa cI [])])) (aG 2 (aa cA [.ev (aa mq [.ev (aa aK [.pk 0,.ev (aa mq [.pk 1,.ev (aa fU [.pk 0])])]),.ev (dC (.int 1000003))]),.ev (aa dO [.ev (dC (.int 104729)),.pk 1])])) (dP))) (ao (cJ (bI (aa Lb [.pk 2,.ev (aa tF [.ev (dC (.int 10)),.ev (dC (.int 18))])])) (cz (aa cI [.pk 2])) (dP)) (ao (aG 3 (aa mq [.ev (aa zG [.ev (aa cA [.ev (aa cA [.ev (aa mq [.pk 2,.ev (aa cA [.ev (aa tF [.ev (dC (.int 10)),.ev (dC (.int 30))]),.ev (dC (.int 57))])]),.ev (aa dO [.ev (dC (.int 7919)),.pk 1])]),.ev (dC (.int 101))]),.ev (dC (.int 2))]),.ev (aa cA [.ev (aa tF [.ev (dC (.int 10)),.ev (dC (.int 30))]),.ev (dC (.int 57))])])) (cz (aa cI [.ev (aa mq [.ev (aa zR [.ev (aa cA [.ev (aa cA [.pk 3,.ev (aa dO [.ev (dC (.int 977)),.pk 1])]),.ev (dC (.int 5))]),.ev (dC (.int 618033988749894848204586834365))]),.ev (aa cA [.ev (aa tF [.ev (dC (.int 10)),.ev (dC (.int 30))]),.ev (dC (.int 57))])])])))))
noncomputable def gA:DS:=ao (aG 2 (aa mq [.ev (aa aK [.pk 0,.ev (dC (.int 0))]),.pk 1])) (ao (i7 0 (dC (.int 0)) (aa Aq [.ev (aa aK [.pk 0,.ev (dC (.int 0))]),.pk 1])) (gP 2))
noncomputable def fY (VZ:bF):DS:=ao (aG 3 (aa cI [])) (ao (fG (jF CK [.ev (dC (.int 1)),.pk 1]) (.nm 4) (ao (aG 5 (aX VZ [true,false] [.pk 0,.pk 4])) (ao (cO (jZ cF 3 [aa cy [.ev (aa aK [.ev (aa cI [.ev (aa kT [.pk 4,.ev (dC (.int 1))]),.ev (aa kT [.pk 4,.ev (dC (.int 1))]),.ev (dC (.int 0)),.pk 5]),.ev (aa uI [.pk 2,.ev (dC (.int 3))])]),.pk 4]])) (cJ (bI (aa eV [.pk 2,.ev (dC (.int 3))])) (cO (jZ lP 3 [cV [8] (jF lD [.pk 4]) (.nm 8) (g9) (cW sizeLine (aa cy [.pk 8,.pk 4]))])) (dP))))) (u9 (cJ (bI (kK (aa eV [.pk 2,.ev (dC (.int 1))]) (aa t7 [.pk 1,.ev (dC (.int 2))]))) (cO (jZ cF 3 [aa cy [.ev (dC (.int 0)),.ev (aa kT [.pk 1,.ev (dC (.int 1))])]])) (dP)) (u9 (cJ (bI (aa t7 [.pk 2,.ev (dC (.int 4))])) (fG (jF lD [.ev (aX VZ [true,false] [.pk 0,.ev (dC (.int 7))])]) (.nm 4) (ao (aG 6 (aX VZ [true,false] [.pk 0,.pk 1])) (ao (aG 7 (aX VZ [true,false] [.pk 0,.pk 1])) (cO (jZ lP 3 [aa dO [.ev (aa cI [.ev (aa cy [.pk 6,.pk 7])]),.ev (aa lQ [.ev (aa nX [.pk 6,.pk 7])])]]))))) (dP)) (gP 3))))
noncomputable def fV (VZ:bF):DS:=ao (aG 2 (aa cI [])) (ao (fG (jF lD [.pk 1]) (.nm 3) (cO (jZ sF 2 [aX VZ [true,false] [.pk 0,.ev (aa cA [.pk 3,.ev (dC (.int 1))])],bJ 3]))) (gP 2))
noncomputable def fJ (VZ VU VV:bF):DS:=ao (aG 1 (aX VZ [true,false] [.pk 0,.ev (dC (.int 4))])) (ao (aG 2 (aa cA [.ev (dC (.int 1)),.ev (aX VZ [true,false] [.pk 0,.ev (dC (.int 7))])])) (ao (aG 3 (aX VU [true,false] [.pk 0,.pk 2])) (ao (aG 4 (aa cI [])) (ao (fG (iE (aX VV [true,false,false] [.pk 0,.pk 2,.pk 1])) (.tp [5,6]) (ao (aG 7 (aa cy [.ev (aa aK [.pk 3,.pk 5]),.ev (aa aK [.pk 3,.pk 6])])) (cJ (bI (aa (mJ true) [.ev (aa cy [.ev (aa mH [.pk 7]),.ev (aa mG [.pk 7])]),.pk 4])) (cO (jZ cF 4 [aa cy [.ev (aa mH [.pk 7]),.ev (aa mG [.pk 7])]])) (dP)))) (cz (aa cy [.ev (aa cy [.pk 2,.ev (aa lB [.ev (aa qP [.pk 4])])]),.pk 1]))))))
noncomputable def f6:DS:=ao (cJ (bI (aa eV [.pk 0,.ev (dC (.int 1))])) (cz (aa cy [.ev (dC (.int 0)),.ev (dC (.int 1))])) (dP)) (ao (cJ (bI (rT (aa eV [.pk 0,.ev (dC (.int 2))]) (rT (aa eV [.pk 1,.ev (dC (.int 0))]) (kK (aa eV [.pk 1,.ev (dC (.int 2))]) (aa eV [.pk 0,.ev (dC (.int 3))]))))) (cz (aa cy [.ev (dC (.int 1)),.ev (dC (.int 1))])) (dP)) (ao (cJ (bI (aa eV [.pk 1,.ev (dC (.int 1))])) (cz (aa cy [.pk 0,.ev (aa cA [.ev (aa kT [.pk 0,.ev (dC (.int 2))]),.ev (aa mq [.pk 0,.ev (dC (.int 2))])])])) (dP)) (ao (cJ (bI (aa eV [.pk 1,.ev (dC (.int 2))])) (cz (aa cy [.ev (aa kT [.pk 0,.ev (dC (.int 1))]),.ev (dC (.int 2))])) (dP)) (cz (aa cy [.pk 0,.ev (dC (.int 2))])))))
noncomputable def mO (VY VW VX Vh:bF):DS:=ao (kN [1,2] (qL VY [] (aX VW [false,false] [.pk 0,.ev (dC (.int 0))]) [] [])) (ao (aG 3 (aa aK [.pk 1,.ev (dC (.int 0))])) (ao (kN [4,5] (aX VX [false,false] [.pk 3,.pk 2])) (ao (kN [6,7,8] (aX Vh [false,false] [.pk 1,.ev (dC (.str "places"))])) (ao (cJ (bI (aa nX [.ev (aa dO [.ev (aa AL [.pk 7]),.pk 5]),.ev (aa dO [.pk 4,.pk 6])])) (cz (dC (.bool false))) (dP)) (ao (cJ (bI (kK (aa eV [.pk 2,.ev (dC (.int 1))]) (aa t7 [.pk 3,.ev (dC (.int 2))]))) (ao (kN [6,7,8] (aX Vh [false,false] [.pk 1,.ev (dC (.str "ties"))])) (cz (aa eV [.ev (aa dO [.ev (aa AL [.pk 7]),.pk 5]),.ev (aa dO [.pk 4,.pk 6])]))) (dP)) (cz (dC (.bool true))))))))
end PB
namespace Dv
open PySem L2
noncomputable def w6 (xs:VB)(tg:Tg)(b:DS)(D:fT)(E1:En):Prop:=∃I:Nat->En->Prop,I 0 E1/\(∀i d E,xs[i]?=some d->I i E->∃E2,b6 tg d E=some E2/\b { D with nx:=I (i+1) } E2)/\∀E,I xs.length E->D.nx E
noncomputable def yi (cs:VI)(xs:VB)(tg:Tg)(c:DT)(r:DC)(E1:En)(Q:En->Kd->PyData->Prop):Prop:=∃(E0:En)(I:Nat->VB->En->Prop),aZ cs E1=some E0/\I 0 [] E0/\(∀i d ys E,xs[i]?=some d->I i ys E->∃E2,b6 tg d E=some E2/\c xF E2 λE3 b=>if b=true then r xF ys E3 (I (i+1))else I (i+1) ys E3)/\∀ys E,I xs.length ys E->∃E2,aZ cs E=some E2/\Q E2 (.ow false) (.list ys)
noncomputable def JW (most:Nat)(cs:VI)(xs:VB)(tg:Tg)(c:DT)(e:DE)(E1:En)(Q:En->Kd->PyData->Prop):Prop:=∃(E0:En)(I:Nat->VB->En->Prop),aZ cs E1=some E0/\I 0 [] E0/\(∀i d ys E,xs[i]?=some d->I i ys E->∃E2,b6 tg d E=some E2/\c xF E2 λE3 b=>if b=true then e xF E3 (λE4 k v=>(∃p,k=.ow p)/\ys.length<most/\I (i+1) (ys++[v]) E4)else I (i+1) ys E3)/\∀ys E,I xs.length ys E->∃E2,aZ cs E=some E2/\Q E2 (.dp false) (.list ys)
noncomputable def NZ (xs:VB)(tg:Tg)(c:DT)(r:DC)(x:XC)(ys:VB)(E1:En)(Q:VB->En->Prop):Prop:=∃I:Nat->VB->En->Prop,I 0 ys E1/\(∀i d ys E,xs[i]?=some d->I i ys E->∃E2,b6 tg d E=some E2/\c x E2 λE3 b=>if b=true then r x ys E3 (I (i+1))else I (i+1) ys E3)/\∀ys E,I xs.length ys E->Q ys E
theorem dyr0:∀{it:DI}{tg:Tg}{b:DS}{D:fT}{o:Option (Kd×PyData)}{E:En},fG it tg b D (o::E)=it D.xc (o::E) λE1 xs=>w6 xs tg b D E1:=rfl
theorem dyr1:∀{cs:VI}{it:DI}{tg:Tg}{c:DT}{r:DC}{x:XC}{o:Option (Kd×PyData)}{E:En}{Q:En->Kd->PyData->Prop},cV cs it tg c r x (o::E) Q=it x (o::E) λE1 xs=>yi cs xs tg c r E1 Q:=rfl
theorem dyr2:∀{most:Nat}{cs:VI}{it:DI}{tg:Tg}{c:DT}{e:DE}{x:XC}{o:Option (Kd×PyData)}{E:En}{Q:En->Kd->PyData->Prop},nW most cs it tg c e x (o::E) Q=it x (o::E) λE1 xs=>JW most cs xs tg c e E1 Q:=rfl
theorem dyr3:∀{it:DI}{tg:Tg}{c:DT}{r:DC}{x:XC}{ys:VB}{o:Option (Kd×PyData)}{E:En}{Q:VB->En->Prop},N3 it tg c r x ys (o::E) Q=it x (o::E) λE1 xs=>NZ xs tg c r x ys E1 Q:=rfl
def dy:
 (∀{it:DI}{tg:Tg}{b:DS}{D:fT}{o:Option (Kd×PyData)}{E:En},fG it tg b D (o::E)=it D.xc (o::E) λE1 xs=>w6 xs tg b D E1) /\
 (∀{cs:VI}{it:DI}{tg:Tg}{c:DT}{r:DC}{x:XC}{o:Option (Kd×PyData)}{E:En}{Q:En->Kd->PyData->Prop},cV cs it tg c r x (o::E) Q=it x (o::E) λE1 xs=>yi cs xs tg c r E1 Q) /\
 (∀{most:Nat}{cs:VI}{it:DI}{tg:Tg}{c:DT}{e:DE}{x:XC}{o:Option (Kd×PyData)}{E:En}{Q:En->Kd->PyData->Prop},nW most cs it tg c e x (o::E) Q=it x (o::E) λE1 xs=>JW most cs xs tg c e E1 Q) /\
 (∀{it:DI}{tg:Tg}{c:DT}{r:DC}{x:XC}{ys:VB}{o:Option (Kd×PyData)}{E:En}{Q:VB->En->Prop},N3 it tg c r x ys (o::E) Q=it x (o::E) λE1 xs=>NZ xs tg c r x ys E1 Q):=⟨rfl,rfl,rfl,rfl⟩
theorem sD{i:Nat}{z:Option (Kd×PyData)}:∀{cs:VI}{E E0:En},i∉cs->aZ cs (E.set i none)=some E0->aZ cs (E.set i z)=some (E0.set i z)
 |[],E,E0,_,h=>by have h:E.set i none=E0:=Option.some.inj h;show some _=some _;rw[<-h,U8]
 |c::cs,E,E0,n,h=>by
  have nc:i≠c:=λe=>n (e▸Q4);have ns:i∉cs:=λm=>n (QB _ m);have ho:∀y:Option (Kd×PyData),bx (E.set i y) c=bx E c:=λy=>by unfold bx;rw[RT nc]
  unfold aZ at h⊢;rw[ho]at h⊢;split at h;{rename_i hc;rw[if_pos hc];rw[TY _ _ nc]at h⊢;exact sD ns h};cases h
theorem w9:∀{cs:VI}{ds:VB}{E E' E0:En},cs.Nodup->aZ cs E=some E0->aZ cs E'=some E0->bf cs ds E=bf cs ds E'
 |[],ds,E,E',E0,_,h,h'=>by have h:E=E0:=Option.some.inj h;have h':E'=E0:=Option.some.inj h';rw[h,h']
 |c::cs,[],E,E',E0,_,h,h'=>rfl
 |c::cs,d::ds,E,E',E0,nd,h,h'=>by have n1:=(RE.mp nd).1;unfold aZ at h h';unfold bf;split at h;{rename_i hc;split at h';{rename_i hc';rw[if_pos hc,if_pos hc'];exact w9 (RE.mp nd).2 (sD n1 h) (sD n1 h')};cases h'};cases h
def r9{cs:VI}{ds:VB}{E E' E0:En}(nd:jL cs=true)(h:aZ cs E=some E0)(h':aZ cs E'=some E0):bf cs ds E=bf cs ds E':=w9 (gw nd) h h'
def pT{tg:Tg}{cs:VI}{d:PyData}{E E' E0:En}(hs:tg.slots=cs)(nd:jL cs=true)(h:aZ cs E=some E0)(h':aZ cs E'=some E0):b6 tg d E=b6 tg d E':=by
 subst hs;cases tg with
 |nm i=>exact r9 nd h h'
 |tp is=>
  cases d with
  |tuple ds=>exact r9 nd h h'
  |_=>rfl
 |nt i is=>
  cases d with
  |tuple ds=>rcases ds with _|⟨a,_|⟨b,_|⟨c,r⟩⟩⟩;{rfl};{rfl};{cases b<;>first|exact r9 nd h h'|rfl};cases b<;>rfl
  |_=>rfl
theorem jl:∀{cs:VI}{E E0:En},cs.Nodup->aZ cs E=some E0->aZ cs E0=some E0/\∀c∈cs,E0[c]?=some none
 |[],E,E0,_,h=>⟨rfl,λ_ z=>by cases z⟩
 |c::cs,E,E0,nd,h=>by
  have n1:=(RE.mp nd).1;have n2:=(RE.mp nd).2;unfold aZ at h;split at h
  .rename_i hc;obtain⟨h1,h2⟩:=jl n2 h;have hlen:c<E.length:=by unfold bx at hc;rcases Qy c E.length with z|z;{exact z};rw[Qc z]at hc;cases hc
   have hcl:∀{cs:VI}{E E0:En},c∉cs->aZ cs E=some E0->E0[c]?=E[c]?:=by
    intro cs;induction cs with
    |nil=>intro E E0 _ h;cases h;rfl
    |cons a cs ih=>intro E E0 n h;unfold aZ at h;split at h;{rw[ih (λm=>n (QB _ m)) h,RT (λe=>n (by rw[e];exact Q4))]};cases h
   have e0:E0[c]?=some none:=by rw[hcl n1 h,Ro hlen]
   refine⟨?_,λx hx=>?_⟩
   .unfold aZ;rw[if_pos (by unfold bx;rw[e0])];have:E0.set c none=E0:=by
     refine Qw λj=>?_;by_cases e:c=j
     .subst e;have:c<E0.length:=by rcases Qy c E0.length with z|z;{exact z};rw[Qc z]at e0;cases e0
      rw[Ro this,e0]
     rw[RT e]
    rw[this];exact h1
   cases hx with
   |head=>exact e0
   |tail _ m=>exact h2 x m
  cases h
def cB{α:Type}{l:List α}{i:Nat}{a:α}(ha:l[i]?=some a):i<l.length:=by rcases Qy i l.length with z|z;{exact z};rw[Qc z]at ha;cases ha
def take_snoc{α:Type}{l:List α}{i:Nat}{a:α}(ha:l[i]?=some a):l.take (i+1)=l.take i++[a]:=by rw[List.take_add_one,ha];rfl
def JL{α:Type}{l:List α}{enc:α->PyData}{cs:VI}{tg:Tg}{e:DE}{most:Nat}{E1 E0:En}{Q:En->Kd->PyData->Prop}(g:α->PyData)(h0:aZ cs E1=some E0)(h2:∀a,a∈l->∀I:En->PyData->Prop,(∀E4,aZ cs E4=some E0->I E4 (g a))->∃E2,b6 tg (enc a) E0=some E2/\e xF E2 (λE4 k v=>(∃p,k=.ow p)/\I E4 v))(h3:Q E0 (.dp false) (.list (l.map g)))(hl:l.length<=most)(hs:tg.slots=cs:=by rfl)(nd:jL cs=true:=by rfl):JW most cs (l.map enc) tg g9 e E1 Q:=by
 obtain⟨hc0,_⟩:=jl (gw nd) h0;refine⟨E0,λi ys E=>ys=(l.take i).map g/\aZ cs E=some E0,h0,⟨rfl,hc0⟩,?_,?_⟩
 .rintro i d ys E hd⟨rfl,hE⟩;rw[QF]at hd;obtain⟨a,ha,rfl⟩:=SD.mp hd;have hi:=cB ha;obtain⟨E2,hE2,hb⟩:=h2 a (Qi ha) (λE4 v=>((l.take i).map g).length<most/\((l.take i).map g++[v]=(l.take (i+1)).map g/\aZ cs E4=some E0)) (λE4 hE4=>by
   refine⟨?_,?_,hE4⟩
   .rw[Q5,RW];lia
   .rw[take_snoc ha,QZ];rfl)
  exact⟨E2,(pT hs nd hE hc0).trans hE2,hb⟩
 rintro ys E⟨rfl,hE⟩;rw[Q5,Rc];exact⟨E0,hE,h3⟩
def rL{α:Type}{l:List α}{enc:α->PyData}{tg:Tg}{b:DS}{D:fT}{E1:En}(I:Nat->En->Prop)(h0:I 0 E1)(hs:∀i a E,l[i]?=some a->I i E->∃E2,b6 tg (enc a) E=some E2/\b { D with nx:=I (i+1) } E2)(he:∀E,I l.length E->D.nx E):w6 (l.map enc) tg b D E1:=by refine⟨I,h0,λi d E hd hi=>?_,by rw[Q5];exact he⟩;rw[QF]at hd;obtain⟨a,ha,rfl⟩:=SD.mp hd;exact hs i a E ha hi
def Dh{n i k:Nat}(h:(List.range n)[i]?=some k):i<n/\k=i:=by have hi:=cB h;rw[QC]at hi;rw[QK hi]at h;cases h;exact⟨hi,rfl⟩
def LC{n:Nat}{enc:Nat->PyData}{tg:Tg}{b:DS}{D:fT}{E1:En}(I:Nat->En->Prop)(h0:I 0 E1)(hs:∀i E,i<n->I i E->∃E2,b6 tg (enc i) E=some E2/\b { D with nx:=I (i+1) } E2)(he:∀E,I n E->D.nx E):w6 ((List.range n).map enc) tg b D E1:=
 rL I h0 (λi a E ha hi=>by obtain⟨l,rfl⟩:=Dh ha;exact hs a E l hi) (by rw[QC];exact he)
def Ih{α:Type}{l:List α}{enc:α->PyData}{cs:VI}{tg:Tg}{e:DE}{most:Nat}{E1 E0:En}{Q:En->Kd->PyData->Prop}(S:En->Prop)(g:α->PyData)(h0:aZ cs E1=some E0)(hS:S E0)(h2:∀a,a∈l->∀E0',S E0'->∀I:En->PyData->Prop,(∀E4 E5,aZ cs E4=some E5->S E5->I E4 (g a))->∃E2,b6 tg (enc a) E0'=some E2/\e xF E2 (λE4 k v=>k.fz=true/\I E4 v))(h3:∀E0',S E0'->Q E0' (.ow false) (.list (l.map g)))(hl:l.length<=most)(hs:tg.slots=cs:=by rfl)(nd:jL cs=true:=by rfl):yi cs (l.map enc) tg g9 (cW most e) E1 Q:=by
 obtain⟨hc0,_⟩:=jl (gw nd) h0;refine⟨E0,λi ys E=>ys=(l.take i).map g/\∃E5,aZ cs E=some E5/\S E5,h0,⟨rfl,E0,hc0,hS⟩,?_,?_⟩
 .rintro i d ys E hd⟨rfl,E5,hE,hS5⟩;rw[QF]at hd;obtain⟨a,ha,rfl⟩:=SD.mp hd;have hi:=cB ha;obtain⟨hc5,_⟩:=jl (gw nd) hE;obtain⟨E2,hE2,hb⟩:=h2 a (Qi ha) E5 hS5 (λE4 v=>((l.take i).map g).length<most/\((l.take i).map g++[v]=(l.take (i+1)).map g/\∃E5,aZ cs E4=some E5/\S E5)) (λE4 E6 hE4 hS6=>by
   refine⟨?_,?_,E6,hE4,hS6⟩
   .rw[Q5,RW];lia
   .rw[take_snoc ha,QZ];rfl)
  exact⟨E2,(pT hs nd hE hc5).trans hE2,hb⟩
 rintro ys E⟨rfl,E5,hE,hS5⟩;rw[Q5,Rc];exact⟨E5,hE,h3 E5 hS5⟩
def IT{α:Type}{l:List α}{enc:α->PyData}{cs:VI}{tg:Tg}{c:DT}{e:DE}{most:Nat}{E1 E0:En}{Q:En->Kd->PyData->Prop}(S:En->Prop)(g:α->Option PyData)(h0:aZ cs E1=some E0)(hS:S E0)(h2:∀a,a∈l->∀E0',S E0'->∀I:En->Option PyData->Prop,(∀E4 E5,aZ cs E4=some E5->S E5->I E4 (g a))->∃E2,b6 tg (enc a) E0'=some E2/\c xF E2 λE3 b=>if b=true then e xF E3 (λE4 k v=>k.fz=true/\I E4 (some v))else I E3 none)(h3:∀E0',S E0'->Q E0' (.ow false) (.list (l.filterMap g)))(hl:l.length<=most)(hs:tg.slots=cs:=by rfl)(nd:jL cs=true:=by rfl):yi cs (l.map enc) tg c (cW most e) E1 Q:=by
 obtain⟨hc0,_⟩:=jl (gw nd) h0;refine⟨E0,λi ys E=>ys=(l.take i).filterMap g/\∃E5,aZ cs E=some E5/\S E5,h0,⟨rfl,E0,hc0,hS⟩,?_,?_⟩
 .rintro i d ys E hd⟨rfl,E5,hE,hS5⟩;rw[QF]at hd;obtain⟨a,ha,rfl⟩:=SD.mp hd;have hi:=cB ha;obtain⟨hc5,_⟩:=jl (gw nd) hE;have hlen:((l.take i).filterMap g).length<most:=by have:=List.length_filterMap_le g (l.take i);rw[RW]at this;lia
  obtain⟨E2,hE2,hb⟩:=h2 a (Qi ha) E5 hS5 (λE4 o=>match o with
   |some v=>((l.take i).filterMap g).length<most/\((l.take i).filterMap g++[v]=(l.take (i+1)).filterMap g/\∃E5,aZ cs E4=some E5/\S E5)
   |none=>(l.take i).filterMap g=(l.take (i+1)).filterMap g/\∃E5,aZ cs E4=some E5/\S E5) (λE4 E6 hE4 hS6=>by
   cases hg:g a with
   |none=>
    refine⟨?_,E6,hE4,hS6⟩;rw[take_snoc ha,UG,S6,hg];exact(Qz _).symm
   |some v=>
    refine⟨hlen,?_,E6,hE4,hS6⟩;rw[take_snoc ha,UG,S6,hg];rfl)
  exact⟨E2,(pT hs nd hE hc5).trans hE2,hb⟩
 rintro ys E⟨rfl,E5,hE,hS5⟩;rw[Q5,Rc];exact⟨E5,hE,h3 E5 hS5⟩
def ju{α:Type}{l:List α}{enc:α->PyData}{cs:VI}{tg:Tg}{e:DE}{most:Nat}{E1 E0:En}{Q:En->Kd->PyData->Prop}(g:α->PyData)(h0:aZ cs E1=some E0)(h2:∀a,a∈l->∀I:En->PyData->Prop,(∀E4,aZ cs E4=some E0->I E4 (g a))->∃E2,b6 tg (enc a) E0=some E2/\e xF E2 (λE4 k v=>k.fz=true/\I E4 v))(h3:Q E0 (.ow false) (.list (l.map g)))(hl:l.length<=most)(hs:tg.slots=cs:=by rfl)(nd:jL cs=true:=by rfl):yi cs (l.map enc) tg g9 (cW most e) E1 Q:=
 Ih (·=E0) g h0 rfl (λa ha E0' e I hI=>by subst e;exact h2 a ha I λE4 h=>hI E4 _ h rfl) (λE0' e=>by subst e;exact h3) hl hs nd
def qX{α:Type}{l:List α}{enc:α->PyData}{cs:VI}{tg:Tg}{c:DT}{e:DE}{most:Nat}{E1 E0:En}{Q:En->Kd->PyData->Prop}(g:α->Option PyData)(h0:aZ cs E1=some E0)(h2:∀a,a∈l->∀I:En->Option PyData->Prop,(∀E4,aZ cs E4=some E0->I E4 (g a))->∃E2,b6 tg (enc a) E0=some E2/\c xF E2 λE3 b=>if b=true then e xF E3 (λE4 k v=>k.fz=true/\I E4 (some v))else I E3 none)(h3:Q E0 (.ow false) (.list (l.filterMap g)))(hl:l.length<=most)(hs:tg.slots=cs:=by rfl)(nd:jL cs=true:=by rfl):yi cs (l.map enc) tg c (cW most e) E1 Q:=
 IT (·=E0) g h0 rfl (λa ha E0' e I hI=>by subst e;exact h2 a ha I λE4 h=>hI E4 _ h rfl) (λE0' e=>by subst e;exact h3) hl hs nd
noncomputable abbrev iD (n:Nat):PyData:=.int (n:Int)
noncomputable abbrev nD (l:VI):PyData:=.list (l.map iD)
noncomputable abbrev eX (e:Nat×Nat):PyData:=.tuple [iD e.1,iD e.2]
noncomputable abbrev wD (m:Nat)(es:Uw):PyData:=.tuple [iD m,.tuple (es.map eX)]
def JF{n:Nat}:i8 0 n=(List.range n).map iD:=by unfold i8;refine Qq λi _=>?_;rw[Int.zero_add]
def LQ{n:Nat}:i8 1 n=(List.range n).map λi=>iD (i+1):=by unfold i8;refine Qq λi _=>?_;show PyData.int _=PyData.int _;congr 1;lia
def Cc{xs:VB}{i:Nat}:cX xs (i:Int)=xs[i]?:=by unfold cX ko;rw[if_pos (by lia)];split;{exact rfl};rw[Qc (by lia)];rfl
def CG{n i:Nat}(h:i<n):jy n (i:Int)=some i:=by unfold jy;rw[if_pos (by lia),if_pos (by lia)];rfl
def su{n i:Nat}{Q:Nat->Prop}(h:i<n)(q:Q i):aq (jy n (i:Int)) Q:=by rw[CG h];exact q
def xo{α β:Type}{o:Option α}{f:α->β}{Q:β->Prop}:aq (o.map f) Q=aq o λa=>Q (f a):=by cases o<;>rfl
def rq{α:Type}{l:List α}{f:α->PyData}{i:Nat}{Q:PyData->Prop}:aq (cX (l.map f) (i:Int)) Q=aq l[i]? λa=>Q (f a):=by rw[Cc,QF,xo]
def vW{α:Type}{l:List α}{f:α->PyData}{a:Nat}:cutD (l.map f) (some (a:Int)) none=(l.drop a).map f:=by unfold cutD;have e1:HT.aF (l.map f).length 0 (some (a:Int))=min a (l.map f).length:=HT.lK _ _ a;have e2:HT.aF (l.map f).length (l.map f).length none=(l.map f).length:=rfl;rw[e1,e2,Q5,<-List.map_drop,<-Sh];congr 1;rw[SJ (by rw[RO];lia)];rcases S3 a l.length with h|h;{rw[RY h]};rw[S4 h,List.drop_length,Tq h]
def Dg{α:Type}{l:List α}{f:α->PyData}{b:Nat}:cutD (l.map f) none (some (b:Int))=(l.take b).map f:=by unfold cutD;have e1:HT.aF (l.map f).length (l.map f).length (some (b:Int))=min b (l.map f).length:=HT.lK _ _ b;have e2:HT.aF (l.map f).length 0 none=0:=rfl;rw[e1,e2,Q5,TF,Tv,<-Sh];congr 1;rcases S3 b l.length with h|h;{rw[RY h]};rw[S4 h,Rc,SJ h]
def Bx{α:Type}{l:List α}{f:α->PyData}{a b:Nat}:cutD (l.map f) (some (a:Int)) (some (b:Int))=((l.take b).drop a).map f:=by unfold cutD;have e1:HT.aF (l.map f).length 0 (some (a:Int))=min a (l.map f).length:=HT.lK _ _ a;have e2:HT.aF (l.map f).length (l.map f).length (some (b:Int))=min b (l.map f).length:=HT.lK _ _ b;rw[e1,e2,Q5,<-List.map_drop,<-Sh];congr 1;rw[List.drop_take];rcases S3 a l.length with h|h;{rw[RY h];rcases S3 b l.length with g|g;{rw[RY g]};rw[S4 g,SJ (by rw[RO];lia),SJ (by rw[RO];lia)]};rw[S4 h,List.drop_length,Tq h,List.take_nil,List.take_nil]
def qu{α:Type}{l:List α}{f:α->PyData}:iG (l.map f)=l.zipIdx.map λp=>.tuple [iD p.2,f p.1]:=by unfold iG;rw[List.zipIdx_map,QN];rfl
theorem zip_map{α β:Type}{l:List α}{m:List β}{f:α->PyData}{g:β->PyData}:((l.map f).zip (m.map g)).map (λp=>PyData.tuple [p.1,p.2])=(l.zip m).map λp=>.tuple [f p.1,g p.2]:=by rw[List.zip_map,QN];rfl
def zz{α:Type}{l:List α}{f:α->PyData}{Q:PyData->Prop}:aq (cX (l.map f) 0) Q=aq l[0]? λa=>Q (f a):=rq (i:=0)
def yx{α:Type}{l:List α}{f:α->PyData}{Q:PyData->Prop}:aq (cX (l.map f) 1) Q=aq l[1]? λa=>Q (f a):=rq (i:=1)
def aM{α:Type}{o:Option α}{a:α}{Q:α->Prop}(h:o=some a)(q:Q a):aq o Q:=by rw[h];exact q
def wo{a b:Nat}:(a:Int)%(b:Int)=((a%b:Nat):Int):=(Int.natCast_emod a b).symm
def uR{a b:Nat}:(a:Int)/(b:Int)=((a/b:Nat):Int):=(Int.natCast_ediv a b).symm
def yL{a b:Nat}:((a:Int)<(b:Int))=(a<b):=propext Su
def yH{a b:Nat}:((a:Int)<=(b:Int))=(a<=b):=propext Int.ofNat_le
def cast_eq{a b:Nat}:((a:Int)=(b:Int))=(a=b):=propext Int.ofNat_inj
def cast_pos{a:Nat}:((0:Int)<(a:Int))=(0<a):=propext Int.natCast_pos
def G4{a b:Nat}:(if b<a then(b:Int)else(a:Int))=((min a b:Nat):Int):=by split<;>lia
def Gm{a b:Nat}:(if a<b then(b:Int)else(a:Int))=((max a b:Nat):Int):=by split<;>lia
def F8{a b:Nat}:(if b>a then(b:Int)else(a:Int))=((max a b:Nat):Int):=by split<;>lia
def rW{ds:VB}:lf (.tuple ds)=ds.all lf:=se ds
def yu{p:Bool}{ds:VB}:flat (.ow p) (.list ds)=ds.all lf:=rfl
def qA{α β:Type}{l:List α}{f:α->β}{p:β->Bool}:(l.map f).all p=l.all λa=>p (f a):=by rw[List.all_map];rfl
def Co{α:Type}{l:List α}:(l.all λ_=>true)=true:=by rw[QY];exact λ_ _=>rfl
def zO{n:Nat}:lf (iD n)=true:=rfl
def w5{e:Nat×Nat}:lf (eX e)=true:=rfl
def Gq{m:Nat}{es:Uw}:lf (wD m es)=true:=by rw[rW];show(lf (iD m)&&(lf (.tuple (es.map eX))&&true))=true;rw[rW,qA];simp[zO,w5]
def NR:type_of%@rW/\type_of%@yu/\type_of%@qA/\type_of%@Co/\type_of%@zO/\type_of%@w5/\type_of%@Gq/\(decide True=true)/\(∀{ds:VB},lf (.list ds)=false)/\(∀{α:Type}{l m:List α}{p:α->Bool},(l++m).all p=(l.all p&&m.all p)):=⟨@rW,@yu,@qA,@Co,@zO,@w5,@Gq,rfl,rfl,(by intros;exact List.all_append)⟩
def dz:(type_of%NR)/\type_of%@JF/\type_of%@LQ/\type_of%@rq/\type_of%@zz/\type_of%@yx/\type_of%@xo/\type_of%@vW/\type_of%@Dg/\type_of%@Bx/\type_of%@qu/\type_of%@zip_map/\type_of%@wo/\type_of%@uR/\type_of%@yL/\type_of%@yH/\type_of%@cast_eq/\type_of%@cast_pos/\type_of%@aR/\type_of%@G4/\type_of%@Gm/\type_of%@F8 /\
 (∀{α β:Type}{f:α->β}{l:List α},(l.map f).length=l.length)/\(∀{n:Nat},(List.range n).length=n)/\(∀{n:Nat},(n:Int).toNat=n):=
 ⟨NR,@JF,@LQ,@rq,@zz,@yx,@xo,@vW,@Dg,@Bx,@qu,@zip_map,@wo,@uR,@yL,@yH,@cast_eq,@cast_pos,@aR,@G4,@Gm,@F8,(by intros;exact Q5 ..),(by intros;exact QC),(by intros;exact Ti _)⟩
def xQ{α β:Type}(f:α->β){l:List α}:∀{m:List β},m.Perm (l.map f)->∃l':List α,l'.Perm l/\m=l'.map f:=by
 have:∀{a b:List β},a.Perm b->∀l:List α,b=l.map f->∃l':List α,l'.Perm l/\a=l'.map f:=by
  intro a b h;induction h with
  |nil=>intro l e;exact⟨l,.refl _,e⟩
  |cons x _ ih=>
   intro l e;cases l with
   |nil=>cases e
   |cons y l=>rw[QT,Si]at e;obtain⟨l',p,e'⟩:=ih l e.2;exact⟨y::l',p.cons _,by rw[e.1,e',QT]⟩
  |swap x y z=>
   intro l e
   match l,e with
   |[],e=>cases e
   |[_],e=>rw[QT,Si]at e;cases e.2
   |u::v::l,e=>rw[QT,QT,Si,Si]at e;exact⟨v::u::l,List.Perm.swap _ _ _,by rw[QT,QT,e.1,e.2.1,e.2.2]⟩
  |trans _ _ ih1 ih2=>intro l e;obtain⟨l1,p1,e1⟩:=ih2 l e;obtain⟨l2,p2,e2⟩:=ih1 l1 e1;exact⟨l2,p2.trans p1,e2⟩
 intro m h;exact this h l rfl
def HC{ps:Uw}{P:Kd->PyData->Prop}(h:ps.length<=1000)(q:∀qs:Uw,qs.Perm ps->P (.ow false) (.list (qs.map eX))):qP [.list (ps.map eX)] P:=by refine⟨ps.map (λe:Nat×Nat=>((e.1:Int),(e.2:Int))),by rw[QN];rfl,by rw[Q5];exact h,λms p=>?_⟩;obtain⟨l,hl,rfl⟩:=xQ _ p;have:=q l hl;rw[QN];exact this
def L4{a b:Nat}:iD a=iD b↔a=b:=⟨λh=>by cases h;rfl,λh=>by rw[h]⟩
def Iu{a b:Nat×Nat}:eX a=eX b↔a=b:=by refine⟨λh=>?_,λh=>by rw[h]⟩;rw[PyData.tuple.injEq,Si,Si,PyData.int.injEq,PyData.int.injEq]at h;exact Prod.ext (by have:=h.1;lia) (by have:=h.2.1;lia)
end Dv
local macro_rules | `(tactic| bv_omega) => do let ls ← (List.range 216).toArray.mapM fun k => `(Lean.Parser.Tactic.simpLemma| $(Lean.mkIdent (.str `Dv s!"rr{k}")):ident); `(tactic| dsimp only[$ls,*, Dv.dyr0, Dv.dyr1, Dv.dyr2, Dv.dyr3, Nat.reduceBEq])
local macro_rules | `(tactic| rfl') => do let ls ← (List.range 216).toArray.mapM fun k => `(Lean.Parser.Tactic.simpLemma| $(Lean.mkIdent (.str `Dv s!"rr{k}")):ident); `(tactic| ((try bv_omega); try simp only[$ls,*, Dv.dw, Dv.Jh, Dv.dy, Dv.dz, Nat.reduceBEq]))
local macro_rules | `(tactic| simp![$xs,*]) => do let ls ← (List.range 216).toArray.mapM fun k => `(Lean.Parser.Tactic.simpLemma| $(Lean.mkIdent (.str `Dv s!"rr{k}")):ident); let ys : Array (Lean.TSyntax `Lean.Parser.Tactic.simpLemma) := xs.getElems.map fun x => ⟨x.raw⟩; let zs := ls ++ ys; `(tactic| ((try bv_omega); try simp only[$zs,*, Dv.dw, Dv.Jh, Dv.dy, Dv.dz, Nat.reduceBEq]))
namespace PB
open PySem L2 Dv
def yJ{α:Type}{m k:Nat}{f:Nat->α}{v:α}:((List.range m).map f).set k v=(List.range m).map λi=>if i=k then v else f i:=by refine Qw λj=>?_;rw[RS,Q5,QC,QF,QF];by_cases h:j<m;{rw[QK h];by_cases c:k=j;{subst c;rw[if_pos rfl,if_pos h];simp};rw[if_neg c];simp[Ne.symm c]};rw[Qc (by rw[QC];lia)];by_cases c:k=j;{subst c;rw[if_pos rfl,if_neg h];rfl};rw[if_neg c];rfl
def HA{α:Type}{m k:Nat}{f:Nat->α}(h:k<m):((List.range m).map f)[k]?=some (f k):=by rw[QF,QK h];rfl
noncomputable def NX (f:DM) (i n:Nat)(E1:En)(w:PyData)(Q:En->Kd->PyData->Prop):Prop:=∃a p ds m es k d E2,w=.int a/\E1[i]?=some (some (.dp p,.list ds))/\jy ds.length a=some m/\ds[m]?=some (.list es)/\E1[n]?=some (some (k,d))/\i≠n/\cM E1 n=some E2/\f es [d] λnew v=>Q (E2.set i (some (.dp p,.list (ds.set m (.list new))))) .sh v
def DH{i n:Nat}:xr f i j n x (o::E) Q=(here (o::E) i=true/\j x (o::E) λE1 _ w=>NX f i n E1 w Q):=rfl
def BJ{i n a m:Nat}{p:Bool}{E:En}{g:Nat->VB}{Q:En->Kd->PyData->Prop}(h1:E[i]?=some (some (.dp p,.list ((List.range m).map λi=>.list (g i)))))(h2:E[n]?=some (some (.sh,d)))(ne:i≠n)(ha:a<m)(hs:(g a).length<16777216)(q:Q (E.set i (some (.dp p,.list ((List.range m).map λk=>.list (if k=a then g k++[d]else g k))))) .sh .none):NX cF i n E (iD a) Q:=by
 refine⟨a,p,_,a,g a,.sh,d,E,rfl,h1,?_,HA ha,h2,ne,?_,?_⟩;{rw[Q5,QC];exact CG ha}
 .have:=wk (E:=E) (is:=[n]) (by simp[gH,h2]);unfold c8 at this;cases e:cM E n with
  |none=>rw[e]at this;cases this
  |some E2=>rw[e]at this;exact this
 refine⟨hs,?_⟩;show Q (E.set i (some (.dp p,.list (((List.range m).map λi=>PyData.list (g i)).set a (.list (g a++[d])))))) .sh .none;rw[yJ];have e:((List.range m).map λk=>if k=a then PyData.list (g a++[d])else .list (g k))=(List.range m).map λk=>PyData.list (if k=a then g k++[d]else g k):=by refine Qq λk _=>?_;by_cases c:k=a;{rw[if_pos c,if_pos c,c]};rw[if_neg c,if_neg c]
 rw[e];exact q
noncomputable abbrev vG (m:Nat)(es:Uw):PyData:=.list ((List.range m).map λi=>nD (Gr.fP es i))
noncomputable def AV:bF:=λds Q x=>∃m es,ds=[wD m es]/\m<=60/\Gr.Good m es/\Q [] (.dp false) (vG m es)
def Jy:∀ds Q x,AV ds Q x->fB (br [false] Q x) (ini [false] ds++List.replicate 6 none):=by
 rintro _ Q x⟨m,es,rfl,hm,gd,q⟩;unfold fB;rfl';rw[if_pos (by lia)];refine aM rfl (JL (λ_=>PyData.list []) rfl (λa ha I hI=>?_) ?_ (by rw[QC];lia));{rfl';exact⟨by lia,⟨false,rfl⟩,hI _ rfl⟩};rfl';refine rL (λi E=>Dk λ(o4 o5:Option (Kd×PyData))=>DF (E=[some (.sh,wD m es),some (.sh,iD m),some (.sh,.tuple (es.map eX)),some (.dp false,vG m (es.take i)),o4,o5,none]) (b9 o4=true) (b9 o5=true)) ⟨none,none,rfl,rfl,rfl⟩ ?_ ?_
 .rintro i⟨a,b⟩_ hi⟨o4,o5,rfl,ho4,ho5⟩;have hab:=gd.lt _ (Qi hi);have hab:a<b/\b<m:=hab;simp![ho4,ho5,DH];have hn:∀k,(Gr.fP (es.take i) k).length<1000:=λk=>by have g2:Gr.Good m (es.take i):=⟨λe he=>gd.lt e (List.mem_of_mem_take he),List.Sublist.nodup (List.take_sublist _ _) gd.nd⟩;have:=g2.Hq k;lia
  refine BJ (g:=λk=>(Gr.fP (es.take i) k).map iD) rfl rfl (by lia) (by lia) (by rw[Q5];have:=hn a;lia) ?_;simp![ho4,ho5,DH];refine BJ (g:=λk=>if k=a then(Gr.fP (es.take i) k).map iD++[iD b]else(Gr.fP (es.take i) k).map iD) rfl rfl (by lia) (by lia) (by rw[if_neg (by lia),Q5];have:=hn b;lia) ?_;refine⟨some (.sh,iD a),some (.sh,iD b),?_,rfl,rfl⟩;simp only[List.set_cons_succ,List.set_cons_zero];have e:∀k,(if k=b then(if k=a then(Gr.fP (es.take i) k).map iD++[iD b]else(Gr.fP (es.take i) k).map iD)++[iD a]else if k=a then(Gr.fP (es.take i) k).map iD++[iD b]else(Gr.fP (es.take i) k).map iD)=(Gr.fP (es.take (i+1)) k).map iD:=λk=>by rw[take_snoc hi,Gr.Hx,QZ];unfold Gr.fP;rw[S6,List.filterMap_nil];unfold Gr.nb;simp only;by_cases c:k=a;{subst c;rw[if_neg (by lia),if_pos rfl,if_pos rfl];rfl};by_cases c2:k=b;{subst c2;rw[if_pos rfl,if_neg c,if_neg (Ne.symm c),if_pos rfl];rfl};rw[if_neg c2,if_neg c,if_neg (Ne.symm c),if_neg (Ne.symm c2)];exact(Qz _).symm
  rw[Qq λk _=>congrArg PyData.list (e k)]
 rintro _⟨o4,o5,rfl,ho4,ho5⟩;rw[Rc];rfl';exact q
open Classical in
noncomputable def pJ (es:Uw) (p x:Nat):Option Nat:=if ∃d,Gr.R (Gr.cE es) p d x then some (Gr.dst (Gr.cE es) p x)else none
noncomputable def oD:Option Nat->PyData
 |none=>.none
 |some n=>iD n
noncomputable abbrev rR (f:Nat->Option Nat) (m:Nat):PyData:=.list ((List.range m).map λx=>oD (f x))
def CW{f:Nat->Option Nat}{m y d:Nat}:(((List.range m).map λx=>oD (f x)).set y (iD d))=(List.range m).map λx=>oD (if x=y then some d else f x):=by rw[yJ];refine Qq λk _=>?_;by_cases c:k=y;{rw[if_pos c,if_pos c];rfl};rw[if_neg c,if_neg c]
def LO{m p r:Nat}{f:Nat->Option Nat}(B:Gr.lE (Gr.cE es) p r f []) (x:Nat):f x=pJ es p x:=by
 unfold pJ;split;{rename_i h;obtain⟨d,h⟩:=h;exact B.val h};rename_i h;cases e:f x with
 |none=>rfl
 |some d=>exact absurd ⟨d,(B.sound x d e).1⟩ h
def D8{m p x:Nat}(cn:Gr.fE m es)(hp:p<m)(hx:x<m):pJ es p x=some (Gr.dst (Gr.cE es) p x):=if_pos (cn p hp x hx)
noncomputable def zL:bF:=λds Q x=>∃m es p,ds=[wD m es,iD p]/\m<=60/\Gr.Good m es/\p<m/\Q [] (.ow false) (rR (pJ es p) m)
def Ls:dM false [oD o,.none] P=P .sh (.bool o.isNone):=by cases o<;>simp[oD,dM,dx]
def MJ:lf (oD o)=true:=by cases o<;>rfl
def Ii{y:Nat}:nD (l++[y])=.list (l.map iD++[iD y]):=by show PyData.list ((l++[y]).map iD)=_;rw[QZ];rfl
def LK:∀ds Q x,zL ds Q x->ie AV (br [false,false] Q x) (ini [false,false] ds++List.replicate 6 none):=by
 rintro _ Q x⟨m,es,p,rfl,hm,gd,hp,q⟩;unfold ie;rfl';refine⟨m,es,rfl,hm,gd,?_⟩;rfl';have e0:(List.replicate m [PyData.none]).flatten=(List.range m).map λ_=>PyData.none:=by
  clear q hp gd hm;induction m with
  |zero=>rfl
  |succ k ih=>rw[List.replicate_succ',List.flatten_append,ih,RQ,QZ];rfl
 rw[e0];refine⟨by lia,⟨by lia,by lia,by lia⟩,su (by rw[Q5,QC];exact hp) ?_⟩;rw[show PyData.int 0=iD 0 from rfl,show((List.range m).map λ_=>PyData.none)=(List.range m).map λx=>oD ((λ_=>none:Nat->Option Nat) x)from rfl,CW];refine⟨by lia,?_⟩;refine⟨λn E=>N4 λ(r:Nat)(g:Nat->Option Nat)(ed:VI)(k2 k4:Kd)(o5 o6 o7:Option (Kd×PyData))=>NL (E=[some (.sh,wD m es),some (.sh,iD p),some (k2,vG m es),some (.ow false,rR g m),some (k4,nD ed),o5,o6,o7]) ((k2=.dp false\/k2=.sh)) ((k4=.ow false\/k4=.sh)) (b9 o5=true) (b9 o6=true) (b9 o7=true) (n=2*Gr.cnt g m+(if ed=[]then 0 else 1)) (Gr.lE (Gr.cE es) p r g ed) (∀x∈ed,x<m),?_,?_⟩;{exact⟨_,0,_,[p],_,_,none,none,none,rfl,.inl rfl,.inl rfl,rfl,rfl,rfl,rfl,Gr.lE.start,λx hx=>by rw[Q8.mp hx];exact hp⟩};rintro n _⟨r,g,ed,k2,k4,o5,o6,o7,rfl,hk2,hk4,ho5,ho6,ho7,rfl,B,edm⟩;simp![List.isEmpty_map];refine⟨by rcases hk4 with rfl|rfl<;>rfl,?_⟩;cases ed with
 |nil=>simp![List.isEmpty_nil];have e:rR g m=rR (pJ es p) m:=congrArg PyData.list (Qq λx _=>congrArg oD (LO (m:=m) B x));rw[e];exact q
 |cons e0 er=>
  simp![List.isEmpty_cons,ho5];have f4:k4.fz=true:=by rcases hk4 with rfl|rfl<;>rfl
  rw[if_pos f4];refine⟨by lia,aM rfl ?_⟩;have ne:e0::er≠[]:=U7 _ _;generalize e0::er=ed at B edm ne⊢;have hE2:∀(k2:Kd),(k2=.dp false\/k2=.sh)->k2.rd=true/\k2.fz=true:=λk h=>by rcases h with rfl|rfl<;>exact⟨rfl,rfl⟩
  refine rL (λi E=>GK λ(g':Nat->Option Nat)(rc:VI)(k2:Kd)(o6 o7:Option (Kd×PyData))=>Gw (E=[some (.sh,wD m es),some (.sh,iD p),some (k2,vG m es),some (.ow false,rR g' m),some (.sh,nD ed),some (.ow false,nD rc),o6,o7]) ((k2=.dp false\/k2=.sh)) (b9 o6=true) (b9 o7=true) (Gr.fh (Gr.cE es) r g ed g' rc) ((∀j h,j<i->ed[j]?=some h->∀x,Gr.cE es h x->g' x≠none)) (rc.Nodup) (∀x∈rc,x<m)) ⟨g,[],k2,o6,o7,rfl,hk2,ho6,ho7,.start,λj h hj=>by lia,Rv,λ_ h=>absurd h R9⟩ ?_ ?_
  .rintro i h _ hi⟨g',rc,k2,o6,o7,rfl,hk2,ho6,ho7,BI,don,rcn,rcm⟩;have mh:h∈ed:=Qi hi;have hm':=edm h mh;obtain⟨rd2,fz2⟩:=hE2 k2 hk2;simp![ho6,rd2];rw[QK hm'];refine aM rfl ?_;simp![fz2];have loop:∀k2,(k2=.dp false\/k2=.sh)->w6 (List.map iD (Gr.fP es h)) (Tg.nm 7) (cJ (bI (aa (dM false) [Arg.ev (aa aK [Arg.pk 3,Arg.pk 7]),Arg.ev (dC PyData.none)])) (ao (i7 3 (bJ 7) (aa cA [Arg.ev (aa aK [Arg.pk 3,Arg.pk 6]),Arg.ev (dC (PyData.int 1))])) (cO (jZ cF 5 [bJ 7]))) dP)
    { nx:=λE=>GK λ(g':Nat->Option Nat)(rc:VI)(k2:Kd)(o6 o7:Option (Kd×PyData))=>Gw (E=[some (.sh,wD m es),some (.sh,iD p),some (k2,vG m es),some (.ow false,rR g' m),some (.sh,nD ed),some (.ow false,nD rc),o6,o7]) ((k2=.dp false\/k2=.sh)) (b9 o6=true) (b9 o7=true) (Gr.fh (Gr.cE es) r g ed g' rc) ((∀j h,j<i+1->ed[j]?=some h->∀x,Gr.cE es h x->g' x≠none)) (rc.Nodup) (∀x∈rc,x<m),rt:=(br [false,false] Q x).rt,xc:=x }
    [some (.sh,wD m es),some (.sh,iD p),some (k2,vG m es),some (.ow false,rR g' m),some (.sh,nD ed),some (.ow false,nD rc),some (.sh,iD h),o7]:=by
    intro k2 hk2;refine rL (λi' E=>Gx λ(g':Nat->Option Nat)(rc:VI)(o7:Option (Kd×PyData))=>JO (E=[some (.sh,wD m es),some (.sh,iD p),some (k2,vG m es),some (.ow false,rR g' m),some (.sh,nD ed),some (.ow false,nD rc),some (.sh,iD h),o7]) (b9 o7=true) (Gr.fh (Gr.cE es) r g ed g' rc) ((∀j h,j<i->ed[j]?=some h->∀x,Gr.cE es h x->g' x≠none)) ((∀j y,j<i'->(Gr.fP es h)[j]?=some y->g' y≠none)) (rc.Nodup) (∀x∈rc,x<m)) ⟨g',rc,o7,rfl,ho7,BI,don,λj y hj=>by lia,rcn,rcm⟩ ?_ ?_
    .rintro i' y _ hy⟨g',rc,o7,rfl,ho7,BI,don,dni,rcn,rcm⟩;have hyE:Gr.cE es h y:=Gr.sO.mp (Qi hy);have ym:y<m:=(gd.ND hyE).2;have eh:=BI.at B mh;simp![ho7,QK ym,QK hm',MJ,Ls];cases gy:g' y with
     |some d=>
      simp only[dw,Option.isNone_some];refine⟨g',rc,some (.sh,iD y),rfl,rfl,BI,don,λj z hj hz=>?_,rcn,rcm⟩
      by_cases c:j=i'
      .subst c;rw[hy]at hz;cases hz;rw[gy];simp
      .exact dni j z (by lia) hz
     |none=>
      have e1:oD (some r)=iD r:=rfl;have e2:(r:Int)+1=((r+1:Nat):Int):=rfl;simp![Option.isNone_none,eh,e1,e2];have yrc:y∉rc:=λh'=>by
       have:=((BI.got y).mp h').2;rw[gy]at this;cases this
      have rcl:=Gr.kD m rc rcn rcm;refine su ym ⟨by lia,_,rc++[y],some (.sh,iD y),?_,rfl,BI.put mh hyE gy,λj h' hj he x hx=>?_,λj z hj hz=>?_,?_,λx hx=>?_⟩
      .rw[CW,Ii]
      .show(if x=y then some (r+1)else g' x)≠none
       split
       .exact λh=>(nomatch h)
       .exact don j h' hj he x hx
      .show(if z=y then some (r+1)else g' z)≠none
       split
       .exact λh=>(nomatch h)
       .rename_i c
        by_cases c2:j=i'
        .subst c2;rw[hy]at hz;cases hz;exact absurd rfl c
        .exact dni j z (by lia) hz
      .exact U1.mpr ⟨rcn,RE.mpr ⟨R9,Rv⟩,λa ha b hb e=>by
        cases Q8.mp hb;exact yrc (e▸ha)⟩
      .rcases QL.mp hx with h'|h'
       .exact rcm x h'
       .rw[Q8.mp h'];exact ym
    .rintro _⟨g',rc,o7,rfl,ho7,BI,don,dni,rcn,rcm⟩;refine⟨g',rc,k2,_,o7,rfl,hk2,rfl,ho7,BI,λj h' hj hh x hx=>?_,rcn,rcm⟩
     by_cases c:j=i
     .subst c;rw[hi]at hh;cases hh;obtain⟨l,hl⟩:=List.mem_iff_getElem?.mp (Gr.sO.mpr hx);exact dni l x (cB hl) hl
     .exact don j h' (by lia) hh x hx
   split;{exact aM rfl (loop _ hk2)};exact aM rfl (loop _ (.inr rfl))
  rintro _⟨g',rc,k2,o6,o7,rfl,hk2,ho6,ho7,BI,don,rcn,rcm⟩;rfl';have all:∀h,h∈ed->∀x,Gr.cE es h x->g' x≠none:=λh hh=>by obtain⟨j,hj⟩:=List.mem_iff_getElem?.mp hh;exact don j h (cB hj) hj
  refine⟨_,?_,r+1,g',rc,k2,.sh,some (.sh,nD rc),o6,o7,rfl,hk2,.inr rfl,rfl,ho6,ho7,rfl,B.next BI all,rcm⟩;rw[if_neg ne];cases rc with
  |nil=>have:=Gr.uM (f:=g) (g:=g') (λx h=>BI.none h) m;rw[if_pos rfl];lia
  |cons y rc=>obtain⟨h1,h2⟩:=(BI.got y).mp (Q4 ..);have:=Gr.BE (f:=g) (g:=g') (λx h=>BI.none h) h1 (by rw[h2];exact λh=>(nomatch h)) m (rcm y (Q4 ..));rw[if_neg (U7 _ _)];lia
structure cC(m:Nat)(es:Uw):Prop where
 pos:1<=m
 le:m<=60
 gd:Gr.Good m es
 cn:Gr.fE m es
def cC.few{m:Nat}(W:cC m es):es.length<=1800:=by have h:=Gr.pY W.gd;have:=TZ W.le W.le;lia
noncomputable abbrev aD (es:Uw) (p x:Nat):Nat:=Gr.dst (Gr.cE es) p x
noncomputable abbrev uv (m:Nat)(es:Uw) (p:Nat):PyData:=.list ((List.range m).map λx=>iD (aD es p x))
def K1{m p:Nat}(cn:Gr.fE m es)(hp:p<m):rR (pJ es p) m=uv m es p:=congrArg PyData.list (Qq λx hx=>by rw[D8 cn hp (QM.mp hx)];rfl)
noncomputable def zN:bF:=λds Q x=>∃m es,∃p:Int,ds=[wD m es,.int p]/\(0<=p/\p<m->Q [] .sh .none)/\(¬(0<=p/\p<m)->x "NoPlace" .none)
def Ji:∀ds Q x,zN ds Q x->fD (br [false,false] Q x) (ini [false,false] ds++List.replicate 0 none):=by rintro _ Q x⟨m,es,p,rfl,q,r⟩;unfold fD;rfl';split;{rename_i h;split;{rename_i h2;exact r λz=>h2 z.2};rename_i h2;exact q ⟨h,Decidable.of_not_not h2⟩};rename_i h;exact r λz=>h z.1
noncomputable def Ac:bF:=λds Q x=>∃m es,∃p:Int,ds=[wD m es,.int p]/\cC m es/\(∀k:Nat,p=k->k<m->Q [] (.ow false) (uv m es k))/\(¬(0<=p/\p<m)->x "NoPlace" .none)
def LL:∀ds Q x,Ac ds Q x->kG zN zL (br [false,false] Q x) (ini [false,false] ds++List.replicate 0 none):=by
 rintro _ Q x⟨m,es,p,rfl,W,q,r⟩;unfold kG;rfl';refine⟨m,es,p,rfl,λhp=>?_,r⟩;rfl';obtain⟨k,rfl⟩:=Int.eq_ofNat_of_zero_le hp.1;have hk:k<m:=by lia
 refine⟨m,es,k,rfl,W.le,W.gd,hk,?_⟩;rfl';rw[K1 W.cn hk];exact q k rfl hk
noncomputable abbrev Th:=Nat ⊕ (Nat×Nat)
noncomputable def gJ:Th->PyData
 |.inl x=>iD x
 |.inr e=>eX e
noncomputable def TV (m:Nat):Th->Prop
 |.inl x=>x<m
 |.inr e=>e.1<m/\e.2<m
noncomputable def td (es:Uw) (p:Nat):Th->Nat
 |.inl x=>aD es p x
 |.inr e=>min (aD es p e.1) (aD es p e.2)
noncomputable def AM:bF:=λds Q x=>∃m es p,∃e:Nat×Nat,ds=[uv m es p,eX e]/\e.1<m/\e.2<m/\Q [] .sh (iD (td es p (.inr e)))
def LJ:∀ds Q x,AM ds Q x->jS (br [false,false] Q x) (ini [false,false] ds++List.replicate 0 none):=by rintro _ Q x⟨m,es,p,e,rfl,h1,h2,q⟩;unfold jS;simp![QK h1,QK h2];exact q
noncomputable def zW:bF:=λds Q x=>∃m es p t,ds=[uv m es p,gJ t]/\TV m t/\Q [] .sh (iD (td es p t))
def Mi:∀ds Q x,zW ds Q x->kL AM (br [false,false] Q x) (ini [false,false] ds++List.replicate 0 none):=by
 rintro _ Q x⟨m,es,p,t,rfl,h,q⟩;unfold kL;cases t with
 |inl k=>have h:k<m:=h;simp![gJ,QK h];exact q
 |inr e=>simp![gJ];refine⟨m,es,p,e,rfl,h.1,h.2,?_⟩;rfl';exact q
noncomputable def aA (k:Str) (m:Nat)(es:Uw):List Th:=(if k="ties" then []else(List.range m).map Sum.inl)++(if k="places" then []else es.map Sum.inr)
def qk{m:Nat}(g:Gr.Good m es):∀t∈aA k m es,TV m t:=by intro t ht;rcases QL.mp ht with h|h;{split at h;{cases h};obtain⟨x,hx,rfl⟩:=Q9.mp h;exact QM.mp hx};split at h;{cases h};obtain⟨e,he,rfl⟩:=Q9.mp h;have:=g.lt e he;exact⟨by show e.1<m;lia,this.2⟩
noncomputable def Aa:bF:=λds Q x=>∃m es k,ds=[wD m es,.str k]/\cC m es/\Q [] (.ow false) (.list ((aA k m es).map gJ))
def KD:∀ds Q x,Aa ds Q x->kW (br [false,false] Q x) (ini [false,false] ds++List.replicate 4 none):=by
 rintro _ Q x⟨m,es,k,rfl,W,q⟩;have e:(aA k m es).map gJ=(if k="ties" then []else(List.range m).map iD)++(if k="places" then []else es.map eX):=by unfold aA;rw[QZ];congr 1;{split;{rfl};rw[QN];rfl};split;{rfl};rw[QN];rfl
 have hm:=W.le;have hf:=W.few;unfold kW;rfl';rw[e]at q;by_cases c1:k="ties";{by_cases c2:k="places";{subst c1;exact absurd c2 (by decide)};simp only[if_pos c1,if_neg c2,dv,dw,dx,dy,dz,Nat.reduceBEq]at q⊢;exact⟨by lia,by lia,q⟩};by_cases c2:k="places";{simp only[if_neg c1,if_pos c2,dv,dw,dx,dy,dz,Nat.reduceBEq,Qz]at q⊢;exact⟨⟨by lia,by lia⟩,by lia,by lia,q⟩};simp only[if_neg c1,if_neg c2,dv,dw,dx,dy,dz,Nat.reduceBEq]at q⊢;exact⟨⟨by lia,by lia⟩,by lia,q⟩
def vR{ms:VI}{m:Nat}(pm:ms.Perm (List.range m)){a:Nat}(ha:a<m):ms[a]?=some (ms.getD a 0)/\ms.getD a 0<m:=by
 have h:a<ms.length:=by rw[pm.length_eq,QC];exact ha
 have e:ms.getD a 0=ms[a]:=by rw[QS,QO h];rfl
 rw[e];exact⟨QO h,QM.mp (pm.mem_iff.mp (TR h))⟩
end PB
namespace Dv
open PySem L2
def dd:type_of%@put_kv2/\type_of%@kvP_len/\type_of%@in_ts/\type_of%@nin_ts/\type_of%@list_ts/\(∀{i:Int},j4 (.int i)=true):=⟨@put_kv2,@kvP_len,@in_ts,@nin_ts,@list_ts,rfl⟩
def AD{α:Type}{l:List α}{enc:α->PyData}{tg:Tg}{b:DS}{D:fT}{E1:En}(I:Nat->En->Prop)(h0:I 0 E1)(hs:∀(J:En->Prop) i a E,l[i]?=some a->(∀E',I (i+1) E'->J E')->I i E->∃E2,b6 tg (enc a) E=some E2/\b { D with nx:=J } E2)(he:∀E,I l.length E->D.nx E):w6 (l.map enc) tg b D E1:=rL I h0 (λi a E ha hi=>hs (I (i+1)) i a E ha (λ_ h=>h) hi) he
def qW{n:Nat}{enc:Nat->PyData}{tg:Tg}{b:DS}{D:fT}{E1:En}(I:Nat->En->Prop)(h0:I 0 E1)(hs:∀(J:En->Prop) i E,i<n->(∀E',I (i+1) E'->J E')->I i E->∃E2,b6 tg (enc i) E=some E2/\b { D with nx:=J } E2)(he:∀E,I n E->D.nx E):w6 ((List.range n).map enc) tg b D E1:=LC I h0 (λi E ha hi=>hs (I (i+1)) i E ha (λ_ h=>h) hi) he
def vE{a b:DS}{D:fT}{E:En}(J0:En->Prop)(h1:∀J:En->Prop,(∀E',J0 E'->J E')->a { D with nx:=J } E)(h2:∀B:En->Prop,(∀E',B E'=b D E')->∀E',J0 E'->B E'):u9 a b D E:=⟨J0,h1 J0 λ_ h=>h,λE' h=>h2 (b D) (λ_=>rfl) E' h⟩
def MV{c:DT}{b:DS}{D:fT}{E:En}(W:Nat->En->Prop)(h0:∃m,W m E)(hs:∀(J:En->Prop) m E,(∀m' E',m'<m->W m' E'->J E')->W m E->c D.xc E λE1 t=>if t=true then b { D with nx:=J } E1 else D.nx E1):nY c b D E:=⟨W,h0,λm E h=>hs (λE'=>∃m',m'<m/\W m' E') m E (λm' E' l w=>⟨m',l,w⟩) h⟩
end Dv
namespace PB
open PySem L2 Dv Gr
noncomputable abbrev inD (l:VJ):PyData:=.list (l.map .int)
def ql(c:Int){d:Int}(h:0<d):∃mk:Nat,c%d=mk/\(mk:Int)<d:=by have h1:=Int.emod_nonneg c (show d≠0 by lia);have h2:=Int.emod_lt_of_pos c h;exact⟨(c%d).toNat,by lia,by lia⟩
def M4{ns:VJ}:dl 8 (.list (ns.map .int))=true:=by show((ns.map PyData.int).all (dl 7))=true;rw[QY];intro d h;obtain⟨c,_,rfl⟩:=Q9.mp h;rfl
end PB
namespace PB
open PySem L2 Dv
theorem g8{α:Type}{f:α->PyData}{p:α->Bool}:∀{l:List α},(l.filterMap λt=>if p t=true then some (f t)else none)=(l.filter p).map f
 |[]=>rfl
 |a::l=>by
  rw[S6,List.filter_cons];cases h:p a with
  |true=>simp only[if_true];rw[g8];rfl
  |false=>simp only[if_neg (QW)];exact g8
end PB
namespace Gr
noncomputable def tD (m:Nat)(es:Uw):Prop:=∀x,x<m->∃d,R (cE es) 0 d x
def R.mono{E F:Nat->Nat->Prop}(s:∀x y,E x y->F x y){p d x:Nat}(h:R E p d x):R F p d x:=by
 induction h with
 |zero=>exact .zero
 |step _ e ih=>exact ih.step (s _ _ e)
def tD.conn{m:Nat}(h:tD m es):fE m es:=λp hp x hx=>by obtain⟨d,hd⟩:=h p hp;obtain⟨e,he⟩:=h x hx;exact⟨d+e,(hd.symm mj).trans he⟩
theorem tD.mono{m:Nat}(h:tD m es)(s:∀e,e∈es->e∈fs):tD m fs:=λx hx=>by obtain⟨d,hd⟩:=h x hx;exact⟨d,hd.mono λx y e=>e.imp (s _) (s _)⟩
def fE.Ol{m:Nat}(h:fE m es):tD m es:=λx hx=>h 0 (by lia) x hx
def Good.put{m:Nat}(g:Good m es){x y:Nat}(l:x<y)(hy:y<m)(n:(x,y)∉es):Good m (es++[(x,y)]):=by refine⟨λe he=>?_,U1.mpr ⟨g.nd,RE.mpr ⟨R9,Rv⟩,λe he f hf h=>?_⟩⟩;{rcases QL.mp he with he|he;{exact g.lt e he};cases Q8.mp he;exact⟨l,hy⟩};cases Q8.mp hf;exact n (h▸he)
end Gr
namespace PB
open PySem L2 Dv Gr
def bO(h:∀B:En->Prop,(∀E',B E'=b D E')->a { D with nx:=B } E):ao a b D E:=h (b D) λ_=>rfl
end PB
local macro_rules | `(tactic| bv_omega) => do let ls ← (List.range 216).toArray.mapM fun k => `(Lean.Parser.Tactic.simpLemma| $(Lean.mkIdent (.str `Dv s!"rr{k}")):ident); `(tactic| dsimp only[$ls,*, Dv.dyr0, Dv.dyr1, Dv.dyr2, Dv.dyr3, Nat.reduceBEq, Dv.jm, Dv.jo])
namespace PB
open PySem L2 Dv Gr
noncomputable def AH:bF:=λdd Q x=>∃(ns:VJ) (k:Nat),dd=[inD ns,iD k]/\k<=1000/\∀n:Nat,Q [] (.ow false) (nD [n])
def Jz:∀dd Q x,AH dd Q x->f9 (br [false,false] Q x) (ini [false,false] dd++List.replicate 2 none):=by
 rintro _ Q x⟨ns,k,rfl,hk,q⟩;unfold f9;rfl';refine vE (λE=>∃c:Int,E=[some (.sh,inD ns),some (.sh,iD k),some (.sh,.int c),none]) (λJ hJ=>?_) λB hB=>?_
 .rfl';split;{rename_i h;exact aM (QO h) (hJ _ ⟨_,rfl⟩)};refine⟨by lia,⟨M4,rfl⟩,?_⟩;split
  .rename_i hne;have h1:0<ns.length:=by rcases ns with _|⟨a,t⟩;{exact absurd rfl hne};simp
   exact⟨h1,aM (QO (Sj _ h1)) ⟨by lia,.inl ⟨by lia,by lia⟩,hJ _ ⟨_,rfl⟩⟩⟩
  exact hJ _ ⟨_,rfl⟩
 rintro _⟨c,rfl⟩;rw[hB];rfl';clear hB;have p18:wm 10 18:=⟨by decide,by decide,by decide⟩;have p30:wm 10 30:=⟨by decide,by decide,by decide⟩;have eD:(10:Int)^Int.toNat 30+57=1000000000000000000000000000057:=by decide
 refine⟨p18,?_⟩;split;{rename_i hc;have hc0:(0:Int)<=c:=RG (by decide) hc;obtain⟨n,rfl⟩:=Int.eq_ofNat_of_zero_le hc0;exact⟨by lia,q n⟩};rw[eD];obtain⟨a,ea,ha⟩:=ql c (d:=1000000000000000000000000000057) (by lia);rw[ea];obtain⟨b,eb,hb⟩:=ql (((a:Int)+7919*(k:Int)+101)^Int.toNat 2) (d:=1000000000000000000000000000057) (by lia);rw[eb];obtain⟨e,ee,he⟩:=ql (((b:Int)+977*(k:Int)+5)*618033988749894848204586834365) (d:=1000000000000000000000000000057) (by lia);rw[ee];exact⟨p30,by lia,.inl ⟨by lia,by lia⟩,⟨by lia,by lia,by lia⟩,p30,by lia,.inl ⟨by lia,by lia⟩,⟨by lia,by decide⟩,p30,by lia,by lia,q e⟩
noncomputable def tY:bF:=λdd Q x=>∃(n m:Nat),dd=[nD [n],iD m]/\0<m/\m<2^200/\∀(r n':Nat),r<m->Q [nD [n']] .sh (iD r)
def Mu:∀dd Q x,tY dd Q x->gA (br [true,false] Q x) (ini [true,false] dd++List.replicate 1 none):=by rintro _ Q x⟨n,m,rfl,hm,h2,q⟩;unfold gA;rfl';exact⟨hm,⟨by lia,by lia⟩,q (n%m) (n/m) (Sj _ hm)⟩
noncomputable def F7:bF:=λdd Q x=>∃(n m:Nat),dd=[nD [n],iD m]/\m<=1000/\∀(ms:VI) n',ms.Perm (List.range m)->Q [nD [n']] (.ow false) (nD ms)
def MP:∀dd Q x,F7 dd Q x->fV tY (br [true,false] Q x) (ini [true,false] dd++List.replicate 2 none):=by rintro _ Q x⟨n,m,rfl,h2,q⟩;unfold fV;rfl';refine⟨by lia,?_⟩;rw[if_pos ⟨by lia,by lia⟩];refine aM rfl ?_;refine qW (λi E=>Gx λ(n:Nat)(ms:VI)(o:Option (Kd×PyData))=>DF (E=[some (.ow true,nD [n]),some (.sh,iD m),some (.ow false,nD ms),o]) (b9 o=true) (ms.Perm (List.range i))) ⟨n,[],none,rfl,rfl,List.Perm.refl _⟩ ?_ ?_;{rintro J i _ hi hJ⟨n,ms,o,rfl,ho,hp⟩;simp![ho];refine⟨n,i+1,rfl,by lia,by lia,λr n' hr=>?_⟩;rfl';have hl:=hp.length_eq;rw[QC]at hl;refine⟨r,rfl,by rw[Q5];lia,by rw[Q5];show _<16777216;lia,hJ _ ⟨n',ms.take r++i::ms.drop r,some (.sh,iD i),?_,rfl,?_⟩⟩;{rw[<-Sh,<-List.map_drop,<-QT,<-QZ]};rw[RQ];refine(List.perm_middle).trans ?_;rw[Se];exact(List.Perm.cons i hp).trans (List.perm_append_singleton i _).symm};rintro _⟨n,ms,o,rfl,ho,hp⟩;simp![ho];exact q ms n hp
end PB
local macro_rules | `(tactic| bv_omega) => do let ls ← (List.range 216).toArray.mapM fun k => `(Lean.Parser.Tactic.simpLemma| $(Lean.mkIdent (.str `Dv s!"rr{k}")):ident); `(tactic| dsimp only[$ls,*, Dv.dyr0, Dv.dyr1, Dv.dyr2, Dv.dyr3, Nat.reduceBEq, Dv.jm, Dv.jo, Dv.l5, Dv.lW])
namespace PB
open PySem L2 Dv Gr
structure PI(N m k:Nat)(ps:Uw):Prop where
 ne:∀e∈ps,e.1≠e.2/\e.1<m/\e.2<m
 tr:∀j,0<j->j<k->∃p,p<j/\(p,j)∈ps
 few:ps.length<=N
def zp{a b:Nat}:mH [.tuple [iD a,iD b]] P=P .sh (iD (min a b)):=by show P .sh (.int (if(b:Int)<(a:Int)then(b:Int)else(a:Int)))=_;rw[show(if(b:Int)<(a:Int)then(b:Int)else(a:Int))=((min a b:Nat):Int)by split<;>lia]
def zc{a b:Nat}:mG [.tuple [iD a,iD b]] P=P .sh (iD (max a b)):=by show P .sh (.int (if(b:Int)>(a:Int)then(b:Int)else(a:Int)))=_;rw[show(if(b:Int)>(a:Int)then(b:Int)else(a:Int))=((max a b:Nat):Int)by split<;>lia]
def zu{fs:Uw}:eX e∈fs.map eX↔e∈fs:=by constructor;{intro h;obtain⟨f,hf,ef⟩:=Q9.mp h;rw[<-Iu.mp ef];exact hf};exact λh=>Q9.mpr ⟨e,h,rfl⟩
end PB
namespace Dv
open PySem L2
def LU{most i:Nat}:uQ most i e D (o::E)=(ir (o::E) i=true/\e D.xc (o::E) λE1 k v=>k.fz=true/\GJ most E1 i v D.nx):=by unfold uQ;congr 1;congr 1;funext E1 k v;congr 1;unfold GJ;refine propext ⟨λ⟨p,ds,es,e1,e2,h,q⟩=>by subst e2;rw[e1];exact⟨h,q⟩,λh=>?_⟩;split at h;{rename_i p ds es e1;exact⟨p,ds,es,e1,rfl,h.1,h.2⟩};exact h.elim
def Mj{most i:Nat}{p:Bool}(h:E[i]?=some (some (.ow p,.list ds)))(hl:ds.length+es.length<=most)(q:Q (E.set i (some (.ow p,.list (ds++es))))):GJ most E i (.list es) Q:=by unfold GJ;rw[h];exact⟨hl,q⟩
end Dv
namespace PB
open PySem L2 Dv Gr
end PB
local macro_rules | `(tactic| bv_omega) => do let ls ← (List.range 216).toArray.mapM fun k => `(Lean.Parser.Tactic.simpLemma| $(Lean.mkIdent (.str `Dv s!"rr{k}")):ident); `(tactic| dsimp only[$ls,*, Dv.dyr0, Dv.dyr1, Dv.dyr2, Dv.dyr3, Nat.reduceBEq])
namespace PB
open PySem L2 Dv Gr
section
variable{m:Nat}{es:Uw}{ls:VI}
def jz{k:Str}(gd:Good m es):(aA k m es).Nodup:=by unfold aA;refine U1.mpr ⟨?_,?_,λa ha b hb e=>?_⟩;{split;{exact Rv};exact List.Pairwise.map _ (λa b h e=>h (by cases e;rfl)) Rg};{split;{exact Rv};exact List.Pairwise.map _ (λa b h e=>h (by cases e;rfl)) gd.nd};subst e;split at ha;{cases ha};obtain⟨x,_,rfl⟩:=Q9.mp ha;split at hb;{cases hb};obtain⟨y,_,e⟩:=Q9.mp hb;cases e
end
noncomputable def AQ:bF:=λdd Q x=>∃m es,dd=[wD m es]/\cC m es/\Q [] (.ow false) (.list ((List.range m).map λp=>uv m es p))
def Jq:∀dd Q x,AQ dd Q x->mU Ac (br [false] Q x) (ini [false] dd++List.replicate 1 none):=by
 rintro _ Q x⟨m,es,rfl,W,q⟩;have hm:=W.le;unfold mU;rfl';rw[if_pos (by lia)];refine aM rfl (ju (λp=>uv m es p) rfl (λp hp I hI=>?_) ?_ (by rw[QC];lia))
 .have hp:=QM.mp hp;rfl';refine⟨m,es,p,rfl,W,λk e hk=>?_,λz=>absurd ⟨by lia,by lia⟩ z⟩;have e:p=k:=by lia
  subst e;rfl';exact hI _ rfl
 rfl';exact q
noncomputable def gS (m:Nat)(es:Uw)(t u:Th):VI:=(List.range m).filter λp=>decide (td es p t≠td es p u)
noncomputable def AF:bF:=λdd Q x=>∃m es t u,dd=[.list ((List.range m).map λp=>uv m es p),gJ t,gJ u]/\m<=60/\TV m t/\TV m u/\Q [] (.ow false) (nD (gS m es t u))
def JI:∀dd Q x,AF dd Q x->jU zW (br [false,false,false] Q x) (ini [false,false,false] dd++List.replicate 2 none):=by
 rintro _ Q x⟨m,es,t,u,rfl,hm,ht,hu,q⟩;unfold jU;rfl';have ez:(List.range m).zipIdx=(List.range m).map λp=>(p,p):=by refine Qw λi=>?_;rw[Tw,QF];rcases Qy i m with h|h;{rw[QK h];simp};rw[Qc (by rw[QC];exact h)];rfl
 rw[ez,QN];refine qX (λp=>if decide (td es p t≠td es p u)=true then some (iD p)else none) rfl (λp hp I hI=>?_) ?_ (by rw[QC];lia);{simp![Function.comp];refine⟨m,es,p,t,rfl,ht,?_⟩;rfl';refine⟨m,es,p,u,rfl,hu,?_⟩;simp only[dv,dw,dx,dy,dz,Nat.reduceBEq]at hI⊢;split;{rename_i c;rw[if_pos c]at hI;exact hI _ rfl};rename_i c;rw[if_neg c]at hI;exact hI _ rfl};rw[g8];rfl';exact q
end PB
local macro_rules | `(tactic| bv_omega) => do let ls ← (List.range 216).toArray.mapM fun k => `(Lean.Parser.Tactic.simpLemma| $(Lean.mkIdent (.str `Dv s!"rr{k}")):ident); `(tactic| dsimp only[$ls,*, Dv.dyr0, Dv.dyr1, Dv.dyr2, Dv.dyr3, Nat.reduceBEq, Dv.jm, Dv.jo, Dv.l5, Dv.lW, Dv.mExtT_c])
namespace PB
open PySem L2 Dv Gr
noncomputable def bw (T:List Th):List (Th×Th):=(List.range T.length).flatMap λk=>(T.drop (k+1)).map λu=>(T.getD k (.inl 0),u)
noncomputable abbrev zo (m:Nat)(es:Uw)(e:Th×Th):PyData:=.tuple [gJ e.1,gJ e.2,nD (gS m es e.1 e.2)]
end PB
local macro_rules | `(tactic| bv_omega) => do let ls ← (List.range 216).toArray.mapM fun k => `(Lean.Parser.Tactic.simpLemma| $(Lean.mkIdent (.str `Dv s!"rr{k}")):ident); `(tactic| dsimp only[$ls,*, Dv.dyr0, Dv.dyr1, Dv.dyr2, Dv.dyr3, Nat.reduceBEq])
namespace PB
open PySem L2 Dv Gr
noncomputable def Am:bF:=λdd Q x=>∃m es,dd=[wD m es]/\m<=7/\Q [] .sh .none
def Kh:∀dd Q x,Am dd Q x->fu (br [false] Q x) (ini [false] dd++List.replicate 0 none):=by rintro _ Q x⟨m,es,rfl,hm,q⟩;unfold fu;rfl';rw[if_neg (by simp;lia)];exact q
noncomputable def zK:bF:=λdd Q x=>∃m es k,dd=[wD m es,.str k]/\cC m es/\es.length<=500/\Q [] (.ow false) (.list ((bw (aA k m es)).map (zo m es)))
def J9:∀dd Q x,zK dd Q x->mC AQ Aa AF (br [false,false] Q x) (ini [false,false] dd++List.replicate 6 none):=by
 rintro _ Q x⟨m,es,k,rfl,W,few,q⟩;have hm:=W.le;unfold mC;refine bO λB hB=>?_;rfl';refine⟨m,es,rfl,W,?_⟩;rfl';rw[hB];clear hB B;refine bO λB hB=>?_;rfl';refine⟨m,es,k,rfl,W,?_⟩;rfl';have hT:=qk (k:=k) W.gd;have lT:(aA k m es).length<=560:=by
  unfold aA;rw[QE];have a:(if k="ties" then []else(List.range m).map Sum.inl:List Th).length<=60:=by split<;>simp;lia
  have b:(if k="places" then []else es.map Sum.inr:List Th).length<=500:=by split<;>simp;lia
  lia
 generalize aA k m es=T at q hT lT⊢;rw[hB];clear hB B;refine bO λB hB=>?_;rfl';rw[hB];clear hB B;refine⟨by decide,?_⟩;refine bO λB hB=>?_;rfl';refine AD (λi E=>Dk λ(o5 o6:Option (Kd×PyData))=>GB (E=[some (.sh,wD m es),some (.sh,.str k),some (.ow false,.list ((List.range m).map λp=>uv m es p)),some (.sh,.list (T.map gJ)),some (.ow false,.list (((List.range i).flatMap λk=>(T.drop (k+1)).map λu=>(T.getD k (.inl 0),u)).map (zo m es))),o5,o6,none]) (b9 o5=true) (b9 o6=true) (((List.range i).flatMap λk=>(T.drop (k+1)).map λu=>(T.getD k (.inl 0),u)).length<=i*560)) ⟨none,none,rfl,rfl,rfl,Qt _⟩ ?_ ?_
 .rintro J i⟨t,j⟩_ hi hJ⟨o5,o6,rfl,z5,z6,fl⟩;have⟨ti,ej⟩:T[i]?=some t/\j=i:=by
   rw[Tw]at hi;cases h:T[i]? with
   |none=>rw[h]at hi;cases hi
   |some u=>rw[h]at hi;cases hi;exact⟨rfl,by lia⟩
  subst ej;have tv:TV m t:=hT _ (Qi ti);have li:=cB ti;simp![z5,z6,LU];rw[show((j:Int)+1)=((j+1:Nat):Int)by lia,vW];refine ju (λu=>zo m es (t,u)) rfl (λu hu I hI=>?_) ?_ (by rw[RO];lia);{have tu:TV m u:=hT _ (List.mem_of_mem_drop hu);rfl';refine⟨m,es,t,u,rfl,hm,tv,tu,?_⟩;rfl';exact⟨by decide,hI _ rfl⟩};rfl';have gj:T.getD j (.inl 0)=t:=by rw[QS,ti];rfl
  have e1:(List.drop (j+1) T).map (λu=>zo m es (t,u))=((T.drop (j+1)).map λu=>(T.getD j (.inl 0),u)).map (zo m es):=by rw[QN,gj];rfl
  refine Mj rfl ?_ (hJ _ ⟨some (.sh,iD j),some (.sh,gJ t),?_,rfl,rfl,?_⟩);{rw[Q5,Q5,RO];lia};{rw[RQ,List.flatMap_append,Ud,List.flatMap_nil,Qz,QZ,e1];rfl};rw[RQ,List.flatMap_append,QE,Ud,List.flatMap_nil,Qz,Q5,RO];lia
 rintro _⟨o5,o6,rfl,z5,z6,fl⟩;show B _;rw[hB];clear hB B;rfl';rw[List.length_zipIdx];exact q
noncomputable abbrev dR:=Th×Th×List Nat
noncomputable abbrev p3 (e:dR):PyData:=.tuple [gJ e.1,gJ e.2.1,nD e.2.2]
noncomputable def AU:bF:=λdd Q x=>∃(l:List dR),dd=[.list (l.map p3)]/\l.length<16777216/\∀k:List dR,k.length<=l.length->(∀e∈k,e∈l)->(∀e∈l,∃f∈k,f.2.2=e.2.2)->Q [] (.ow false) (.list (k.map p3))
noncomputable abbrev Dq (e:dR):PyData×PyData:=(.tuple (e.2.2.map iD),p3 e)
theorem wX:∀{a b:VI},a.map iD=b.map iD->a=b
 |[],[],_=>rfl
 |[],_::_,h=>by cases h
 |_::_,[],h=>by cases h
 |x::a,y::b,h=>by rw[QT,QT]at h;injection h with h1 h2;injection h1 with h1;rw[Int.ofNat.inj h1,wX h2]
def Fx{ks:List dR}{a:VI}(h:∀e∈ks,e.2.2≠a):bV (ks.map Dq) (.tuple (a.map iD))=none:=by unfold bV;rw[List.find?_eq_none.mpr];{rfl};intro kv hk;obtain⟨e,he,rfl⟩:=Q9.mp hk;rw[Rf];intro z;injection z with z;exact h e he (wX z)
def Fq{ks:List dR}{a:VI}(h:∃e∈ks,e.2.2=a):∃v,bV (ks.map Dq) (.tuple (a.map iD))=some v:=by
 obtain⟨e,he,rfl⟩:=h;unfold bV;cases c:List.find? (λkv=>decide (kv.1=PyData.tuple (e.2.2.map iD))) (ks.map Dq)with
 |some v=>exact⟨_,rfl⟩
 |none=>have:=List.find?_eq_none.mp c (Dq e) (U9 he);exact absurd (Qp rfl) this
def K7:∀dd Q x,AU dd Q x->gZ (br [false] Q x) (ini [false] dd++List.replicate 4 none):=by
 rintro _ Q x⟨l,rfl,hl,q⟩;unfold gZ;refine bO λB hB=>?_;rfl';refine Or.inr ?_;rfl';rw[hB];clear hB B;refine bO λB hB=>?_;rfl';refine AD (λn E=>FY λ(ks:List dR)(o2 o3 o4:Option (Kd×PyData))=>JO (E=[some (.sh,.list (l.map p3)),some (.dt false,.dict ((.none,.none)::ks.map Dq)),o2,o3,o4]) (b9 o2=true) (b9 o3=true) (b9 o4=true) (ks.length<=n) ((∀e∈ks,e∈l)) (∀e∈l.take n,∃f∈ks,f.2.2=e.2.2)) ⟨[],none,none,none,rfl,rfl,rfl,rfl,Q7 _,by simp,by simp⟩ ?_ ?_
 .rintro J n e _ hn hJ⟨ks,o2,o3,o4,rfl,z2,z3,z4,kl,sub,all⟩;have ln:=cB hn;simp![z2,z3,z4];unfold Ar;refine⟨rfl,.sh,e.2.2.map iD,rfl,rfl,by rw[QY];intro d hd;obtain⟨y,_,rfl⟩:=Q9.mp hd;rfl,?_⟩;rfl';refine⟨by decide,_,rfl,by rw[Q5];show _<16777216;lia,?_⟩;have tk:l.take (n+1)=l.take n++[e]:=by rw[Tr,hn];rfl
  by_cases c:∃f∈ks,f.2.2=e.2.2;{obtain⟨v,hv⟩:=Fq c;refine hJ _ ⟨ks,some (.sh,gJ e.1),some (.sh,gJ e.2.1),some (.sh,nD e.2.2),?_,rfl,rfl,rfl,by lia,sub,λg hg=>?_⟩;{unfold Cp;rw[hv]};rw[tk]at hg;rcases QL.mp hg with z|z;{exact all g z};rw[Q8.mp z];exact c};have hv:=Fx (ks:=ks) (a:=e.2.2) λf hf z=>c ⟨f,hf,z⟩;refine hJ _ ⟨ks++[e],some (.sh,gJ e.1),some (.sh,gJ e.2.1),some (.sh,nD e.2.2),?_,rfl,rfl,rfl,?_,λg hg=>?_,λg hg=>?_⟩;{unfold Cp;rw[hv,QZ];rfl};{rw[QE];exact Nat.add_le_add_right kl 1};{rcases QL.mp hg with z|z;{exact sub g z};rw[Q8.mp z];exact Qi hn};rw[tk]at hg;rcases QL.mp hg with z|z;{obtain⟨f,hf,e1⟩:=all g z;exact⟨f,UK _ hf,e1⟩};rw[Q8.mp z];exact⟨e,RD _ (Q8.mpr rfl),rfl⟩
 rintro _⟨ks,o2,o3,o4,rfl,z2,z3,z4,kl,sub,all⟩;show B _;rw[hB];clear hB B;rfl';unfold KW;refine⟨_,_,rfl,?_⟩;rw[Rc]at all;have:=q ks kl sub all;rw[QN];exact this
end PB
namespace Lp
noncomputable abbrev Vc:=Nat->Int
noncomputable def sh (c:Vc):Vc:=λi=>c (i+1)
noncomputable def ex (D:List Vc->Int):List Vc->List Vc->Int
 |_,[]=>0
 |pre,c::post=>c 0*D ((pre++post).map sh)-ex D (pre++[c]) post
noncomputable def det:Nat->List Vc->Int
 |0,_=>1
 |m+1,cs=>ex (det m) [] cs
noncomputable def Lh (D:List Vc->Int) (n:Nat):Prop:=∀(l1 l2:List Vc)(u v w:Vc) (a b:Int),l1.length+1+l2.length=n->(∀i,w i=a*u i+b*v i)->D (l1++w::l2)=a*D (l1++u::l2)+b*D (l1++v::l2)
noncomputable def Kp (D:List Vc->Int) (n:Nat):Prop:=∀(l1 l2:List Vc)(c:Vc),l1.length+2+l2.length=n->D (l1++c::c::l2)=0
section
variable{D:List Vc->Int}{n:Nat}
theorem yO(L:Lh D n)(p1 p2:List Vc)(u v w:Vc) (a b:Int)(e:∀i,w i=a*u i+b*v i):∀(post p2:List Vc),p1.length+1+p2.length+post.length=n+1->ex D (p1++w::p2) post=a*ex D (p1++u::p2) post+b*ex D (p1++v::p2) post
 |[],_,_=>by simp[ex]
 |c::post,p2,h=>by
  have h1:(List.map sh p1).length+1+(List.map sh (p2++post)).length=n:=by simp only[Q5,QE,QJ]at h⊢;lia
  have l:=L (p1.map sh) ((p2++post).map sh) (sh u) (sh v) (sh w) a b h1 (λi=>e (i+1));have r:=yO L p1 p2 u v w a b e post (p2++[c]) (by simp only[QE,QJ,Qu]at h⊢;lia);simp only[ex,Qh,SN,QZ,QT]at l r⊢;rw[l,r,Int.mul_add,Sk,Sk];rw[Rh (c 0) a,Rh (c 0) b];lia
theorem yf(L:Lh D n)(u v w:Vc) (a b:Int)(e:∀i,w i=a*u i+b*v i)(q2:List Vc):∀(q1 pre:List Vc),pre.length+q1.length+1+q2.length=n+1->ex D pre (q1++w::q2)=a*ex D pre (q1++u::q2)+b*ex D pre (q1++v::q2)
 |[],pre,h=>by have r:=yO L pre [] u v w a b e q2 [] (by simp only[Qu]at h⊢;lia);simp only[ex,Rx]at r⊢;rw[r,e 0,Sk,Sk,Int.add_mul,Ri,Ri];lia
 |c::q1,pre,h=>by
  have h1:(List.map sh (pre++q1)).length+1+(List.map sh q2).length=n:=by simp only[Q5,QE,QJ]at h⊢;lia
  have l:=L ((pre++q1).map sh) (q2.map sh) (sh u) (sh v) (sh w) a b h1 (λi=>e (i+1));have r:=yf L u v w a b e q2 q1 (pre++[c]) (by simp only[QE,QJ,Qu]at h⊢;lia);simp only[ex,Qh,SN,QZ,QT]at l r⊢;rw[l,r,Int.mul_add,Sk,Sk];rw[Rh (c 0) a,Rh (c 0) b];lia
theorem xY(Z:Kp D n)(p1:List Vc)(x:Vc):∀(post p2:List Vc),p1.length+2+p2.length+post.length=n+1->ex D (p1++x::x::p2) post=0
 |[],_,_=>rfl
 |c::post,p2,h=>by have l:=Z (p1.map sh) ((p2++post).map sh) (sh x) (by simp only[Q5,QE,QJ]at h⊢;lia);have r:=xY Z p1 x post (p2++[c]) (by simp only[QE,QJ,Qu]at h⊢;lia);simp only[ex,Qh,SN,QZ,QT]at l r⊢;rw[l,r];lia
theorem yZ(Z:Kp D n)(x:Vc)(q2:List Vc):∀(q1 pre:List Vc),pre.length+q1.length+2+q2.length=n+1->ex D pre (q1++x::x::q2)=0
 |[],pre,h=>by have r:=xY Z pre x q2 [] (by simp only[Qu]at h⊢;lia);simp only[ex,Rx,Qh,SN]at r⊢;rw[r];lia
 |c::q1,pre,h=>by have l:=Z ((pre++q1).map sh) (q2.map sh) (sh x) (by simp only[Q5,QE,QJ]at h⊢;lia);have r:=yZ Z x q2 q1 (pre++[c]) (by simp only[QE,QJ,Qu]at h⊢;lia);simp only[ex,Qh,SN,QZ,QT]at l r⊢;rw[l,r];lia
end
theorem lA:∀n,Lh (det n) n
 |0=>λl1 l2 u v w a b h e=>by lia
 |n+1=>λl1 l2 u v w a b h e=>yf (lA n) u v w a b e l2 l1 [] (by simp only[Qu];lia)
theorem ly:∀n,Kp (det n) n
 |0=>λl1 l2 c h=>by lia
 |n+1=>λl1 l2 c h=>yZ (ly n) c l2 l1 [] (by simp only[Qu];lia)
def Fv{n:Nat}(l1 l2:List Vc)(x y:Vc)(h:l1.length+2+l2.length=n):det n (l1++x::y::l2)=- det n (l1++y::x::l2):=by have z:=ly n l1 l2 (λi=>x i+y i) h;have e1:=lA n l1 ((λi=>x i+y i)::l2) x y (λi=>x i+y i) 1 1 (by simp only[QJ];lia) (λi=>by lia);have e2:=lA n (l1++[x]) l2 x y (λi=>x i+y i) 1 1 (by simp only[QE,QJ,Qu];lia) (λi=>by lia);have e3:=lA n (l1++[y]) l2 x y (λi=>x i+y i) 1 1 (by simp only[QE,QJ,Qu];lia) (λi=>by lia);simp only[Qh,SN,Rx]at e2 e3;have zx:=ly n l1 l2 x h;have zy:=ly n l1 l2 y h;lia
theorem ze{n:Nat}(c:Vc)(l2:List Vc):∀(mid l1:List Vc),l1.length+2+mid.length+l2.length=n->det n (l1++c::(mid++c::l2))=0
 |[],l1,h=>ly n l1 l2 c (by simp only[Qu]at h;lia)
 |d::mid,l1,h=>by have e:=Fv l1 (mid++c::l2) c d (n:=n) (by simp only[QE,QJ]at h⊢;lia);have r:=ze c l2 mid (l1++[d]) (n:=n) (by simp only[QE,QJ,Qu]at h⊢;lia);simp only[Qh,SN,Rx]at e r⊢;rw[e,r];rfl
def nE{B:List Vc}{i:Nat}(h:i<B.length)(w:Vc):B.set i w=B.take i++w::B.drop (i+1):=List.set_eq_take_append_cons_drop.trans (if_pos h)
def oV{B:List Vc}{i:Nat}(h:i<B.length){w:Vc}{a b:Int}(e:∀t,w t=a*u t+b*v t):det B.length (B.set i w)=a*det B.length (B.set i u)+b*det B.length (B.set i v):=by rw[nE h,nE h,nE h];exact lA _ _ _ _ _ _ _ _ (by rw[RW,RO];lia) e
def yo{i j:Nat}(hij:i<j)(hj:j<B.length)(e:B[i]?=B[j]?):det B.length B=0:=by
 have hi:i<B.length:=by lia
 have e1:B=B.take i++B[i]::((B.drop (i+1)).take (j-i-1)++B[i]::B.drop (j+1)):=by
  have ej:B[i]=B[j]:=by rw[QO hi,QO hj]at e;exact Option.some.inj e
  have a1:B=B.take i++B[i]::B.drop (i+1):=by rw[List.getElem_cons_drop,Se]
  have a2:B.drop (i+1)=(B.drop (i+1)).take (j-i-1)++B[j]::B.drop (j+1):=by
   have:B[j]::B.drop (j+1)=(B.drop (i+1)).drop (j-i-1):=by rw[List.drop_drop,show i+1+(j-i-1)=j by lia,List.getElem_cons_drop]
   rw[this,Se]
  rw[<-ej]at a2;rw[<-a2];exact a1
 have l:(B.take i).length+2+((B.drop (i+1)).take (j-i-1)).length+(B.drop (j+1)).length=B.length:=by simp only[RW,RO];lia
 have:=ze B[i] (B.drop (j+1)) ((B.drop (i+1)).take (j-i-1)) (B.take i) l;rwa[<-e1]at this
noncomputable def sm (n:Nat)(f:Nat->Int):Int:=match n with
 |0=>0
 |n+1=>sm n f+f n
def aC{n:Nat}{f g:Nat->Int}(h:∀k,k<n->f k=g k):sm n f=sm n g:=by
 induction n with
 |zero=>rfl
 |succ n ih=>rw[sm,sm,ih λk hk=>h k (by lia),h n (by lia)]
def qY{n:Nat}{f g:Nat->Int}:sm n (λk=>f k+g k)=sm n f+sm n g:=by
 induction n with
 |zero=>rfl
 |succ n ih=>rw[sm,sm,sm,ih];lia
def eE{n:Nat}{f:Nat->Int}{c:Int}:sm n (λk=>c*f k)=c*sm n f:=by
 induction n with
 |zero=>exact(Qo c).symm
 |succ n ih=>rw[sm,sm,ih,Int.mul_add]
def dN{n:Nat}{f:Nat->Int}(h:∀k,k<n->f k=0):sm n f=0:=by
 induction n with
 |zero=>rfl
 |succ n ih=>rw[sm,ih λk hk=>h k (by lia),h n (by lia)];rfl
def lO{n i:Nat}{f:Nat->Int}(hi:i<n)(h:∀k,k<n->k≠i->f k=0):sm n f=f i:=by
 induction n with
 |zero=>lia
 |succ n ih=>rw[sm];by_cases c:i=n;{subst c;rw[dN λk hk=>h k (by lia) (by lia)];lia};rw[ih (by lia) λk hk=>h k (by lia),h n (by lia) (λz=>c z.symm)];lia
def LF{n i j:Nat}{f:Nat->Int}(hi:i<n)(hj:j<n)(ne:i≠j)(h:∀k,k<n->k≠i->k≠j->f k=0):sm n f=f i+f j:=by
 have e:sm n f=sm n λk=>(if k=i then f k else 0)+(if k=i then 0 else f k):=aC λk _=>by split<;>lia
 rw[e,qY,lO (i:=i) hi λk _ z=>if_neg z,lO (i:=j) hj λk hk z=>by
  by_cases c:k=i
  .rw[if_pos c]
  .rw[if_neg c];exact h k hk c z]
 rw[if_pos rfl,if_neg (Ne.symm ne)]
def mz{n:Nat}{f g:Nat->Int}(h:∀k,k<n->f k<=g k):sm n f<=sm n g:=by
 induction n with
 |zero=>exact Sl 0
 |succ n ih=>rw[sm,sm];have:=ih λk hk=>h k (by lia);have:=h n (by lia);lia
def oQ{m n:Nat}{f:Nat->Nat->Int}:sm m (λi=>sm n (λj=>f i j))=sm n λj=>sm m λi=>f i j:=by
 induction m with
 |zero=>exact(dN λ_ _=>rfl).symm
 |succ m ih=>rw[sm,ih];exact qY.symm
def JM{n:Nat}{f:Nat->Int}(h:0<sm n f):∃k,k<n/\0<f k:=by refine SO λz=>?_;have:sm n f<=sm n λ_=>0:=mz λk hk=>Ry.mp λy=>z ⟨k,hk,y⟩;rw[dN (f:=λ_=>0) λ_ _=>rfl]at this;lia
def ny{B:List Vc}{i n:Nat}(h:i<B.length){cf:Nat->Int}{V:Nat->Vc}{w:Vc}(e:∀t,w t=sm n λk=>cf k*V k t):det B.length (B.set i w)=sm n λk=>cf k*det B.length (B.set i (V k)):=by
 induction n generalizing w with
 |zero=>have:=oV h (u:=λ_=>0) (v:=λ_=>0) (w:=w) (a:=0) (b:=0) (λt=>by rw[e t];rfl);rw[this,sm];lia
 |succ n ih=>have:=oV h (u:=λt=>sm n λk=>cf k*V k t) (v:=V n) (w:=w) (a:=1) (b:=cf n) (λt=>by rw[e t,sm];lia);rw[this,sm,ih λ_=>rfl,Int.one_mul]
def yP{B:List Vc}{i:Nat}(h:i<B.length){c:Int}{w:Vc}(e:∀t,w t=c*v t):det B.length (B.set i w)=c*det B.length (B.set i v):=by have:=ny h (n:=1) (cf:=λ_=>c) (V:=λ_=>v) (w:=w) (λt=>by rw[e t,sm,sm];lia);rw[this,sm,sm];lia
def qD{i j:Nat}(hi:i<B.length)(hj:j<B.length)(ne:i≠j)(e:B[i]?=B[j]?):det B.length B=0:=by rcases Nat.lt_or_gt_of_ne ne with h|h;{exact yo h hj e};exact yo h hi e.symm
def Jo{B:List Vc}{i j:Nat}(hi:i<B.length)(hj:j<B.length)(ne:i≠j)(x y:Vc):det B.length ((B.set i x).set j y)=- det B.length ((B.set i y).set j x):=by
 have z:∀v:Vc,det B.length ((B.set i v).set j v)=0:=λv=>by have:=qD (B:=(B.set i v).set j v) (i:=i) (j:=j) (by simpa using hi) (by simpa using hj) ne (by simp[RS,ne,Ne.symm ne,hi,hj]);simpa using this
 have l1:∀(v:Vc),det B.length ((B.set i λt=>x t+y t).set j v)=det B.length ((B.set i x).set j v)+det B.length ((B.set i y).set j v):=λv=>by have:=oV (B:=B.set j v) (i:=i) (by simpa using hi) (u:=x) (v:=y) (w:=λt=>x t+y t) (a:=1) (b:=1) (λt=>by lia);simp only[QX]at this;rw[TY _ _ ne,this,TY _ _ ne,TY _ _ ne];lia
 have l2:∀(v:Vc),det B.length ((B.set i v).set j λt=>x t+y t)=det B.length ((B.set i v).set j x)+det B.length ((B.set i v).set j y):=λv=>by have:=oV (B:=B.set i v) (i:=j) (by simpa using hj) (u:=x) (v:=y) (w:=λt=>x t+y t) (a:=1) (b:=1) (λt=>by lia);simp only[QX]at this;rw[this];lia
 have h:=z λt=>x t+y t;rw[l1,l2,l2,z x,z y]at h;lia
def IA{B:List Vc}{r i:Nat}(hr:r<B.length)(hi:i<B.length)(ne:r≠i)(J:∀t,det B.length B*y t=sm B.length λk=>det B.length (B.set k y)*(B.getD k (λ_=>0)) t) : det B.length B*det B.length ((B.set r x).set i y)=det B.length (B.set r x)*det B.length (B.set i y)-det B.length (B.set i x)*det B.length (B.set r y):=by
 have gd:∀{k:Nat},k<B.length->B[k]?=some (B.getD k (λ_=>0)):=λ{k} h=>by rw[QS,QO h];rfl
 have sd:∀{k:Nat},k<B.length->B.set k (B.getD k (λ_=>0))=B:=λ{k} h=>by refine Qw λj=>?_;rw[RS];by_cases c:k=j;{subst c;rw[if_pos rfl,if_pos h,gd h]};rw[if_neg c]
 have h1:=yP (B:=B.set r x) (i:=i) (by simpa using hi) (c:=det B.length B) (v:=y) (w:=λt=>det B.length B*y t) (λ_=>rfl);have h2:=ny (B:=B.set r x) (i:=i) (by simpa using hi) (w:=λt=>det B.length B*y t) J;simp only[QX]at h1 h2;rw[<-h1,h2,LF hi hr (Ne.symm ne) λk hk k1 k2=>?_]
 .have e1:(B.set r x).set i (B.getD i λ_=>0)=B.set r x:=by rw[TY _ _ ne,sd hi]
  have e2:det B.length ((B.set r x).set i (B.getD r λ_=>0))=- det B.length (B.set i x):=by rw[Jo hr hi ne,sd hr]
  rw[e1,e2,Qs (det B.length (B.set i y)),Int.mul_neg,Qs (det B.length (B.set r y))];lia
 have:=qD (B:=(B.set r x).set i (B.getD k λ_=>0)) (i:=i) (j:=k) (by simpa using hi) (by simpa using hk) (Ne.symm k1) (by
  rw[Ro (by simpa using hi),RT (Ne.symm k1),RT (Ne.symm k2),gd hk])
 simp only[QX]at this;rw[this,Qo]
noncomputable def un (i:Nat):Vc:=λt=>if t=i then 1 else 0
section
variable(m N:Nat)(A:Nat->Vc)
noncomputable def Bm (b:VI):List Vc:=b.map A++[un m]
noncomputable def dt (b:VI):Int:=det (m+1) (Bm m A b)
noncomputable def T (b:VI) (k j:Nat):Int:=det (m+1) ((Bm m A b).set k (A j))
structure Bs(b:VI):Prop where
 len:b.length=m
 lt:∀c∈b,c<N
 pos:0<dt m A b
 J:∀j t,dt m A b*A j t=sm (m+1) λk=>T m A b k j*(Bm m A b).getD k (λ_=>0) t
 rhs:∀k,k<m->0<=T m A b k N
end
section
variable{m N:Nat}{A:Nat->Vc}{b:VI}
def lC(h:b.length=m):(Bm m A b).length=m+1:=by unfold Bm;rw[QE,Q5,h];rfl
def kX(h:b.length=m){k:Nat}(hk:k<m):(Bm m A b).getD k (λ_=>0)=A (b.getD k 0):=by
 have hb:k<b.length:=by lia
 unfold Bm;rw[QS,SX (by rw[Q5];exact hb),QF,QS,QO hb];rfl
def jh(h:b.length=m):(Bm m A b).getD m (λ_=>0)=un m:=by unfold Bm;rw[QS,Sx (by rw[Q5];lia),Q5,h,Nat.sub_self];rfl
def rB(h:b.length=m){r c:Nat}(hr:r<m):Bm m A (b.set r c)=(Bm m A b).set r (A c):=by unfold Bm;rw[List.map_set,List.set_append,if_pos (by rw[Q5];lia)]
def xj{l:List Vc}{k:Nat}(h:k<l.length):l[k]?=some (l.getD k (λ_=>0)):=by rw[QS,QO h];rfl
def rP{l:List Vc}{k:Nat}(h:k<l.length):l.set k (l.getD k (λ_=>0))=l:=by refine Qw λj=>?_;rw[RS];by_cases c:k=j;{subst c;rw[if_pos rfl,if_pos h,xj h]};rw[if_neg c]
def rK(h:b.length=m){i k:Nat}(hi:i<m+1)(hk:k<m):T m A b i (b.getD k 0)=if i=k then dt m A b else 0:=by
 have l:=lC (A:=A) h;unfold T dt;rw[<-kX (A:=A) h hk];split;{rename_i e;subst e;rw[rP (by lia)]};rename_i ne;have:=qD (B:=(Bm m A b).set i ((Bm m A b).getD k λ_=>0)) (i:=i) (j:=k) (by rw[QX];lia) (by rw[QX];lia) ne (by
  rw[Ro (by lia),RT ne,xj (by lia)])
 rw[QX,l]at this;exact this
def Bs.nd(H:Bs m N A b){i k:Nat}(hi:i<m)(hk:k<m)(e:b.getD i 0=b.getD k 0):i=k:=by refine SO λne=>?_;have h1:=rK (A:=A) H.len (i:=i) (k:=k) (by lia) hk;rw[if_neg ne,<-e,rK (A:=A) H.len (by lia) hi,if_pos rfl]at h1;have:=H.pos;lia
def gs{l:VI}{r c k:Nat}(hr:r<l.length):(l.set r c).getD k 0=if k=r then c else l.getD k 0:=by rw[QS,RS];by_cases e:r=k;{rw[if_pos e,if_pos hr,if_pos e.symm];rfl};rw[if_neg e,if_neg (Ne.symm e),QS]
def uK(H:Bs m N A b){r c:Nat}(hr:r<m):dt m A (b.set r c)=T m A b r c:=by unfold dt T;rw[rB H.len hr]
def oS(H:Bs m N A b){r c:Nat}(hr:r<m) (j:Nat):T m A (b.set r c) r j=T m A b r j:=by unfold T;rw[rB H.len hr,U8]
def rG(H:Bs m N A b){r c k:Nat}(hr:r<m)(hk:k<m+1)(ne:k≠r) (j:Nat):dt m A b*T m A (b.set r c) k j=T m A b r c*T m A b k j-T m A b k c*T m A b r j:=by have l:=lC (A:=A) H.len;have:=IA (B:=Bm m A b) (r:=r) (i:=k) (x:=A c) (y:=A j) (by lia) (by lia) (Ne.symm ne) (by rw[l];exact H.J j);rw[l]at this;unfold T dt;rw[rB H.len hr];exact this
def Pg(H:Bs m N A b){r c:Nat}(hr:r<m)(hc:c<N)(hp:0<T m A b r c)(rat:∀k,k<m->0<T m A b k c->T m A b r N*T m A b k c<=T m A b k N*T m A b r c):Bs m N A (b.set r c):=by
 have hb:r<b.length:=by rw[H.len];exact hr
 have dp:=H.pos;refine⟨by rw[QX];exact H.len,λx hx=>?_,by rw[uK H hr];exact hp,λj t=>?_,λk hk=>?_⟩;{rcases List.mem_or_eq_of_mem_set hx with z|z;{exact H.lt x z};rw[z];exact hc}
 .have hd:dt m A b≠0:=by lia
  refine Int.eq_of_mul_eq_mul_left hd ?_;have ls:(b.set r c).length=m:=by rw[QX];exact H.len
  rw[<-eE,uK H hr];have e:∀k,k<m+1->dt m A b*(T m A (b.set r c) k j*(Bm m A (b.set r c)).getD k (λ_=>0) t)=(T m A b r c*(T m A b k j*(Bm m A b).getD k (λ_=>0) t) + - T m A b r j*(T m A b k c*(Bm m A b).getD k (λ_=>0) t))+(if k=r then T m A b r j*(dt m A b*A c t)else 0):=λk hk=>by
   by_cases z:k=r
   .subst z;rw[if_pos rfl,oS H hr,kX ls hr,gs hb,if_pos rfl,Rh (dt m A b)];have:T m A b k c*(T m A b k j*(Bm m A b).getD k (λ_=>0) t) + - T m A b k j*(T m A b k c*(Bm m A b).getD k (λ_=>0) t)=0:=by rw[Int.neg_mul,Rh (T m A b k c)];lia
    rw[this,Int.zero_add]
   rw[if_neg z,UA,<-Ri,rG H hr hk z];have eB:(Bm m A (b.set r c)).getD k (λ_=>0)=(Bm m A b).getD k (λ_=>0):=by rw[rB H.len hr,QS,RT (Ne.symm z),<-QS]
   rw[eB,Int.sub_mul,Int.neg_mul,Ri,<-Ri (T m A b r j),Qs (T m A b r j),Int.sub_eq_add_neg]
  rw[aC e,qY,qY,eE,eE,<-H.J j t,<-H.J c t,lO (i:=r) (by lia) λk _ z=>if_neg z,if_pos rfl,Int.neg_mul,Rh (dt m A b)];lia
 by_cases z:k=r;{subst z;rw[oS H hr];exact H.rhs k hk};have e:=rG H hr (c:=c) (by lia) z N;have h1:=H.rhs k hk;have h2:=H.rhs r hr;refine SO λneg=>?_;have neg:T m A (b.set r c) k N<0:=Int.not_le.mp neg;have h3:=Int.mul_neg_of_pos_of_neg dp neg;rw[e]at h3;by_cases q:0<T m A b k c;{have:=rat k hk q;rw[Qs (T m A b r c),Qs (T m A b k c)]at h3;lia};have a1:=Int.mul_nonneg (Sm hp) h1;have a2:T m A b k c*T m A b r N<=0:=UB (Ry.mp q) h2;lia
end
section
variable(m N:Nat)(A:Nat->Vc)
structure xX(b:VI) (s r:Nat):Prop where
 sN:s<N
 neg:T m A b m s<0
 fst:∀j,j<s->0<=T m A b m j
 rm:r<m
 pos:0<T m A b r s
 rat:∀k,k<m->0<T m A b k s->T m A b r N*T m A b k s<=T m A b k N*T m A b r s
 Pf:∀k,k<m->0<T m A b k s->T m A b r N*T m A b k s=T m A b k N*T m A b r s->b.getD r 0<=b.getD k 0
end
section
variable{m N:Nat}{A:Nat->Vc}
def xX.bs{s r:Nat}(S:xX m N A b s r)(H:Bs m N A b):Bs m N A (b.set r s):=Pg H S.rm S.sN S.pos S.rat
def mw{a b c d e f:Int}(pd:0<d)(pf:0<f)(pb:0<b)(h1:a*d<=c*b)(h2:c*f<=e*d):a*f<=e*b:=by refine Int.le_of_mul_le_mul_left ?_ pd;have g1:=Ul h1 (Sm pf);have g2:=Ul h2 (Sm pb);rw[show d*(a*f)=a*d*f by rw[Rh,Ri]];rw[show d*(e*b)=e*d*b by rw[Rh,Ri]];rw[show c*b*f=c*f*b by rw[Int.mul_right_comm]]at g1;lia
structure fN(m N:Nat)(A:Nat->Vc)(b:Nat->VI)(s r:Nat->Nat) (L:Nat):Prop where
 bs:∀t,Bs m N A (b t)
 st:∀t,xX m N A (b t) (s t) (r t)
 nx:∀t,b (t+1)=(b t).set (r t) (s t)
 pL:0<L
 pb:∀t,b (t+L)=b t
 ps:∀t,s (t+L)=s t
 pr:∀t,r (t+L)=r t
section
variable{b:Nat->VI}{s r:Nat->Nat}{L:Nat}
def fN.dn(R:fN m N A b s r L) (t:Nat):dt m A (b (t+1))=T m A (b t) (r t) (s t):=by rw[R.nx t];exact uK (R.bs t) (R.st t).rm
def fN.zn(R:fN m N A b s r L) (t:Nat):dt m A (b t)*T m A (b (t+1)) m N=T m A (b t) m N*dt m A (b (t+1))-T m A (b t) m (s t)*T m A (b t) (r t) N:=by have e:=rG (R.bs t) (R.st t).rm (c:=s t) (k:=m) (by lia) (by have:=(R.st t).rm;lia) N;rw[<-R.nx t]at e;rw[e,R.dn t,Qs (T m A (b t) m N)]
def fN.up1(R:fN m N A b s r L) (t:Nat):T m A (b t) m N*dt m A (b (t+1))<=T m A (b (t+1)) m N*dt m A (b t):=by have e:=R.zn t;have h:=UB (Sm (R.st t).neg) ((R.bs t).rhs _ (R.st t).rm);rw[Qs (T m A (b (t+1)) m N),e];lia
theorem fN.up(R:fN m N A b s r L) (t:Nat):∀k,T m A (b t) m N*dt m A (b (t+k))<=T m A (b (t+k)) m N*dt m A (b t)
 |0=>Sl _
 |k+1=>mw (R.bs (t+k)).pos (R.bs (t+k+1)).pos (R.bs t).pos (R.up t k) (R.up1 (t+k))
def fN.vP(R:fN m N A b s r L) (t:Nat):T m A (b t) (r t) N=0:=by
 refine SO λne=>?_;have p:0<T m A (b t) (r t) N:=by have:=(R.bs t).rhs _ (R.st t).rm;lia
 have h:=R.up (t+1) (L-1);have pL:=R.pL;rw[show t+1+(L-1)=t+L by lia,R.pb t]at h;have e:=R.zn t;have g:=Int.mul_neg_of_neg_of_pos (R.st t).neg p;rw[Qs (T m A (b (t+1)) m N)]at h;lia
def fN.Ot(R:fN m N A b s r L) (t:Nat){k:Nat}(hk:k<m)(h:T m A (b t) k N=0):T m A (b (t+1)) k N=0:=by by_cases c:k=r t;{rw[R.nx t,c,oS (R.bs t) (R.st t).rm];exact R.vP t};have e:=rG (R.bs t) (R.st t).rm (c:=s t) (k:=k) (by lia) c N;rw[<-R.nx t,R.vP t,h,Qo,Qo]at e;have:=(R.bs t).pos;rcases Int.mul_eq_zero.mp e with z|z<;>lia
theorem fN.row(R:fN m N A b s r L) (t k:Nat)(hk:k<m):∀n,(b (t+n)).getD k 0=(b t).getD k 0\/∃u,u<n/\(b (t+n)).getD k 0=s (t+u)/\T m A (b (t+n)) k N=0
 |0=>.inl rfl
 |n+1=>by have hl:=(R.bs (t+n)).len;have hr:=(R.st (t+n)).rm;rw[<-Ra,R.nx (t+n),gs (by lia)];by_cases c:k=r (t+n);{rw[if_pos c];refine .inr ⟨n,by lia,rfl,?_⟩;rw[c,oS (R.bs _) hr];exact R.vP _};rw[if_neg c,<-R.nx (t+n)];rcases R.row t k hk n with h|⟨u,hu,h,z⟩;{exact .inl h};exact .inr ⟨u,by lia,h,R.Ot (t+n) hk z⟩
theorem first{P:Nat->Prop}:∀n,P n->∃k,k<=n/\P k/\∀j,j<k->¬P j
 |0,h=>⟨0,Q7 0,h,λj hj=>by lia⟩
 |n+1,h=>by
  by_cases c:∃j,j<=n/\P j
  .obtain⟨j,hj,pj⟩:=c;have⟨k,hk,pk,f⟩:=first (P:=P) j pj
   exact⟨k,by lia,pk,f⟩
  exact⟨n+1,Q7 _,h,λj hj pj=>c ⟨j,by lia,pj⟩⟩
termination_by n=>n
theorem fN.keep(R:fN m N A b s r L) (t k:Nat):∀n,(∀j,j<n->r (t+j)≠k)->(b (t+n)).getD k 0=(b t).getD k 0
 |0,_=>rfl
 |n+1,h=>by have hl:=(R.bs (t+n)).len;have hr:=(R.st (t+n)).rm;rw[<-Ra,R.nx (t+n),gs (by lia),if_neg (λe=>h n (by lia) e.symm)];exact R.keep t k n λj hj=>h j (by lia)
theorem fN.NC(R:fN m N A b s r L) (t:Nat):∀n,s (t+n*L)=s t
 |0=>by rw[Nat.zero_mul];rfl
 |n+1=>by rw[Nat.add_mul,Nat.one_mul,<-Ra,R.ps,R.NC t n]
theorem most(f:Nat->Nat):∀L,0<L->∃p,p<L/\∀t,t<L->f t<=f p
 |1,_=>⟨0,by lia,λt ht=>by rw[show t=0 by lia];exact Q7 _⟩
 |L+2,_=>by have⟨p,hp,h⟩:=most f (L+1) (by lia);by_cases c:f (L+1)<=f p;{exact⟨p,by lia,λt ht=>if e:t=L+1 then e▸c else h t (by lia)⟩};exact⟨L+1,by lia,λt ht=>if e:t=L+1 then e▸Q7 _ else by have:=h t (by lia);lia⟩
def two(P:Bs m N A p)(Q:Bs m N A q) (x:Nat):dt m A q*T m A p m x=sm m (λk=>T m A q k x*T m A p m (q.getD k 0))+T m A q m x*dt m A p:=by
 have lp:=lC (A:=A) P.len;have h1:=yP (B:=Bm m A p) (i:=m) (by lia) (c:=dt m A q) (v:=A x) (w:=λt=>dt m A q*A x t) (λ_=>rfl);have h2:=ny (B:=Bm m A p) (i:=m) (by lia) (w:=λt=>dt m A q*A x t) (Q.J x);rw[lp]at h1 h2;have e:T m A p m x=det (m+1) ((Bm m A p).set m (A x)):=rfl;rw[e,<-h1,h2,sm];have e1:det (m+1) ((Bm m A p).set m ((Bm m A q).getD m λ_=>0))=dt m A p:=by rw[jh Q.len,<-jh (A:=A) P.len,rP (by lia)];rfl
 rw[e1,aC λk hk=>by rw[kX Q.len hk]];rfl
def fN.no(R:fN m N A b s r L):False:=by
 have pL:=R.pL;have⟨p,hp,hm⟩:=most s L pL;have hmax:∀t,s t<=s p:=λt=>by have:=R.NC (t%L) (t/L);rw[Nat.mul_comm,Nat.mod_add_div]at this;rw[this];exact hm _ (Sj _ pL)
 have⟨n,hn,en,fn⟩:=first (P:=λn=>r (p+1+n)=r p) (L-1) (by
  show r (p+1+(L-1))=r p;rw[show p+1+(L-1)=p+L by lia,R.pr])
 have Sp:=R.st p;have Bp:=R.bs p;have Bq:=R.bs (p+1+n);have Sq:=R.st (p+1+n);have lp:=Bp.len;have lq:=Bq.len;have hc:(b (p+1+n)).getD (r p) 0=s p:=by rw[R.keep (p+1) (r p) n fn,R.nx p,gs (by have:=Sp.rm;lia),if_pos rfl]
 have sN:s (p+1+n)≠s p:=λe=>by have:=rK (A:=A) Bq.len (i:=m) (k:=r p) (by lia) Sp.rm;rw[hc,<-e,if_neg (by have:=Sp.rm;lia)]at this;have:=Sq.neg;lia
 have sl:s (p+1+n)<s p:=by have:=hmax (p+1+n);lia
 have h:=two Bp Bq (s (p+1+n));have h1:=Int.mul_nonneg (Sm Bq.pos) (Sp.fst _ sl);have h2:=Int.mul_neg_of_neg_of_pos Sq.neg Bp.pos;have⟨k,hk,pk⟩:=JM (n:=m) (f:=λk=>T m A (b (p+1+n)) k (s (p+1+n))*T m A (b p) m ((b (p+1+n)).getD k 0)) (by lia);have nb:T m A (b p) m ((b (p+1+n)).getD k 0)≠0:=λz=>by rw[z,Qo]at pk;lia
 rcases R.row p k hk (1+n)with z|⟨u,hu,z,vP⟩;{rw[<-Ra]at z;rw[z]at nb;refine nb ?_;rw[rK (A:=A) Bp.len (by lia) hk,if_neg (by lia)]};rw[<-Ra]at z vP;have le:=hmax (p+u);rw[<-z]at le;by_cases c:(b (p+1+n)).getD k 0=s p;{have ek:=Bq.nd hk Sp.rm (c.trans hc.symm);subst ek;rw[c]at pk;have s1:=Sq.pos;rw[en]at s1;have:=Int.mul_neg_of_pos_of_neg s1 Sp.neg;lia};have a1:=Sp.fst _ (show(b (p+1+n)).getD k 0<s p by lia);have a2:0<T m A (b (p+1+n)) k (s (p+1+n)):=by refine Int.not_le.mp λy=>?_;have:=UB y a1;lia
 have:=Sq.Pf k hk a2 (by rw[R.vP,vP,Sn,Sn]);rw[en,hc]at this;lia
end
end
noncomputable def cd (N:Nat):VI->Nat
 |[]=>0
 |x::l=>x+N*cd N l
theorem GR{N:Nat}:∀l:VI,(∀x∈l,x<N)->cd N l<N^l.length
 |[],_=>by show 0<1;decide
 |x::l,h=>by have h1:=GR l λy hy=>h y (QB _ hy);have h2:=h x Q4;have h3:=Nat.mul_le_mul_left N (show cd N l+1<=N^l.length by lia);rw[QJ,Nat.pow_succ,Nat.mul_comm _ N];rw[Nat.mul_add]at h3;show x+N*cd N l<_;lia
theorem CP{N:Nat}:∀l k:VI,l.length=k.length->(∀x∈l,x<N)->(∀x∈k,x<N)->cd N l=cd N k->l=k
 |[],[],_,_,_,_=>rfl
 |x::l,y::k,e,h1,h2,h=>by
  have x1:=h1 x Q4;have y1:=h2 y Q4;have h:x+N*cd N l=y+N*cd N k:=h;have ex:x=y:=by have:=congrArg (·%N) h;rwa[Ue,Ue,UC x1,UC y1]at this
  subst ex;have:cd N l=cd N k:=Nat.eq_of_mul_eq_mul_left (show 0<N by lia) (by lia);rw[CP l k (by simpa using e) (λz hz=>h1 z (QB _ hz)) (λz hz=>h2 z (QB _ hz)) this]
theorem NY:∀(n:Nat)(f:Nat->Nat) (t:Nat),(∀u,u<t->f u<n)->n<t->∃i j,i<j/\j<t/\f i=f j
 |0,f,t,h,ht=>absurd (h 0 ht) (Rz _)
 |n+1,f,t+1,h,ht=>by
  by_cases c:∃i,i<t/\f i=f t;{obtain⟨i,hi,e⟩:=c;exact⟨i,t,hi,by lia,e⟩};have⟨i,j,hij,hj,e⟩:=NY n (λu=>if f u=n then f t else f u) t (λu hu=>by
   have h1:=h u (by lia)
   have h2:=h t (by lia)
   have h3:f u≠f t:=λe=>c ⟨u,hu,e⟩
   split<;>lia) (by lia)
  have n1:f i≠f t:=λe=>c ⟨i,by lia,e⟩;have n2:f j≠f t:=λe=>c ⟨j,by lia,e⟩;refine⟨i,j,hij,by lia,?_⟩;split at e<;>split at e<;>lia
section
variable{m N:Nat}{A:Nat->Vc}
inductive Run(m N:Nat)(A:Nat->Vc)(b0:VI) (t:Nat)(b:VI):Prop
 |mk (f s r:Nat->Nat->Nat)(g:Nat->VI)(e0:g 0=b0)(et:g t=b)(st:∀u,u<t->xX m N A (g u) (s u 0) (r u 0))(nx:∀u,u<t->g (u+1)=(g u).set (r u 0) (s u 0)):Run m N A b0 t b
def Run.zero(b0:VI):Run m N A b0 0 b0:=⟨λ_ _=>0,λ_ _=>0,λ_ _=>0,λ_=>b0,rfl,rfl,λu h=>by lia,λu h=>by lia⟩
def Run.snoc{t s r:Nat}(R:Run m N A b0 t b)(S:xX m N A b s r):Run m N A b0 (t+1) (b.set r s):=by obtain⟨_,s',r',g,e0,et,st,nx⟩:=R;refine⟨λ_ _=>0,λu _=>if u=t then s else s' u 0,λu _=>if u=t then r else r' u 0,λu=>if u=t+1 then b.set r s else g u,?_,?_,λu hu=>?_,λu hu=>?_⟩;{rw[if_neg (by lia)];exact e0};{rw[if_pos rfl]};{rw[if_neg (show ¬u=t+1 by lia)];by_cases c:u=t;{subst c;rw[if_pos rfl,if_pos rfl,et];exact S};rw[if_neg c,if_neg c];exact st u (by lia)};rw[if_neg (show ¬u=t+1 by lia)];by_cases c:u=t;{subst c;rw[if_pos rfl,if_pos rfl,if_pos rfl,et]};rw[if_neg c,if_neg c,if_neg (by lia)];exact nx u (by lia)
def Run.short{t:Nat}(R:Run m N A b0 t b)(B:Bs m N A b0):t<N^m/\Bs m N A b:=by
 obtain⟨_,s,r,g,e0,et,st,nx⟩:=R;have bs:∀u,u<=t->Bs m N A (g u):=λu=>by
  induction u with
  |zero=>intro _;rw[e0];exact B
  |succ u ih=>intro hu;rw[nx u (by lia)];exact(st u (by lia)).bs (ih (by lia))
 refine⟨Nat.not_le.mp λh=>?_,et▸bs t (Q7 _)⟩;have⟨i,j,hij,hj,e⟩:=NY (N^m) (λu=>cd N (g u)) (t+1) (λu hu=>by
  have b:=bs u (by lia)
  have:=GR (g u) b.lt;rwa[b.len]at this) (by lia)
 have bi:=bs i (by lia);have bj:=bs j (by lia);have eg:g i=g j:=CP _ _ (bi.len.trans bj.len.symm) bi.lt bj.lt e;have pL:0<j-i:=by lia
 have md:∀u,i+u%(j-i)<j:=λu=>by have:=Sj u pL;lia
 refine fN.no (m:=m) (N:=N) (A:=A) (b:=λu=>g (i+u%(j-i))) (s:=λu=>s (i+u%(j-i)) 0) (r:=λu=>r (i+u%(j-i)) 0) (L:=j-i) ⟨λu=>bs _ (by have:=md u;lia),λu=>st _ (by have:=md u;lia),λu=>?_,pL,λu=>?_,λu=>?_,λu=>?_⟩
 .rw[<-nx _ (by have:=md u;lia)];by_cases c:u%(j-i)+1<j-i
  .have:(u+1)%(j-i)=u%(j-i)+1:=by rw[Nat.add_mod,UC (show 1<j-i by lia),UC c]
   rw[this];rfl
  have h1:u%(j-i)+1=j-i:=by have:=Sj u pL;lia
  have:(u+1)%(j-i)=0:=by rw[<-Nat.mod_add_div u (j-i),Nat.add_right_comm,h1,Ue,Nat.mod_self]
  rw[this,show i+0=i from rfl,eg,show i+u%(j-i)+1=j by lia]
 all_goals rw[Nat.add_mod_right]
theorem yl:∀(post pre:List Vc),(∀c∈post,c 0=0)->ex D pre post=0
 |[],_,_=>rfl
 |c::post,pre,h=>by rw[ex,h c Q4,yl post _ λx hx=>h x (QB _ hx)];lia
theorem uW:∀n:Nat,det n ((List.range n).map un)=1
 |0=>rfl
 |n+1=>by
  rw[Ug,QT,QN,det,ex,yl _ _ λc hc=>by
   obtain⟨k,_,e⟩:=Q9.mp hc;rw[<-e];rfl]
  have:List.map sh ([]++List.map (un∘Nat.succ) (List.range n))=(List.range n).map un:=by
   rw[Rx,QN];refine Qq λk _=>funext λt=>?_;show(if t+1=k+1 then(1:Int)else 0)=if t=k then 1 else 0
   by_cases c:t=k;{rw[if_pos c,if_pos (by lia)]};rw[if_neg c,if_neg (by lia)]
  rw[this,uW n];rfl
def Ao{n:Nat}{v:Vc}{t:Nat}(h:t<n\/v t=0):v t=sm n λk=>v k*un k t:=by by_cases c:t<n;{rw[lO c λk _ z=>by rw[un,if_neg (Ne.symm z),Qo],un,if_pos rfl,Rr]};rw[dN λk hk=>by rw[un,if_neg (by lia),Qo]];exact h.resolve_left c
def vL{n k:Nat}(h:k<n):((List.range n).map un).getD k (λ_=>0)=un k:=by rw[QS,QF,QK h];rfl
def IS{n k:Nat}(hk:k<n)(h:∀t,n<=t->v t=0):det n (((List.range n).map un).set k v)=v k:=by
 have l:((List.range n).map un).length=n:=by rw[Q5,QC]
 have:=ny (B:=(List.range n).map un) (i:=k) (by lia) (n:=n) (cf:=v) (V:=un) (w:=v) (λt=>Ao (by
  by_cases c:t<n
  .exact .inl c
  .exact .inr (h t (by lia))))
 rw[l]at this;rw[this,lO hk λi hi z=>?_]
 .have e:((List.range n).map un).set k (un k)=(List.range n).map un:=by have:=rP (l:=(List.range n).map un) (k:=k) (by lia);rwa[vL hk]at this
  rw[e,uW,Rr]
 have:=qD (B:=((List.range n).map un).set k (un i)) (i:=k) (j:=i) (by rw[QX];lia) (by rw[QX];lia) (Ne.symm z) (by
  rw[Ro (by lia),RT (Ne.symm z),xj (by lia),vL hi])
 rw[QX,l]at this;rw[this,Qo]
structure Pb(m n:Nat)(A:Nat->Vc):Prop where
 out:∀j t,m<t->A j t=0
 bin:∀j t,j<n->t<m->A j t=0\/A j t=1
 nz:∀j,j<n->∃t,t<m/\A j t=1
 gl:∀j,j<n->A j m=-1
 un:∀k,k<m->A (n+k)=un k
 one:∀t,t<m->A (n+m) t=1
 top:A (n+m) m=0
variable{n:Nat}
def Pb.LD(P:Pb m n A):Bm m A ((List.range m).map (n+·))=(List.range (m+1)).map Lp.un:=by rw[Bm,RQ,QZ,QN];congr 1;exact Qq λk hk=>P.un k (QM.mp hk)
def Pb.t0(P:Pb m n A){k:Nat}(hk:k<m+1) (j:Nat):T m A ((List.range m).map (n+·)) k j=A j k:=by rw[T,P.LD,IS hk λt ht=>P.out j t (by lia)]
def Pb.d0(P:Pb m n A):dt m A ((List.range m).map (n+·))=1:=by rw[dt,P.LD,uW]
def Pb.Pz(P:Pb m n A):Bs m (n+m) A ((List.range m).map (n+·)):=by refine⟨by rw[Q5,QC],λc hc=>?_,by rw[P.d0];decide,λj t=>?_,λk hk=>?_⟩;{obtain⟨k,hk,e⟩:=Q9.mp hc;have:=QM.mp hk;lia};{rw[P.d0,Int.one_mul,P.LD,aC λk hk=>by rw[P.t0 hk,vL hk]];refine Ao ?_;by_cases c:t<m+1;{exact .inl c};exact .inr (P.out j t (by lia))};rw[P.t0 (by lia),P.one k hk];decide
variable{b:VI}
def Pb.Jf(P:Pb m n A)(B:Bs m (n+m) A b) (j:Nat):T m A b m j=sm m (λk=>A j k*T m A b m (n+k))+A j m*dt m A b:=by
 have l:=lC (A:=A) B.len;have:=ny (B:=Bm m A b) (i:=m) (by lia) (n:=m+1) (cf:=A j) (V:=Lp.un) (w:=A j) (λt=>Ao (by
  by_cases c:t<m+1
  .exact .inl c
  .exact .inr (P.out j t (by lia))))
 rw[l]at this;have e:T m A b m j=det (m+1) ((Bm m A b).set m (A j)):=rfl;rw[e,this,sm,<-jh (A:=A) B.len,rP (by lia)];congr 1;refine aC λk hk=>?_;rw[<-P.un k hk];rfl
def Pb.IX(P:Pb m n A)(B:Bs m (n+m) A b){j:Nat}(hj:j<n):T m A b m j=sm m (λk=>A j k*T m A b m (n+k))-dt m A b:=by rw[P.Jf B,P.gl j hj];lia
def Pb.O0(P:Pb m n A)(B:Bs m (n+m) A b):T m A b m (n+m)=sm m λk=>T m A b m (n+k):=by rw[P.Jf B,P.top,aC λk hk=>by rw[P.one k hk,Int.one_mul]];lia
def Pb.goal(P:Pb m n A)(B:Bs m (n+m) A b):T m A b m (n+m)=sm m λk=>if b.getD k 0<n then T m A b k (n+m)else 0:=by
 have h:=B.J (n+m) m;rw[P.top,Qo,sm,jh B.len,Lp.un,if_pos rfl,Rr,aC λk hk=>by rw[kX B.len hk]]at h;have e:(sm m λk=>T m A b k (n+m)*A (b.getD k 0) m)=- sm m λk=>if b.getD k 0<n then T m A b k (n+m)else 0:=by
  rw[show(- sm m λk=>if b.getD k 0<n then T m A b k (n+m)else 0)=(-1)*sm m λk=>if b.getD k 0<n then T m A b k (n+m)else 0 by lia,<-eE];refine aC λk hk=>?_;have hb:=B.lt (b.getD k 0) (by
   rw[QS,QO (by rw[B.len];exact hk)]
   exact TR _)
  by_cases c:b.getD k 0<n;{rw[if_pos c,P.gl _ c];lia};rw[if_neg c,show b.getD k 0=n+(b.getD k 0-n)by lia,P.un _ (by lia),Lp.un,if_neg (by lia)];lia
 lia
def Pb.place(P:Pb m n A)(B:Bs m (n+m) A b){t:Nat}(ht:t<m):(sm m λk=>if b.getD k 0<n then T m A b k (n+m)*A (b.getD k 0) t else 0)<=dt m A b:=by
 have h:=B.J (n+m) t;rw[P.one t ht,Rr,sm,jh B.len,Lp.un,if_neg (by lia),Qo,UA,aC λk hk=>by rw[kX B.len hk]]at h;rw[h];refine mz λk hk=>?_;have hb:=B.lt (b.getD k 0) (by
  rw[QS,QO (by rw[B.len];exact hk)]
  exact TR _)
 by_cases c:b.getD k 0<n;{rw[if_pos c];exact Sl _};rw[if_neg c,show b.getD k 0=n+(b.getD k 0-n)by lia,P.un _ (by lia),Lp.un];split;{rw[Rr];exact B.rhs k hk};rw[Qo];exact Sl _
def Pb.bound(P:Pb m n A)(B:Bs m (n+m) A b){s:Nat}(hs:s<n+m):∃k,k<m/\0<T m A b k s:=by
 refine SO λz=>?_;have⟨t,ht,e⟩:∃t,t<m/\A s t=1:=by by_cases c:s<n;{exact P.nz s c};exact⟨s-n,by lia,by rw[show A s=A (n+(s-n))by rw[show n+(s-n)=s by lia],P.un _ (by lia),Lp.un,if_pos rfl]⟩
 have h:=B.J s t;rw[e,Rr,sm,jh B.len,Lp.un,if_neg (by lia),Qo,UA,aC λk hk=>by rw[kX B.len hk]]at h;have le:(sm m λk=>T m A b k s*A (b.getD k 0) t)<=sm m λ_=>0:=mz λk hk=>by
  refine UB (Ry.mp λy=>z ⟨k,hk,y⟩) ?_;have hb:=B.lt (b.getD k 0) (by
   rw[QS,QO (by rw[B.len];exact hk)]
   exact TR _)
  by_cases c:b.getD k 0<n;{rcases P.bin _ t c ht with y|y<;>rw[y]<;>decide};rw[show b.getD k 0=n+(b.getD k 0-n)by lia,P.un _ (by lia),Lp.un];split<;>decide
 rw[dN (f:=λ_=>0) λ_ _=>rfl]at le;have:=B.pos;lia
noncomputable def xZ:Nat->Int
 |0=>1
 |n+1=>((n+1:Nat):Int)*xZ n
noncomputable def vM (c:Vc):Prop:=∀t,-1<=c t/\c t<=1
theorem GW{q:Int}:∀(post pre:List Vc),(∀l:List Vc,l.length+1=pre.length+post.length->(∀c∈l,vM c)->-q<=D l/\D l<=q)->(∀c∈pre,vM c)->(∀c∈post,vM c)->-((post.length:Int)*q)<=ex D pre post/\ex D pre post<=(post.length:Int)*q
 |[],_,_,_,_=>by rw[ex];simp
 |c::post,pre,hD,h1,h2=>by
  have r:=GW post (pre++[c]) (λl hl=>hD l (by simp only[QE,QJ,Qu]at hl⊢;lia)) (λx hx=>(QL.mp hx).elim (h1 x) λy=>Q8.mp y▸h2 c Q4) (λx hx=>h2 x (QB _ hx));have d:=hD ((pre++post).map sh) (by simp only[Q5,QE,QJ];lia) (λx hx=>by
   obtain⟨y,hy,e⟩:=Q9.mp hx;rw[<-e];exact λt=>((QL.mp hy).elim (h1 y) λz=>h2 y (QB _ z)) (t+1))
  have c0:=h2 c Q4 0;have e:c 0=-1\/c 0=0\/c 0=1:=by lia
  rw[ex,QJ,Int.natCast_add,Int.add_mul];rcases e with e|e|e<;>rw[e]<;>lia
theorem xg:∀(n:Nat)(cs:List Vc),cs.length=n->(∀c∈cs,vM c)->- xZ n<=det n cs/\det n cs<=xZ n
 |0,_,_,_=>by rw[det,xZ];decide
 |n+1,cs,h,hs=>by have:=GW (D:=det n) (q:=xZ n) cs [] (λl hl hc=>xg n l (by simp only[Qu]at hl;lia) hc) (λc hc=>by simp at hc) hs;rw[h]at this;exact this
end
end Lp
namespace PB
open PySem L2 Dv Gr
def D0{c:Prop} [i:Decidable c]{α:Type}{a b:Option α}{Q:α->Prop}(h:¬c)(p:aq b Q):aq (if c then a else b) Q:=by rw[if_neg h];exact p
noncomputable abbrev tH (F:Nat->Int) (c:Nat):PyData:=.list ((List.range c).map λj=>PyData.int (F j))
noncomputable abbrev tb (F:Nat->Nat->Int) (m c:Nat):PyData:=.list ((List.range m).map λk=>tH (F k) c)
noncomputable def mA (l:List dR) (m:Nat):Nat->Lp.Vc:=λj t=>if j<l.length then(if t<m then(if t∈(l.getD j (.inl 0,.inl 0,[])).2.2 then 1 else 0)else if t=m then-1 else 0)else if j<l.length+m then(if t=j-l.length then 1 else 0)else(if t<m then 1 else 0)
def oJ{α β:Type}{f:α->β}{d:α}:∀{l:List α},l.map f=(List.range l.length).map λj=>f (l.getD j d):=λ{l}=>by refine Qw λi=>?_;rw[QF,QF];by_cases h:i<l.length;{rw[QK h,QO h];show some (f l[i])=some (f (l.getD i d));rw[QS,QO h];rfl};rw[Qc (by lia),Qc (by rw[QC];lia)];rfl
def lF{α:Type}{f:Nat->α}{a b:Nat}:(List.range (a+b)).map f=(List.range a).map f++(List.range b).map λj=>f (a+j):=by rw[List.range_add,QZ,QN];rfl
def BA{l:List dR}{m i:Nat}(hi:i<m):(l.map λe=>PyData.int (if i∈e.2.2 then 1 else 0))++(List.range m).map (λj=>PyData.int (if i=j then 1 else 0))++[.int 1]=(List.range (l.length+m+1)).map λj=>PyData.int (mA l m j i):=by rw[lF,lF,oJ (d:=(.inl 0,.inl 0,[]))];congr 1;{congr 1;{refine Qq λj hj=>?_;have hj:=QM.mp hj;unfold mA;rw[if_pos hj,if_pos hi]};refine Qq λj hj=>?_;have hj:=QM.mp hj;unfold mA;rw[if_neg (show ¬l.length+j<l.length by lia),if_pos (show l.length+j<l.length+m by lia),Sf]};show _=[PyData.int (mA l m (l.length+m+0) i)];unfold mA;rw[if_neg (show ¬l.length+m+0<l.length by lia),if_neg (show ¬l.length+m+0<l.length+m by lia),if_pos hi]
def Ew{l:List dR}{m:Nat}:List.replicate l.length (PyData.int (-1))++List.replicate (m+1) (PyData.int 0)=(List.range (l.length+m+1)).map λj=>PyData.int (mA l m j m):=by rw[Ra,lF];congr 1;{refine Qw λj=>?_;rw[QF];by_cases h:j<l.length;{rw[QK h,Tf,if_pos h];show some _=some (PyData.int (mA l m j m));unfold mA;rw[if_pos h,if_neg (Qx m),if_pos rfl]};rw[Qc (by rw[RI];lia),Qc (by rw[QC];lia)];rfl};refine Qw λj=>?_;rw[QF];by_cases h:j<m+1;{rw[QK h,Tf,if_pos h];show some _=some (PyData.int (mA l m (l.length+j) m));unfold mA;rw[if_neg (show ¬l.length+j<l.length by lia)];by_cases c:l.length+j<l.length+m;{rw[if_pos c,if_neg (by lia)]};rw[if_neg c,if_neg (Qx m)]};rw[Qc (by rw[RI];lia),Qc (by rw[QC];lia)];rfl
noncomputable def As:bF:=λdd Q x=>∃(l:List dR) (m:Nat),dd=[.list (l.map p3),iD m]/\l.length<=100000/\m<=7/\Q [] (.ow false) (tb (λk j=>mA l m j k) (m+1) (l.length+m+1))
def Jl:∀dd Q x,As dd Q x->jY (br [false,false] Q x) (ini [false,false] dd++List.replicate 7 none):=by
 rintro _ Q x⟨l,m,rfl,hl,hm,q⟩;unfold jY;refine bO λB hB=>?_;rfl';refine⟨by decide,?_⟩;rw[hB];clear hB B;refine bO λB hB=>?_;rfl';rw[if_pos (by lia)];refine aM rfl ?_;refine qW (λi E=>Gx λ(o3 o4 o5:Option (Kd×PyData))=>GB (E=[some (.sh,.list (l.map p3)),some (.sh,iD m),some (.ow false,tb (λk j=>mA l m j k) i (l.length+m+1)),o3,o4,o5,none,none,none]) (b9 o3=true) (b9 o4=true) (b9 o5=true)) ⟨none,none,none,rfl,rfl,rfl,rfl⟩ ?_ ?_
 .rintro J i _ hi hJ⟨o3,o4,o5,rfl,z3,z4,z5⟩;simp![z3];refine ju (λe:dR=>PyData.int (if i∈e.2.2 then 1 else 0)) rfl (λe he I hI=>?_) ?_ (by lia)
  .rfl';refine⟨⟨by rw[QY];intro y _;rfl,rfl⟩,?_⟩;have em:(iD i∈e.2.2.map iD)=(i∈e.2.2):=propext ⟨λz=>by
    obtain⟨y,hy,ey⟩:=Q9.mp z;rw[<-L4.mp ey];exact hy,λz=>U9 z⟩
   by_cases c:i∈e.2.2;{rw[if_pos (by rw[em];exact c)];rw[if_pos c]at hI;exact hI _ rfl};rw[if_neg (by rw[em];exact c)];rw[if_neg c]at hI;exact hI _ rfl
  rfl';refine⟨z4,?_⟩;rw[if_pos (by lia)];refine aM rfl (ju (λj=>PyData.int (if i=j then 1 else 0)) rfl (λj hj I hI=>?_) ?_ (by rw[QC];lia));{rfl';by_cases c:i=j;{rw[if_pos c];rw[if_pos c]at hI;exact hI _ rfl};rw[if_neg c];rw[if_neg c]at hI;exact hI _ rfl};rfl';refine⟨z5,by lia,by decide,by rw[QE,Q5,Q5,QC];lia,by lia,hJ _ ⟨some (.sh,iD i),some (.ow false,.list (l.map λe=>PyData.int (if i∈e.2.2 then 1 else 0))),some (.ow false,.list ((List.range m).map λj=>PyData.int (if i=j then 1 else 0))),?_,rfl,rfl,rfl⟩⟩;rw[BA hi];show _=[_,_,some (Kd.ow false,PyData.list ((List.range (i+1)).map λk=>tH (λj=>mA l m j k) (l.length+m+1))),_,_,_,_,_,_];rw[RQ (n:=i),QZ];rfl
 rintro _⟨o3,o4,o5,rfl,z3,z4,z5⟩;show B _;rw[hB];clear hB B;rfl';have t1:((m:Int)+1).toNat=m+1:=by lia
 rw[t1,Um,Um,Ew];refine⟨by decide,⟨by lia,by lia,by lia⟩,by decide,⟨by lia,by lia,by lia⟩,by rw[RI,RI];lia,by decide,by lia,D0 (by rw[TU];decide) (aM rfl ?_)⟩;have e:tb (λk j=>mA l m j k) (m+1) (l.length+m+1)=.list (((List.range m).map λk=>tH (λj=>mA l m j k) (l.length+m+1))++[PyData.list ((List.range (l.length+m+1)).map λj=>PyData.int (mA l m j m))]):=by show PyData.list _=_;rw[RQ (n:=m),QZ];rfl
 rw[e]at q;exact q
noncomputable def Bd (F:Nat->Nat->Int):Prop:=∀k j,-100000<=F k j/\F k j<=100000
noncomputable def k8 (F:Nat->Nat->Int)(b:VI) (c s p q:Nat):Prop:=F p c*F q s<F q c*F p s\/(F p c*F q s=F q c*F p s/\b.getD p 0<b.getD q 0)
instance {F:Nat->Nat->Int}{b:VI}{c s p q:Nat}:Decidable (k8 F b c s p q):=inferInstanceAs (Decidable (_\/_))
def iu{f:Nat->PyData}{c:Nat}:cX ((List.range (c+1)).map f) (-1)=some (f c):=by
 have e:ko ((List.range (c+1)).map f).length (-1)=some c:=by rw[Q5,QC];unfold ko;rw[if_neg (by decide),if_pos (by lia)];exact congrArg some (by lia)
 unfold cX;rw[e];show((List.range (c+1)).map f)[c]?=_;rw[QF,QK (by lia)];rfl
noncomputable def Af:bF:=λdd Q x=>∃(F:Nat->Nat->Int)(b:VI) (m c s p q:Nat),dd=[tb F m (c+1),nD b,iD s,iD p,iD q]/\Bd F/\m<=b.length+1/\s<c/\p<b.length/\q<b.length/\p<m/\q<m/\Q [] .sh (.bool (decide (k8 F b c s p q)))
def K4:∀dd Q x,Af dd Q x->jB (br [false,false,false,false,false] Q x) (ini [false,false,false,false,false] dd++List.replicate 2 none):=by
 rintro _ Q x⟨F,b,m,c,s,p,q,rfl,bd,hb,hs,hpb,hqb,hp,hq,hQ⟩;unfold jB;refine bO λB hB=>?_;rfl';refine aM (QK hp) (aM iu (aM (QK hq) (aM (QK (show s<c+1 by lia)) ⟨.inl ⟨by have:=bd p c;lia,by have:=bd p c;lia⟩,?_⟩)));show B _;rw[hB];clear hB B;refine bO λB hB=>?_;rfl';refine aM (QK hq) (aM iu (aM (QK hp) (aM (QK (show s<c+1 by lia)) ⟨.inl ⟨by have:=bd q c;lia,by have:=bd q c;lia⟩,?_⟩)));show B _;rw[hB];clear hB B;rfl';have gp:b[p]?=some (b.getD p 0):=by rw[QS,QO hpb];rfl
 have gq:b[q]?=some (b.getD q 0):=by rw[QS,QO hqb];rfl
 by_cases c1:F p c*F q s<F q c*F p s;{rw[if_pos c1];rwa[Qp (show k8 F b c s p q from .inl c1)]at hQ};rw[if_neg c1];by_cases c2:F p c*F q s=F q c*F p s
 .rw[if_pos c2];refine aM gp (aM gq ?_);have e:decide (k8 F b c s p q)=decide (b.getD p 0<b.getD q 0):=by refine decide_eq_decide.mpr ⟨λh=>h.elim (λz=>absurd z c1) λz=>z.2,λh=>.inr ⟨c2,h⟩⟩
  rwa[e]at hQ
 rw[if_neg c2];rwa[Qm (show ¬k8 F b c s p q from λh=>h.elim c1 λz=>c2 z.1)]at hQ
def x9{F:Nat->Nat->Int}{c s p:Nat}:¬k8 F b c s p p:=λh=>h.elim (Int.lt_irrefl _) λz=>Qx _ z.2
def Bt{F:Nat->Nat->Int}{c s p q r:Nat}(hp:0<F p s)(hq:0<F q s)(hr:0<F r s)(h1:k8 F b c s p q)(h2:k8 F b c s q r):k8 F b c s p r:=by have w:∀{x y:Nat},k8 F b c s x y->F x c*F y s<=F y c*F x s:=λ{x y} h=>h.elim Sm λz=>RL z.1;have w1:=w h1;have w2:=w h2;have w3:=Lp.mw hq hr hp w1 w2;by_cases e:F p c*F r s=F r c*F p s;{have b1:=Lp.mw hr hp hq w2 (RL e.symm);have b2:=Lp.mw hp hq hr (RL e.symm) w1;rcases h1 with h1|h1;{lia};rcases h2 with h2|h2;{lia};exact .inr ⟨e,by lia⟩};exact .inl (Int.lt_iff_le_and_ne.mpr ⟨w3,e⟩)
noncomputable def zV:bF:=λdd Q x=>∃(F:Nat->Nat->Int)(b:VI) (m c s:Nat),dd=[tb F m (c+1),nD b,iD s]/\Bd F/\m=b.length+1/\m<=100/\s<c/\(∃k,k<b.length/\0<F k s)/\∀r,r<b.length->0<F r s->(∀k,k<b.length->0<F k s->¬k8 F b c s k r)->Q [] .sh (iD r)
noncomputable def PJ (F:Nat->Nat->Int)(b:VI) (c s i:Nat)(d:PyData):Prop:=(d=.none/\∀k,k<i->¬0<F k s)\/∃r,r<i/\d=iD r/\0<F r s/\∀k,k<i->0<F k s->¬k8 F b c s k r
def JD:∀dd Q x,zV dd Q x->mF Af (br [false,false,false] Q x) (ini [false,false,false] dd++List.replicate 2 none):=by rintro _ Q x⟨F,b,m,c,s,rfl,bd,hb,hm,hs,some1,hQ⟩;unfold mF;refine bO λB hB=>?_;rfl';rw[hB];clear hB B;refine bO λB hB=>?_;rfl';rw[if_pos (by lia)];refine aM rfl ?_;refine qW (λi E=>Dk λ(d:PyData)(o4:Option (Kd×PyData))=>DF (E=[some (.sh,tb F m (c+1)),some (.sh,nD b),some (.sh,iD s),some (.sh,d),o4]) (b9 o4=true) (PJ F b c s i d)) ⟨.none,none,rfl,rfl,.inl ⟨rfl,λk hk=>by lia⟩⟩ ?_ ?_;{rintro J i _ hi hJ⟨d,o4,rfl,z4,hd⟩;simp![z4];refine aM (QK (show i<m by lia)) (aM (QK (show s<c+1 by lia)) ?_);by_cases pi:0<F i s;{rw[if_pos pi];rcases hd with⟨rfl,h⟩|⟨r,hr,rfl,pr,h⟩;{rfl';refine hJ _ ⟨iD i,some (.sh,iD i),rfl,rfl,.inr ⟨i,TQ i,rfl,pi,λk hk pk z=>?_⟩⟩;by_cases e:k=i;{subst e;exact x9 z};exact h k (by lia) pk};rfl';refine⟨F,b,m,c,s,i,r,rfl,bd,by lia,hs,hi,by lia,by lia,by lia,?_⟩;rfl';by_cases t:k8 F b c s i r;{rw[if_pos t];refine hJ _ ⟨iD i,some (.sh,iD i),rfl,rfl,.inr ⟨i,TQ i,rfl,pi,λk hk pk z=>?_⟩⟩;by_cases e:k=i;{subst e;exact x9 z};exact h k (by lia) pk (Bt pk pi pr z t)};rw[if_neg t];refine hJ _ ⟨iD r,some (.sh,iD i),rfl,rfl,.inr ⟨r,by lia,rfl,pr,λk hk pk z=>?_⟩⟩;by_cases e:k=i;{subst e;exact t z};exact h k (by lia) pk z};rw[if_neg pi];refine hJ _ ⟨d,some (.sh,iD i),rfl,rfl,?_⟩;rcases hd with⟨rfl,h⟩|⟨r,hr,rfl,pr,h⟩;{refine .inl ⟨rfl,λk hk pk=>?_⟩;by_cases e:k=i;{subst e;exact pi pk};exact h k (by lia) pk};refine .inr ⟨r,by lia,rfl,pr,λk hk pk z=>?_⟩;by_cases e:k=i;{subst e;exact pi pk};exact h k (by lia) pk z};rintro _⟨d,o4,rfl,z4,hd⟩;show B _;rw[hB];clear hB B;rfl';rcases hd with⟨_,h⟩|⟨r,hr,rfl,pr,h⟩;{obtain⟨k,hk,pk⟩:=some1;exact absurd pk (h k hk)};exact hQ r hr pr h
noncomputable def tP (F:Nat->Nat->Int) (d:Int) (r s:Nat):Nat->Nat->Int:=λk j=>if k=r then F r j else(F k j*F r s-F k s*F r j)/d
def N9{m:Nat}:(List.range m).zipIdx=(List.range m).map λp=>(p,p):=by refine Qw λi=>?_;rw[Tw,QF];by_cases h:i<m;{rw[QK h];show some (i,0+i)=some (i,i);rw[Nat.zero_add]};rw[Qc (by rw[QC];lia)];rfl
def E9{l:VI}:l.zip l=l.map λp=>(p,p):=by rw[List.zip_eq_zipWith,List.zipWith_self]
def yV{F:Nat->Nat->Int}{m c:Nat}:tb F (m+1) c=.list (((List.range m).map λk=>tH (F k) c)++[tH (F m) c]):=by show PyData.list _=_;rw[RQ (n:=m),QZ];rfl
noncomputable def zF:bF:=λdd Q x=>∃(F:Nat->Nat->Int) (d:Int) (m c r s:Nat),dd=[tb F m (c+1),.int d,iD r,iD s]/\Bd F/\0<d/\d<=100000/\m<=100/\r<m/\s<c/\c<=200000/\Q [] (.ow false) (tb (tP F d r s) m (c+1))
def Jp:∀dd Q x,zF dd Q x->qg (br [false,false,false,false] Q x) (ini [false,false,false,false] dd++List.replicate 6 none):=by rintro _ Q x⟨F,d,m,c,r,s,rfl,bd,pd,hd,hm,hr,hs,hc,hQ⟩;unfold qg;refine bO λB hB=>?_;rfl';refine aM (QK hr) ?_;rfl';rw[hB];clear hB B;refine bO λB hB=>?_;rfl';refine⟨by decide,?_⟩;rw[hB];clear hB B;refine bO λB hB=>?_;rfl';rw[N9,QN];refine qW (λi E=>Dk λ(o6 o7:Option (Kd×PyData))=>DF (E=[some (.sh,tb F m (c+1)),some (.sh,.int d),some (.sh,iD r),some (.sh,iD s),some (.sh,tH (F r) (c+1)),some (.ow false,tb (tP F d r s) i (c+1)),o6,o7,none,none]) (b9 o6=true) (b9 o7=true)) ⟨none,none,rfl,rfl,rfl⟩ ?_ ?_;{rintro J i _ hi hJ⟨o6,o7,rfl,z6,z7⟩;simp![z6,z7,Function.comp];by_cases e:i=r;{rw[if_pos e];refine⟨by lia,hJ _ ⟨some (.sh,iD i),some (.sh,tH (F i) (c+1)),?_,rfl,rfl⟩⟩;rw[yV,show tP F d r s i=F r from funext λj=>if_pos e]};rw[if_neg e,E9,QN];refine ju (λj=>PyData.int (tP F d r s i j)) rfl (λj hj I hI=>?_) ?_ (by rw[QC];lia);{have hj:=QM.mp hj;simp![Function.comp];refine aM (QK (show s<c+1 by lia)) ?_;have b1:=bd r s;have b2:=bd i s;refine⟨.inr ⟨by lia,by lia⟩,aM (QK (show s<c+1 by lia)) ⟨.inl ⟨by lia,by lia⟩,⟨pd,by lia⟩,?_⟩⟩;have et:tP F d r s i j=(F i j*F r s-F i s*F r j)/d:=if_neg e;rw[et]at hI;exact hI _ rfl};rfl';refine⟨by lia,hJ _ ⟨some (.sh,iD i),some (.sh,tH (F i) (c+1)),?_,rfl,rfl⟩⟩;rw[yV]};rintro _⟨o6,o7,rfl,z6,z7⟩;show B _;rw[hB];clear hB B;rfl';exact hQ
def C7{m j:Nat}:Lp.vM (mA l m j):=λt=>by unfold mA;split;{split;{split<;>decide};split<;>decide};split;{split<;>decide};split<;>decide
def Lc{i:Nat}:Lp.vM (Lp.un i):=λt=>by unfold Lp.un;split<;>decide
def DJ:∀{m:Nat},m<=8->Lp.xZ m<=100000
 |0,_=>by decide
 |1,_=>by decide
 |2,_=>by decide
 |3,_=>by decide
 |4,_=>by decide
 |5,_=>by decide
 |6,_=>by decide
 |7,_=>by decide
 |8,_=>by decide
def Du{m:Nat}:∀c∈Lp.Bm m (mA l m) b,Lp.vM c:=λc hc=>by unfold Lp.Bm at hc;rcases QL.mp hc with h|h;{obtain⟨j,_,rfl⟩:=Q9.mp h;exact C7};rw[Q8.mp h];exact Lc
def Js{m:Nat}(hb:b.length=m)(hm:m<=7):Bd (Lp.T m (mA l m) b):=λk j=>by
 have h:=Lp.xg (m+1) ((Lp.Bm m (mA l m) b).set k (mA l m j)) (by rw[QX,Lp.lC hb]) λc hc=>by rcases List.mem_or_eq_of_mem_set hc with z|z;{exact Du c z};rw[z];exact C7
 have:=DJ (m:=m+1) (by lia);unfold Lp.T;lia
def KC{m:Nat}(hb:b.length=m)(hm:m<=7):Lp.dt m (mA l m) b<=100000:=by have h:=Lp.xg (m+1) (Lp.Bm m (mA l m) b) (Lp.lC hb) Du;have:=DJ (m:=m+1) (by lia);unfold Lp.dt;lia
noncomputable def Ju (m:Nat)(l:List dR):Prop:=∀e∈l,(∃t,t<m/\t∈e.2.2)
def qG{m:Nat}(h:Ju m l):Lp.Pb m l.length (mA l m):=by
 refine⟨λj t ht=>?_,λj t hj ht=>?_,λj hj=>?_,λj hj=>?_,λk hk=>funext λt=>?_,λt ht=>?_,?_⟩;{unfold mA;split;{rw[if_neg (by lia),if_neg (by lia)]};split;{rw[if_neg (by lia)]};rw[if_neg (by lia)]};{unfold mA;rw[if_pos hj,if_pos ht];split;{exact .inr rfl};exact .inl rfl}
 .have gj:l[j]?=some (l.getD j (.inl 0,.inl 0,[])):=by rw[QS,QO hj];rfl
  obtain⟨t,ht,mt⟩:=h _ (Qi gj);refine⟨t,ht,?_⟩;unfold mA;rw[if_pos hj,if_pos ht,if_pos mt]
 .unfold mA;rw[if_pos hj,if_neg (Qx m),if_pos rfl]
 .unfold mA Lp.un;rw[if_neg (show ¬l.length+k<l.length by lia),if_pos (show l.length+k<l.length+m by lia),Sf]
 .unfold mA;rw[if_neg (by lia),if_neg (by lia),if_pos ht]
 unfold mA;rw[if_neg (by lia),if_neg (by lia),if_neg (Qx m)]
def Nh{m s r:Nat}(H:Lp.Bs m (l.length+m) (mA l m) b)(hr:r<m):∀k j,k<m+1->tP (Lp.T m (mA l m) b) (Lp.dt m (mA l m) b) r s k j=Lp.T m (mA l m) (b.set r s) k j:=λk j hk=>by unfold tP;by_cases e:k=r;{rw[if_pos e,e];exact(Lp.oS H hr j).symm};rw[if_neg e];have h:=Lp.rG H hr (c:=s) hk e j;have p:=H.pos;rw[show Lp.T m (mA l m) b k j*Lp.T m (mA l m) b r s-Lp.T m (mA l m) b k s*Lp.T m (mA l m) b r j=Lp.dt m (mA l m) b*Lp.T m (mA l m) (b.set r s) k j by rw[h,Qs (Lp.T m (mA l m) b k j)]];exact Int.mul_ediv_cancel_left _ (by lia)
structure i9(l:List dR) (m:Nat)(b:VI):Prop where
 bs:Lp.Bs m (l.length+m) (mA l m) b
 nn:∀j,j<l.length+m->0<=Lp.T m (mA l m) b m j
noncomputable def zI:bF:=λdd Q x=>∃(l:List dR) (m:Nat),dd=[.list (l.map p3),iD m]/\l.length<=100000/\1<=m/\m<=7/\Ju m l/\∀b,i9 l m b->Q [] .sh (.tuple [.int (Lp.dt m (mA l m) b),nD b,tb (Lp.T m (mA l m) b) (m+1) (l.length+m+1)])
def qd{f:Nat->PyData}{c:Nat}:cutD ((List.range (c+1)).map f) none (some (-1))=(List.range c).map f:=by
 unfold cutD;have e1:HT.aF ((List.range (c+1)).map f).length ((List.range (c+1)).map f).length (some (-1))=c:=by rw[Q5,QC];show(if(-1:Int)<0 then((-1:Int)+((c+1:Nat):Int)).toNat else min (-1:Int).toNat (c+1))=c;rw[if_pos (by decide)];lia
 have e2:HT.aF ((List.range (c+1)).map f).length 0 none=0:=rfl;rw[e1,e2,TF,Tv,<-Sh,List.take_range,RY (by lia)]
def P0{F:Nat->Nat->Int}{m c:Nat}{k2:Kd}{o0 o1:Option (Kd×PyData)}{os:En}{x:XC}{f:En->Bool->Prop}(bd:Bd F)(pc:0<c)(hk:k2=.sh\/k2=.ow false)(G:∀t:Bool,(t=true->∃j,j<c/\F m j<0)->(t=false->∀j,j<c->0<=F m j)->f (o0::o1::some (.sh,tb F (m+1) (c+1))::os) t) : bI (aa oY [.ev (aa qN [.ev (aa (kg false true) [.ev (aa aK [.pk 2,.ev (aa fL [.ev (dC (.int 1))])]),.ev (aa fL [.ev (dC (.int 1))])])]),.ev (dC (.int 0))]) x (o0::o1::some (k2,tb F (m+1) (c+1))::os) f:=by
 have fin:∀{P:Kd->PyData->Prop},(∀M:Int,(∃j,j<c/\F m j=M)->(∀j,j<c->M<=F m j)->P .sh (.int M))->qN [.list ((List.range c).map λj=>.int (F m j))] P:=λ{P} h=>by
  have e:(List.range c).map (λj=>PyData.int (F m j))=((List.range c).map (F m)).map .int:=by rw[QN];rfl
  rw[e];refine⟨_,rfl,λz=>?_,λM h1 h2=>h M ?_ λj hj=>h2 _ (U9 (QM.mpr hj))⟩;{have:=congrArg List.length z;rw[Q5,QC]at this;exact absurd this (show c≠0 by lia)};obtain⟨j,hj,e⟩:=Q9.mp h1;exact⟨j,QM.mp hj,e⟩
 rcases hk with rfl|rfl
 .rfl';refine aM iu ?_;rfl';rw[qd];refine fin λM hM hall=>?_;rfl';by_cases c1:M<0
  .have g:=G true (λ_=>by
    obtain⟨j,hj,e⟩:=hM;exact⟨j,hj,by lia⟩) (λz=>by cases z)
   rw[<-Qp c1]at g;exact g
  have g:=G false (λz=>by cases z) (λ_ j hj=>by
   have:=hall j hj;lia)
  rw[<-Qm c1]at g;exact g
 rfl';refine aM iu (D0 QW (aM rfl ?_));rfl';rw[qd];refine fin λM hM hall=>?_;rfl';by_cases c1:M<0
 .have g:=G true (λ_=>by
   obtain⟨j,hj,e⟩:=hM;exact⟨j,hj,by lia⟩) (λz=>by cases z)
  rw[<-Qp c1]at g;exact g
 have g:=G false (λz=>by cases z) (λ_ j hj=>by
  have:=hall j hj;lia)
 rw[<-Qm c1]at g;exact g
def Cs{p:Nat->Bool}{c s:Nat}(hs:s<c)(ps:p s=true)(h:∀j,j<s->p j=false):∃r,(List.range c).filter p=s::r:=by
 refine⟨((List.range (c-s-1)).map λj=>s+(j+1)).filter p,?_⟩;have e:List.range c=List.range s++s::(List.range (c-s-1)).map λj=>s+(j+1):=by have:=lF (f:=id) (a:=s) (b:=c-s-1+1);rw[List.map_id,List.map_id,show s+(c-s-1+1)=c by lia,Ug,QT,QN]at this;exact this
 rw[e,List.filter_append,List.filter_eq_nil_iff.mpr λj hj=>by rw[h j (QM.mp hj)];decide,Rx,List.filter_cons_of_pos ps]
def J7:∀dd Q x,zI dd Q x->iX As zV zF (br [false,false] Q x) (ini [false,false] dd++List.replicate 7 none):=by
 rintro _ Q x⟨l,m,rfl,hl,m1,hm,P,q⟩;unfold iX;have pb:=qG P;refine bO λB hB=>?_;rfl';refine⟨l,m,rfl,hl,hm,?_⟩;rfl';rw[hB];clear hB B;refine bO λB hB=>?_;rfl';rw[if_pos (by lia)];refine aM rfl (ju (λj=>iD (l.length+j)) rfl (λj hj I hI=>?_) ?_ (by rw[QC];lia));{rfl';refine hI _ rfl};rfl';rw[hB];clear hB B;refine bO λB hB=>?_;rfl';rw[hB];clear hB B;refine bO λB hB=>?_;have b0e:PyData.list (List.map (λj=>iD (l.length+j)) (List.range m))=nD ((List.range m).map (l.length+·)):=by show _=PyData.list (((List.range m).map (l.length+·)).map iD);rw[QN];rfl
 have t0e:tb (λk j=>mA l m j k) (m+1) (l.length+m+1)=tb (Lp.T m (mA l m) ((List.range m).map (l.length+·))) (m+1) (l.length+m+1):=by refine congrArg PyData.list (Qq λk hk=>?_);refine congrArg PyData.list (Qq λj _=>?_);rw[pb.t0 (QM.mp hk)]
 rw[b0e,t0e];refine MV (λw E=>GK λ(b:VI) (t:Nat)(k2:Kd)(o5 o6:Option (Kd×PyData))=>N6 (Lp.Run m (l.length+m) (mA l m) ((List.range m).map (l.length+·)) t b) (w+t=(l.length+m)^m) ((k2=.sh\/k2=.ow false)) (b9 o5=true) (b9 o6=true) (E=[some (.sh,.list (l.map p3)),some (.sh,iD m),some (k2,tb (Lp.T m (mA l m) b) (m+1) (l.length+m+1)),some (.ow false,nD b),some (.sh,.int (Lp.dt m (mA l m) b)),o5,o6,none,none])) ⟨(l.length+m)^m,(List.range m).map (l.length+·),0,.ow false,none,none,.zero _,rfl,.inr rfl,rfl,rfl,by rw[pb.d0]⟩ ?_;rintro J w _ hJ⟨b,t,k2,o5,o6,R,hw,hk2,z5,z6,rfl⟩;obtain⟨tl,H⟩:=R.short pb.Pz;have bl:=H.len;have dp:=H.pos;have bd:=Js (l:=l) bl hm;have db:=KC (l:=l) bl hm;refine P0 bd (show 0<l.length+m by lia) hk2 λt h1 h2=>?_;rcases t with _|_;{rw[if_neg (by decide)];show B _;rw[hB];clear hB B;rfl';exact⟨by decide,q b ⟨H,h2 rfl⟩⟩};rw[if_pos rfl];obtain⟨s,_,⟨hs,ng⟩,fst⟩:=Lp.first (P:=λj=>j<l.length+m/\Lp.T m (mA l m) b m j<0) _ (h1 rfl).choose_spec;have fst':∀j,j<s->0<=Lp.T m (mA l m) b m j:=λj hj=>Ry.mp λz=>fst j hj ⟨by lia,z⟩;refine bO λB hB=>?_;rfl';refine aM iu ?_;rfl';rw[qd,qu,N9,QN];refine qX (λj=>if decide (Lp.T m (mA l m) b m j<0)=true then some (iD j)else none) rfl (λj hj I hI=>?_) ?_ (by rw[QC];lia);{simp![Function.comp];by_cases c1:Lp.T m (mA l m) b m j<0;{rw[if_pos c1];rw[if_pos (Qp c1)]at hI;exact hI _ rfl};rw[if_neg c1];rw[if_neg (by rw[Qm c1];decide)]at hI;exact hI _ rfl};obtain⟨rs,er⟩:=Cs (p:=λj=>decide (Lp.T m (mA l m) b m j<0)) hs (Qp ng) λj hj=>Qm (Ry.mpr (fst' j hj));rw[g8,er,QT];simp![z5];rw[hB];clear hB B;refine bO λB hB=>?_;rfl';refine⟨_,b,m+1,l.length+m,s,rfl,bd,by rw[bl],by lia,hs,?_,λr hr pr tr=>?_⟩;{rw[bl];exact pb.bound H hs};simp![z6];rw[bl]at hr tr;have S:Lp.xX m (l.length+m) (mA l m) b s r:=by refine⟨hs,ng,fst',hr,pr,λk hk pk=>?_,λk hk pk e=>?_⟩;{exact Ry.mp λz=>tr k hk pk (.inl z)};exact Nat.not_lt.mp λz=>tr k hk pk (.inr ⟨e.symm,z⟩)
 rw[hB];clear hB B;refine bO λB hB=>?_;rfl';refine⟨_,_,m+1,l.length+m,r,s,rfl,bd,dp,db,by lia,by lia,hs,by lia,?_⟩;have et:tb (tP (Lp.T m (mA l m) b) (Lp.dt m (mA l m) b) r s) (m+1) (l.length+m+1)=tb (Lp.T m (mA l m) (b.set r s)) (m+1) (l.length+m+1):=by refine congrArg PyData.list (Qq λk hk=>?_);refine congrArg PyData.list (Qq λj _=>?_);rw[Nh H hr k j (QM.mp hk)]
 rw[et];rfl';rw[hB];clear hB B;refine bO λB hB=>?_;rfl';refine aM (QK (show r<m+1 by lia)) (aM (QK (show s<l.length+m+1 by lia)) ?_);rw[hB,Lp.oS H hr,<-Lp.uK H hr];clear hB B;rfl';refine su (by lia) (hJ (w-1) _ (by lia) ⟨b.set r s,t+1,.sh,some (.sh,iD s),some (.sh,iD r),R.snoc S,by lia,.inl rfl,rfl,rfl,?_⟩);rw[show PyData.list ((List.map iD b).set r (iD s))=nD (b.set r s)from congrArg PyData.list List.map_set.symm]
end PB
local macro_rules | `(tactic| bv_omega) => do let ls ← (List.range 216).toArray.mapM fun k => `(Lean.Parser.Tactic.simpLemma| $(Lean.mkIdent (.str `Dv s!"rr{k}")):ident); `(tactic| dsimp only[$ls,*, Dv.dyr0, Dv.dyr1, Dv.dyr2, Dv.dyr3, Nat.reduceBEq, Dv.jm, Dv.jo, Dv.l5, Dv.lW, Dv.mExtT_c, Dv.gEqE_c, Dv.gAddU_c, Dv.iEz_c, Dv.tuK_c, Dv.setNt_c, Dv.dIdxE_c])
namespace PB
open PySem L2 Dv Gr
def yg:(bw T).length<=T.length*T.length:=by
 unfold bw;rw[List.length_flatMap];have h:∀(n:Nat),((List.range n).map λk=>((T.drop (k+1)).map λu=>(T.getD k (.inl 0),u)).length).sum<=n*T.length:=λn=>by
  induction n with
  |zero=>exact Qt _
  |succ n ih=>rw[RQ,QZ,TN,Nat.succ_mul];refine Nat.add_le_add ih ?_;simp
 exact h _
end PB
local macro_rules | `(tactic| bv_omega) => do let ls ← (List.range 216).toArray.mapM fun k => `(Lean.Parser.Tactic.simpLemma| $(Lean.mkIdent (.str `Dv s!"rr{k}")):ident); `(tactic| dsimp only[$ls,*, Dv.dyr0, Dv.dyr1, Dv.dyr2, Dv.dyr3, Nat.reduceBEq])
namespace PB
open PySem L2 Dv Gr
def pS{m p x:Nat}(cn:fE m es)(hp:p<m)(hx:x<m):aD es p x=0↔x=p:=by obtain⟨d,hd⟩:=cn p hp x hx;have h:=KR hd;refine⟨λz=>?_,λz=>?_⟩;{have h1:=h.1;rw[show dst (cE es) p x=0 from z]at h1;cases h1;rfl};subst z;exact rA ⟨.zero,λe he=>absurd he (Rz e)⟩
noncomputable def pe:Th->VI
 |.inl x=>[x]
 |.inr e=>[e.1,e.2]
def zm{m p:Nat}(cn:fE m es)(hp:p<m)(ht:TV m t):td es p t=0↔p∈pe t:=by
 cases t with
 |inl x=>show aD es p x=0↔p∈[x];rw[pS cn hp ht,Q8];exact⟨λh=>h.symm,λh=>h.symm⟩
 |inr e=>have h1:=pS cn hp ht.1;have h2:=pS cn hp ht.2;show min (aD es p e.1) (aD es p e.2)=0↔p∈[e.1,e.2];simp only[QG,R9,Rb];refine⟨λh=>?_,λh=>?_⟩;{by_cases c:aD es p e.1=0;{exact .inl (h1.mp c).symm};exact .inr (h2.mp (by lia)).symm};rcases h with h|h;{have:=h1.mpr h.symm;lia};have:=h2.mpr h.symm;lia
def sJ{m:Nat}(g:Good m es)(h:Sum.inr e∈aA k m es):e.1<e.2:=by rcases QL.mp h with h|h;{split at h;{cases h};obtain⟨_,_,z⟩:=Q9.mp h;cases z};split at h;{cases h};obtain⟨f,hf,z⟩:=Q9.mp h;cases z;exact(g.lt _ hf).1
def apart{k:Str}{m:Nat}{es:Uw}{t u:Th}(W:cC m es)(ht:t∈aA k m es)(hu:u∈aA k m es)(ne:t≠u):∃p,p<m/\p∈gS m es t u:=by
 refine SO λz=>ne ?_;have vt:=qk W.gd t ht;have vu:=qk W.gd u hu;have h:∀p,p<m->(p∈pe t↔p∈pe u):=λp hp=>by rw[<-zm W.cn hp vt,<-zm W.cn hp vu];have:td es p t=td es p u:=SO λy=>z ⟨p,hp,Sv.mpr ⟨QM.mpr hp,Qp y⟩⟩;rw[this]
 cases t with
 |inl x=>
  cases u with
  |inl y=>have:=(h x vt).mp (Q8.mpr rfl);rw[Q8.mp this]
  |inr f=>have l:=sJ W.gd hu;have a1:=(h f.1 vu.1).mpr (by simp[pe]);have a2:=(h f.2 vu.2).mpr (by simp[pe]);have a1:=Q8.mp a1;have a2:=Q8.mp a2;lia
 |inr e=>
  have le:=sJ W.gd ht;cases u with
  |inl y=>have a1:=(h e.1 vt.1).mp (by simp[pe]);have a2:=(h e.2 vt.2).mp (by simp[pe]);have a1:=Q8.mp a1;have a2:=Q8.mp a2;lia
  |inr f=>have lf:=sJ W.gd hu;have a1:=(h e.1 vt.1).mp (by simp[pe]);have a2:=(h e.2 vt.2).mp (by simp[pe]);simp only[pe,QG,R9,Rb]at a1 a2;exact congrArg Sum.inr (Prod.ext (by lia) (by lia))
def zd(h:e∈bw T):e.1∈T/\e.2∈T/\(T.Nodup->e.1≠e.2):=by
 obtain⟨i,hi,he⟩:=Qj.mp h;have hi:=QM.mp hi;obtain⟨u,hu,rfl⟩:=Q9.mp he;have gi:T[i]?=some (T.getD i (.inl 0)):=by rw[QS,QO hi];rfl
 refine⟨Qi gi,List.mem_of_mem_drop hu,λnd z=>?_⟩;obtain⟨j,hj⟩:=Rm hu;rw[List.getElem?_drop]at hj;have z:T.getD i (.inl 0)=u:=z;rw[<-z]at hj;have:=(Uh hi nd).mp (gi.trans hj.symm);lia
def IG{f:Nat->PyData}{n m:Nat}:cutD ((List.range (n+m+1)).map f) (some (n:Int)) (some (-1))=(List.range m).map λk=>f (n+k):=by
 unfold cutD;have ln:((List.range (n+m+1)).map f).length=n+m+1:=by rw[Q5,QC]
 have e1:HT.aF ((List.range (n+m+1)).map f).length ((List.range (n+m+1)).map f).length (some (-1))=n+m:=by rw[ln];show(if(-1:Int)<0 then((-1:Int)+((n+m+1:Nat):Int)).toNat else min (-1:Int).toNat (n+m+1))=n+m;rw[if_pos (by decide)];lia
 have e2:HT.aF ((List.range (n+m+1)).map f).length 0 (some (n:Int))=n:=by rw[HT.lK,ln];lia
 rw[e1,e2,Ra,lF,List.drop_left' (by rw[Q5,QC]),Sf,<-Sh,List.take_range,RY (by lia)]
def EN{b:VI}:b.zip (List.range (b.length+1))=(List.range b.length).map λi=>(b.getD i 0,i):=by refine Qw λi=>?_;rw[QF];by_cases h:i<b.length;{rw[QK h,(List.getElem?_zip_eq_some (z:=(b.getD i 0,i))).mpr ⟨by rw[QS,QO h];rfl,QK (by lia)⟩];rfl};rw[Qc (by rw[List.length_zip];lia),Qc (by rw[QC];lia)];rfl
noncomputable abbrev t3 (m:Nat)(es:Uw)(e:Th×Th):dR:=(e.1,e.2,gS m es e.1 e.2)
structure kC(m:Nat)(es:Uw) (k:Str)(l:List dR):Prop where
 sub:∀e∈l,∃f∈bw (aA k m es),e=t3 m es f
 all:∀f∈bw (aA k m es),∃e∈l,e.2.2=gS m es f.1 f.2
 few:l.length<=100000
def kC.prs{m:Nat}(R:kC m es k l)(W:cC m es):Ju m l:=λe he=>by obtain⟨f,hf,rfl⟩:=R.sub e he;obtain⟨h1,h2,h3⟩:=zd hf;exact apart W h1 h2 (h3 (jz W.gd))
noncomputable abbrev EA (l:List dR) (m:Nat)(b:VI) (i:Nat):PyData:=.tuple [gJ (l.getD (b.getD i 0) (.inl 0,.inl 0,[])).1,gJ (l.getD (b.getD i 0) (.inl 0,.inl 0,[])).2.1,.int (Lp.T m (mA l m) b i (l.length+m))]
noncomputable abbrev Oi (l:List dR) (m:Nat)(b:VI):PyData:=.tuple [.int (Lp.dt m (mA l m) b),.list ((List.range m).map λk=>.int (Lp.T m (mA l m) b m (l.length+k))),.list (((List.range m).filter λi=>decide (0<Lp.T m (mA l m) b i (l.length+m))&&decide (b.getD i 0<l.length)).map (EA l m b))]
noncomputable def zC:bF:=λdd Q x=>∃m es k,dd=[wD m es,.str k]/\cC m es/\m<=7/\∀(l:List dR)(b:VI),kC m es k l->i9 l m b->Q [] .sh (Oi l m b)
def Kr:∀dd Q x,zC dd Q x->kP Am AU zK zI (br [false,false] Q x) (ini [false,false] dd++List.replicate 10 none):=by
 rintro _ Q x⟨m,es,k,rfl,W,hm,q⟩;have gl:=pY W.gd;have m49:m*m<=49:=TZ hm hm;have few:es.length<=25:=by lia
 unfold kP;refine bO λB hB=>?_;rfl';refine⟨m,es,rfl,hm,?_⟩;rfl';rw[hB];clear hB B;refine bO λB hB=>?_;rfl';refine⟨m,es,k,rfl,W,by lia,?_⟩;rfl';have ep:(bw (aA k m es)).map (zo m es)=((bw (aA k m es)).map (t3 m es)).map p3:=by rw[QN];rfl
 rw[ep];have lT:(aA k m es).length<=32:=by
  unfold aA;rw[QE];have a:(if k="ties" then []else(List.range m).map Sum.inl:List Th).length<=7:=by split<;>simp;lia
  have b:(if k="places" then []else es.map Sum.inr:List Th).length<=25:=by split<;>simp;lia
  lia
 have l2:=TZ lT lT;have l3:(bw (aA k m es)).length<=1024:=Qd yg l2;refine⟨_,rfl,by rw[Q5];lia,λl lk hs ha=>?_⟩;rw[Q5]at lk;have R:kC m es k l:=⟨λe he=>by
  obtain⟨f,hf,z⟩:=Q9.mp (hs e he);exact⟨f,hf,z.symm⟩,λf hf=>ha _ (U9 hf),by lia⟩
 have P:=R.prs W;have lb:=R.few;clear hs ha ep;rfl';rw[hB];clear hB B;refine bO λB hB=>?_;rfl';refine⟨l,m,rfl,lb,W.pos,hm,P,λb O=>?_⟩;have q:=q l b R O;have H:=O.bs;have bl:=H.len;rfl';rw[hB];clear hB B;refine bO λB hB=>?_;rfl';refine aM iu ?_;rw[hB];clear hB B;refine bO λB hB=>?_;rfl';rw[IG];rw[hB];clear hB B;refine bO λB hB=>?_;rfl';have zb:b.zip (List.range (m+1))=(List.range m).map λi=>(b.getD i 0,i):=by have:=EN (b:=b);rwa[bl]at this
 rw[zb,QN];refine qX (λi=>if decide (b.getD i 0<l.length)=true then some (.tuple [iD (b.getD i 0),.int (Lp.T m (mA l m) b i (l.length+m))])else none) rfl (λi hi I hI=>?_) ?_ (by rw[QC];lia);{simp![Function.comp];by_cases c1:b.getD i 0<l.length;{rw[if_pos c1];rw[if_pos (Qp c1)]at hI;exact aM iu ⟨by decide,hI _ rfl⟩};rw[if_neg c1];rw[if_neg (by rw[Qm c1];decide)]at hI;exact hI _ rfl};rw[g8];rfl';rw[hB];clear hB B;refine bO λB hB=>?_;rfl';refine qX (λi=>if decide (0<Lp.T m (mA l m) b i (l.length+m))=true then some (EA l m b i)else none) rfl (λi hi I hI=>?_) ?_ (by have:=List.length_filter_le (λi=>decide (b.getD i 0<l.length)) (List.range m);rw[QC]at this;lia)
 .have hi:=Sv.mp hi;have h1:=QM.mp hi.1;have h2:=RK hi.2;rfl';have gb:l[b.getD i 0]?=some (l.getD (b.getD i 0) (.inl 0,.inl 0,[])):=by rw[QS (l:=l),QO h2];rfl
  by_cases c1:0<Lp.T m (mA l m) b i (l.length+m);{rw[if_pos c1];rw[if_pos (Qp c1)]at hI;exact aM gb (aM gb ⟨by decide,hI _ rfl⟩)};rw[if_neg c1];rw[if_neg (by rw[Qm c1];decide)]at hI;exact hI _ rfl
 rw[g8,List.filter_filter];rfl';rw[hB];clear hB B;rfl';exact⟨by decide,q⟩
noncomputable abbrev zD (ns:VJ):PyData:=.list (ns.map .int)
noncomputable def Km (m:Nat)(es:Uw)(ns:VJ)(e:Th×Th):Int:=Lp.sm m λp=>if p∈gS m es e.1 e.2 then ns.getD p 0 else 0
theorem sU{f:Nat->Int}{p:Nat->Bool}:∀m:Nat,(((List.range m).filter p).map f).sum=Lp.sm m λk=>if p k=true then f k else 0
 |0=>rfl
 |m+1=>by rw[RQ,List.filter_append,QZ,TN,sU m,Lp.sm];congr 1;by_cases c:p m=true;{rw[List.filter_cons_of_pos c,if_pos c];show f m+0=f m;lia};rw[List.filter_cons_of_neg c,if_neg c];rfl
noncomputable def J6 (m:Nat)(es:Uw)(L:List (Th×Th))(ns:VJ) (n p:Nat):Int:=Lp.sm n λk=>if p∈gS m es (L.getD k (.inl 0,.inl 0)).1 (L.getD k (.inl 0,.inl 0)).2 then ns.getD k 0 else 0
noncomputable abbrev fm:dR:=(.inl 0,.inl 0,[])
noncomputable abbrev dH:Th×Th:=(.inl 0,.inl 0)
noncomputable def shr (l:List dR) (m:Nat)(b:VI) (p:Nat):Int:=Lp.T m (mA l m) b m (l.length+p)
noncomputable def gE (l:List dR) (m:Nat)(b:VI) (i:Nat):Int:=if b.getD i 0<l.length then Lp.T m (mA l m) b i (l.length+m)else 0
section
variable{m:Nat}{es:Uw}{k:Str}{l:List dR}{b:VI}
def j6{α:Type}{l:List α}{d:α}{j:Nat}(h:j<l.length):l[j]?=some (l.getD j d):=by rw[QS,QO h];rfl
def qQ{α:Type}{l:List α}{d:α}{j:Nat}(h:j<l.length):l.getD j d∈l:=Qi (j6 h)
def Gd{j p:Nat}(hj:j<l.length)(hp:p<m):mA l m j p=if p∈(l.getD j fm).2.2 then 1 else 0:=by unfold mA;rw[if_pos hj,if_pos hp]
def Jv(O:i9 l m b){p:Nat}(hp:p<m):0<=shr l m b p:=O.nn _ (by lia)
def Lu(O:i9 l m b){i:Nat}(hi:i<m):0<=gE l m b i:=by unfold gE;split;{exact O.bs.rhs i hi};exact Sl 0
def yF(W:cC m es)(R:kC m es k l)(O:i9 l m b):Lp.T m (mA l m) b m (l.length+m)=Lp.sm m (shr l m b):=(qG (R.prs W)).O0 O.bs
def oU(W:cC m es)(R:kC m es k l)(O:i9 l m b):Lp.T m (mA l m) b m (l.length+m)=Lp.sm m (gE l m b):=(qG (R.prs W)).goal O.bs
def vj(W:cC m es)(R:kC m es k l)(O:i9 l m b){f:Th×Th}(hf:f∈bw (aA k m es)):Lp.dt m (mA l m) b<=Lp.sm m λp=>if p∈gS m es f.1 f.2 then shr l m b p else 0:=by
 obtain⟨e,he,ee⟩:=R.all f hf;obtain⟨j,hj⟩:=Rm he;have lj:=cB hj;have gj:l.getD j fm=e:=Option.some.inj ((j6 lj).symm.trans hj);have h:=(qG (R.prs W)).IX O.bs lj;have n:=O.nn j (by lia);have e2:(Lp.sm m λp=>mA l m j p*Lp.T m (mA l m) b m (l.length+p))=Lp.sm m λp=>if p∈gS m es f.1 f.2 then shr l m b p else 0:=Lp.aC λp hp=>by rw[Gd lj hp,gj,ee];split;{rw[Int.one_mul];rfl};rw[Sn]
 rw[e2]at h;lia
def uu(W:cC m es)(R:kC m es k l)(O:i9 l m b){p:Nat}(hp:p<m):(Lp.sm m λi=>if p∈(l.getD (b.getD i 0) fm).2.2 then gE l m b i else 0)<=Lp.dt m (mA l m) b:=by
 have h:=(qG (R.prs W)).place O.bs hp;have e:(Lp.sm m λi=>if b.getD i 0<l.length then Lp.T m (mA l m) b i (l.length+m)*mA l m (b.getD i 0) p else 0)=Lp.sm m λi=>if p∈(l.getD (b.getD i 0) fm).2.2 then gE l m b i else 0:=Lp.aC λi hi=>by unfold gE;by_cases c:b.getD i 0<l.length;{rw[if_pos c,if_pos c,Gd c hp];split;{rw[Rr]};rw[Qo]};rw[if_neg c,if_neg c];split<;>rfl
 rw[e]at h;exact h
def mV(R:kC m es k l){i:Nat}(h:b.getD i 0<l.length):∃f∈bw (aA k m es),l.getD (b.getD i 0) fm=t3 m es f:=R.sub _ (qQ h)
def vq{n:Nat}{f:Nat->Int}{c:Int}:(Lp.sm n λk=>f k*c)=Lp.sm n f*c:=by rw[Qs,<-Lp.eE];exact Lp.aC λk _=>Qs _ _
def Eb(W:cC m es)(R:kC m es k l)(O:i9 l m b){y:Nat->Int}{M:Int}(hy:∀p,p<m->0<=y p)(hM:∀f∈bw (aA k m es),M<=Lp.sm m λp=>if p∈gS m es f.1 f.2 then y p else 0):M*Lp.T m (mA l m) b m (l.length+m)<=Lp.sm m y*Lp.dt m (mA l m) b:=by
 have h1:M*Lp.T m (mA l m) b m (l.length+m)<=Lp.sm m λi=>Lp.sm m λp=>if p∈(l.getD (b.getD i 0) fm).2.2 then gE l m b i*y p else 0:=by
  rw[oU W R O,<-Lp.eE];refine Lp.mz λi hi=>?_;by_cases c:b.getD i 0<l.length
  .obtain⟨f,hf,e⟩:=mV (m:=m) (es:=es) R c;have h2:=UD (hM f hf) (Lu O hi);rw[Qs M];refine RG h2 (RL ?_);rw[<-Lp.eE];refine Lp.aC λp _=>?_;rw[e];show _=if p∈gS m es f.1 f.2 then gE l m b i*y p else 0
   split;{rfl};exact Qo _
  have z:gE l m b i=0:=if_neg c;rw[z,Qo,Lp.dN λp _=>by
   split
   .exact Sn _
   .rfl]
  exact Sl 0
 refine RG h1 ?_;rw[Lp.oQ,<-vq];refine Lp.mz λp hp=>?_;have h3:=UD (uu W R O hp) (hy p hp);refine RG (RL ?_) h3;rw[<-Lp.eE];refine Lp.aC λi _=>?_;split;{exact Qs _ _};exact(Qo _).symm
def Ka(W:cC m es)(R:kC m es k l)(O:i9 l m b){x:Nat->Int}{M:Int}{L:List (Th×Th)}(hL:∀f∈L,f∈bw (aA k m es))(hx:∀j,j<L.length->0<=x j)(hM:∀p,p<m->(Lp.sm L.length λj=>if p∈gS m es (L.getD j dH).1 (L.getD j dH).2 then x j else 0)<=M):Lp.sm L.length x*Lp.dt m (mA l m) b<=M*Lp.T m (mA l m) b m (l.length+m):=by
 rw[<-vq,yF W R O,<-Lp.eE];have h1:(Lp.sm L.length λj=>x j*Lp.dt m (mA l m) b)<=Lp.sm L.length λj=>Lp.sm m λp=>if p∈gS m es (L.getD j dH).1 (L.getD j dH).2 then shr l m b p*x j else 0:=Lp.mz λj hj=>by have h2:=UD (vj W R O (hL _ (qQ (d:=dH) hj))) (hx j hj);refine RG h2 (RL ?_);rw[<-Lp.eE];refine Lp.aC λp _=>?_;split;{exact Qs _ _};exact Qo _
 refine RG h1 ?_;rw[Lp.oQ];refine Lp.mz λp hp=>?_;have h3:=UD (hM p hp) (Jv O hp);rw[Qs M];refine RG (RL ?_) h3;rw[<-Lp.eE];refine Lp.aC λj _=>?_;split;{rfl};exact(Qo _).symm
def C8{T:List Th}(nd:T.Nodup):(bw T).Nodup:=by unfold bw;refine List.pairwise_flatMap.mpr ⟨λi hi=>?_,?_⟩;{exact UI.mpr ((nd.sublist (List.drop_sublist _ _)).imp λh z=>h (Prod.mk.inj z).2)};refine List.pairwise_lt_range.imp_of_mem λ{i j} hi hj hij x hx y hy z=>?_;obtain⟨u,_,rfl⟩:=Q9.mp hx;obtain⟨v,_,rfl⟩:=Q9.mp hy;have e:=(Prod.mk.inj z).1;have hi:=QM.mp hi;have hj:=QM.mp hj;have g1:=j6 (d:=Sum.inl 0) hi;have g2:=j6 (d:=Sum.inl 0) hj;rw[e]at g1;have:=(Uh hi nd).mp (g1.trans g2.symm);lia
def vd{L:List (Th×Th)}{x:Th×Th}{c:Int}(nd:L.Nodup)(hx:x∈L):(Lp.sm L.length λj=>if L.getD j dH=x then c else 0)=c:=by obtain⟨i,hi⟩:=Rm hx;have li:=cB hi;have gi:L.getD i dH=x:=Option.some.inj ((j6 li).symm.trans hi);rw[Lp.lO li λj hj ne=>if_neg λz=>ne ?_,if_pos gi];exact(Uh hj nd).mp ((j6 (d:=dH) hj).trans (by rw[z,hi]))
noncomputable def yX (l:List dR) (m:Nat)(b:VI)(x:Th×Th):Int:=Lp.sm m λi=>if x=((l.getD (b.getD i 0) fm).1,(l.getD (b.getD i 0) fm).2.1)then gE l m b i else 0
def Hz(W:cC m es)(R:kC m es k l)(O:i9 l m b):(Lp.sm (bw (aA k m es)).length λj=>yX l m b ((bw (aA k m es)).getD j dH))=Lp.T m (mA l m) b m (l.length+m):=by unfold yX;rw[Lp.oQ,oU W R O];refine Lp.aC λi _=>?_;by_cases c:b.getD i 0<l.length;{obtain⟨f,hf,e⟩:=mV (m:=m) (es:=es) R c;rw[e];exact vd (C8 (jz W.gd)) hf};have z:gE l m b i=0:=if_neg c;rw[z];exact Lp.dN λj _=>by split<;>rfl
def BR(W:cC m es)(R:kC m es k l)(O:i9 l m b){p:Nat}(hp:p<m):(Lp.sm (bw (aA k m es)).length λj=>if p∈gS m es ((bw (aA k m es)).getD j dH).1 ((bw (aA k m es)).getD j dH).2 then yX l m b ((bw (aA k m es)).getD j dH)else 0)<=Lp.dt m (mA l m) b:=by
 refine RG (RL ?_) (uu W R O hp);have e1:(Lp.sm (bw (aA k m es)).length λj=>if p∈gS m es ((bw (aA k m es)).getD j dH).1 ((bw (aA k m es)).getD j dH).2 then yX l m b ((bw (aA k m es)).getD j dH)else 0)=Lp.sm (bw (aA k m es)).length λj=>Lp.sm m λi=>if(bw (aA k m es)).getD j dH=((l.getD (b.getD i 0) fm).1,(l.getD (b.getD i 0) fm).2.1)then(if p∈(l.getD (b.getD i 0) fm).2.2 then gE l m b i else 0)else 0:=Lp.aC λj hj=>by
  have key:∀i,i<m->(if p∈gS m es ((bw (aA k m es)).getD j dH).1 ((bw (aA k m es)).getD j dH).2 then(if(bw (aA k m es)).getD j dH=((l.getD (b.getD i 0) fm).1,(l.getD (b.getD i 0) fm).2.1)then gE l m b i else 0)else 0)=if(bw (aA k m es)).getD j dH=((l.getD (b.getD i 0) fm).1,(l.getD (b.getD i 0) fm).2.1)then(if p∈(l.getD (b.getD i 0) fm).2.2 then gE l m b i else 0)else 0:=λi _=>by by_cases c:b.getD i 0<l.length;{obtain⟨f,hf,e⟩:=mV (m:=m) (es:=es) R c;rw[e];by_cases c2:(bw (aA k m es)).getD j dH=f;{rw[c2,if_pos rfl,if_pos rfl]};rw[if_neg c2,if_neg c2];split<;>rfl};have z:gE l m b i=0:=if_neg c;rw[z];split<;>split<;>(try split)<;>rfl
  rw[<-Lp.aC key];split;{rfl};exact(Lp.dN λ_ _=>rfl).symm
 rw[e1,Lp.oQ];refine Lp.aC λi _=>?_;by_cases c:b.getD i 0<l.length;{obtain⟨f,hf,e⟩:=mV (m:=m) (es:=es) R c;rw[e];exact vd (C8 (jz W.gd)) hf};have z:gE l m b i=0:=if_neg c;rw[z,ite_self];exact Lp.dN λj _=>by split<;>rfl
end
noncomputable abbrev vY:=(Th×Th)×Int
noncomputable def Gf (rl:List vY)(x:Th×Th):Int:=((rl.filter λr=>decide (r.1=x)).map (·.2)).sum
structure Cg(m:Nat)(es:Uw)(L:List (Th×Th)) (d S:Int)(sh:VJ)(rl:List vY):Prop where
 len:sh.length=m
 sum:sh.sum=S
 d0:0<d
 d1:d<=100000
 s0:-100000<=S
 s1:S<=100000
 few:L.length<=1024
 rows:rl.length<=7
 Eb:∀ys:VJ,ys.length=m->(∀y∈ys,0<=y)->∀M:Int,(∀f∈L,M<=Km m es ys f)->M*S<=ys.sum*d
 prim:∀xs:VJ,xs.length=L.length->(∀x∈xs,0<=x)->∀M:Int,(∀p,p<m->J6 m es L xs L.length p<=M)->xs.sum*d<=M*S
 least:∀f∈L,d<=Km m es sh f
 told:∀p,p<m->J6 m es L (L.map (Gf rl)) L.length p<=d
 P8:(L.map (Gf rl)).sum=S
 vB:(rl.map (·.2)).sum=S
 nil:L=[]->S=0/\rl=[]
theorem eo{f:Nat->Int}:∀m:Nat,((List.range m).map f).sum=Lp.sm m f
 |0=>rfl
 |m+1=>by rw[RQ,QZ,TN,eo m,Lp.sm];congr 1;show f m+0=f m;lia
def wL{ys:VJ}:ys.sum=Lp.sm ys.length λp=>ys.getD p 0:=by
 have h:ys=(List.range ys.length).map λp=>ys.getD p 0:=by have:=oJ (f:=id) (d:=(0:Int)) (l:=ys);rwa[List.map_id]at this
 have:=eo (f:=λp=>ys.getD p 0) ys.length;rw[<-h]at this;exact this
section
variable{m:Nat}{es:Uw}{k:Str}{l:List dR}{b:VI}
noncomputable def rls (l:List dR) (m:Nat)(b:VI):List vY:=((List.range m).filter λi=>decide (0<Lp.T m (mA l m) b i (l.length+m))&&decide (b.getD i 0<l.length)).map λi=>(((l.getD (b.getD i 0) fm).1,(l.getD (b.getD i 0) fm).2.1),Lp.T m (mA l m) b i (l.length+m))
def CL(O:i9 l m b){i:Nat}(hi:i<m):(if(decide (0<Lp.T m (mA l m) b i (l.length+m))&&decide (b.getD i 0<l.length))=true then Lp.T m (mA l m) b i (l.length+m)else 0)=gE l m b i:=by have h:=O.bs.rhs i hi;unfold gE;by_cases c:b.getD i 0<l.length;{by_cases c2:0<Lp.T m (mA l m) b i (l.length+m);{rw[if_pos (by rw[Qp c,Qp c2];rfl),if_pos c]};rw[if_neg (by rw[Qm c2,Bool.false_and];decide),if_pos c];lia};rw[if_neg (by rw[Qm c,TU];decide),if_neg c]
def HW(O:i9 l m b):((rls l m b).map (·.2)).sum=Lp.sm m (gE l m b):=by unfold rls;rw[QN];have:=sU (f:=λi=>Lp.T m (mA l m) b i (l.length+m)) (p:=λi=>decide (0<Lp.T m (mA l m) b i (l.length+m))&&decide (b.getD i 0<l.length)) m;refine Eq.trans this (Lp.aC λi hi=>CL O hi)
def yc(O:i9 l m b)(x:Th×Th):Gf (rls l m b) x=yX l m b x:=by unfold Gf rls yX;rw[List.filter_map,QN,List.filter_filter];have:=sU (f:=λi=>Lp.T m (mA l m) b i (l.length+m)) (p:=λi=>(decide (((l.getD (b.getD i 0) fm).1,(l.getD (b.getD i 0) fm).2.1)=x))&&(decide (0<Lp.T m (mA l m) b i (l.length+m))&&decide (b.getD i 0<l.length))) m;refine Eq.trans this (Lp.aC λi hi=>?_);by_cases c:((l.getD (b.getD i 0) fm).1,(l.getD (b.getD i 0) fm).2.1)=x;{rw[Qp c,Bool.true_and,CL O hi,if_pos c.symm]};rw[Qm c,Bool.false_and,if_neg (by decide),if_neg (Ne.symm c)]
def CS(W:cC m es)(hm:m<=7)(R:kC m es k l)(O:i9 l m b):Cg m es (bw (aA k m es)) (Lp.dt m (mA l m) b) (Lp.T m (mA l m) b m (l.length+m)) ((List.range m).map (shr l m b)) (rls l m b):=by
 have tb:=Js (l:=l) O.bs.len hm m (l.length+m);have gl:=pY W.gd;have m49:m*m<=49:=TZ hm hm;have lT:(aA k m es).length<=32:=by
  unfold aA;rw[QE];have a:(if k="ties" then []else(List.range m).map Sum.inl:List Th).length<=7:=by split<;>simp;lia
  have b:(if k="places" then []else es.map Sum.inr:List Th).length<=25:=by split<;>simp;lia
  lia
 have l2:=TZ lT lT;have gm:∀{j:Nat}{f:Th×Th->Int},j<(bw (aA k m es)).length->((bw (aA k m es)).map f).getD j 0=f ((bw (aA k m es)).getD j dH):=λ{j f} hj=>by rw[QS,QF,j6 (d:=dH) hj];rfl
 refine⟨by rw[Q5,QC],by rw[eo,yF W R O],O.bs.pos,KC O.bs.len hm,tb.1,tb.2,Qd yg l2,?_,λys hl hy M hM=>?_,λxs hl hx M hM=>?_,λf hf=>?_,λp hp=>?_,?_,?_,λe=>?_⟩;{unfold rls;rw[Q5];refine Qd (List.length_filter_le _ _) ?_;rw[QC];exact hm};{have:=Eb W R O (y:=λp=>ys.getD p 0) (M:=M) (λp hp=>hy _ (qQ (by lia))) hM;rwa[<-hl,<-wL,hl]at this};{have:=Ka W R O (x:=λj=>xs.getD j 0) (M:=M) (L:=bw (aA k m es)) (λf hf=>hf) (λj hj=>hx _ (qQ (by lia))) hM;rw[wL,hl];exact this}
 .refine RG (vj W R O hf) (RL (Lp.aC λp hp=>?_));have e:((List.range m).map (shr l m b)).getD p 0=shr l m b p:=by rw[QS,QF,QK hp];rfl
  rw[e]
 .refine RG (RL (Lp.aC λj hj=>?_)) (BR W R O hp);rw[gm hj,yc O]
 .rw[wL,Q5];refine Eq.trans (Lp.aC λj hj=>?_) (Hz W R O);rw[gm hj,yc O]
 .rw[HW O,oU W R O]
 have nl:l.length=0:=by rcases l with _|⟨a,l⟩;{rfl};obtain⟨f,hf,_⟩:=R.sub a Q4;rw[e]at hf;cases hf
 refine⟨?_,?_⟩;{rw[oU W R O];exact Lp.dN λi _=>if_neg (by lia)};unfold rls;rw[List.filter_eq_nil_iff.mpr λi _=>by rw[Qm (show ¬b.getD i 0<l.length by lia),TU];decide];rfl
end
def vB{l k:VJ}(h:l.Perm k):l.sum=k.sum:=by
 induction h with
 |nil=>rfl
 |cons a _ ih=>rw[RM,RM,ih]
 |swap a b l=>rw[RM,RM,RM,RM];lia
 |trans _ _ h1 h2=>exact h1.trans h2
theorem qy{α:Type}{f g:α->Int}:∀l:List α,(l.map λt=>f t+g t).sum=(l.map f).sum+(l.map g).sum
 |[]=>rfl
 |a::l=>by rw[QT,QT,QT,RM,RM,RM,qy l];lia
def Ej:bw (a::T)=(T.map λu=>(a,u))++bw T:=by unfold bw;rw[QJ,Ug,Ud,List.flatMap_map];rfl
theorem xU{W:Th->Th->Int}:∀T:List Th,((bw T).map λf=>W f.1 f.2+W f.2 f.1).sum+(T.map λt=>W t t).sum=(T.map λt=>(T.map (W t)).sum).sum
 |[]=>rfl
 |a::T=>by
  have h:=xU (W:=W) T;have e1:((T.map λu=>(a,u)).map λf=>W f.1 f.2+W f.2 f.1).sum=(T.map (W a)).sum+(T.map λt=>W t a).sum:=by rw[QN];exact qy (f:=W a) (g:=λt=>W t a) T
  have e2:(T.map λt=>((a::T).map (W t)).sum).sum=(T.map λt=>W t a).sum+(T.map λt=>(T.map (W t)).sum).sum:=qy (f:=λt=>W t a) (g:=λt=>(T.map (W t)).sum) T;rw[Ej,QZ,TN,e1,QT,RM,QT,RM,e2,QT,RM];lia
theorem jT{f:Nat->Nat}:∀n:Nat,((eF n f:Nat):Int)=Lp.sm n λk=>(f k:Int)
 |0=>rfl
 |n+1=>by rw[eF,Lp.sm,<-jT n,Int.natCast_add]
def Nf{α:Type}{F:α->Int}{d:α}{l:List α}:(Lp.sm l.length λk=>F (l.getD k d))=(l.map F).sum:=by rw[<-eo,<-oJ (f:=F) (d:=d)]
structure ug(m n:Nat)(es:Uw)(T:List Th)(g:Nat->Nat)(th:Nat->Th)(fS:Nat->Nat->Nat):Prop where
 gm:((List.range m).map g).Perm (List.range m)
 tp:T.Perm ((List.range n).map th)
 nd:T.Nodup
 td:∀c,c<m->∀i,i<n->td es (g c) (th i)=fS c i
section
variable{m n:Nat}{es:Uw}{T:List Th}{g:Nat->Nat}{th:Nat->Th}{fS:Nat->Nat->Nat}{d S:Int}{sh:VJ}{rl:List vY}{above below:Nat}
def Gz(h:((List.range m).map g).Perm (List.range m)){F:Nat->Int}:Lp.sm m F=Lp.sm m λc=>F (g c):=by rw[<-eo,<-eo,<-vB (h.map F),QN];rfl
noncomputable def gk {α:Type} [DecidableEq α](l:List α)(a:α):Nat:=l.idxOf a
def lJ{α:Type} [DecidableEq α]{g:Nat->α}{m c:Nat}(nd:((List.range m).map g).Nodup)(hc:c<m)  :gk ((List.range m).map g) (g c)=c:=by unfold gk;have h:=nd.idxOf_getElem c (by rw[Q5,QC];exact hc);rwa[List.getElem_map,List.getElem_range]at h
def EI(h:((List.range m).map g).Perm (List.range m)){c:Nat}(hc:c<m):g c<m:=
 QM.mp (h.mem_iff.mp (Q9.mpr ⟨c,QM.mpr hc,rfl⟩))
def OU(h:((List.range m).map g).Perm (List.range m)){p:Nat}(hp:p<m):∃c,c<m/\g c=p:=by obtain⟨c,hc,e⟩:=Q9.mp (h.mem_iff.mpr (QM.mpr hp));exact⟨c,QM.mp hc,e⟩
def oH{p:Nat}:p∈gS m es t u↔p<m/\PB.td es p t≠PB.td es p u:=by unfold gS;rw[Sv,QM,decide_eq_true_iff]
def ug.up(Z:ug m n es T g th fS)(F:Cg m es (bw T) d S sh rl){y:Nat->Nat}(h1:eF m y=above)(h2:∀i,i<n->∀j,j<n->i≠j->below<=eF m λc=>if fS c i≠fS c j then y c else 0):(below:Int)*S<=above*d:=by
 have gnd:=Z.gm.nodup_iff.mpr Rg;have hx:∀c,c<m->((List.range m).map λp=>((y (gk ((List.range m).map g) p):Nat):Int)).getD (g c) 0=y c:=λc hc=>by rw[QS,QF,QK (EI Z.gm hc),Option.map_some,lJ gnd hc];rfl
 have k:=F.Eb ((List.range m).map λp=>((y (gk ((List.range m).map g) p):Nat):Int)) (by rw[Q5,QC]) (λv hv=>by
  obtain⟨p,_,rfl⟩:=Q9.mp hv;exact Ss _) below λf hf=>?_
 .rw[eo,Gz Z.gm,Lp.aC (g:=λc=>(y c:Int)) λc hc=>by rw[lJ gnd hc],<-jT,h1]at k;exact k
 obtain⟨m1,m2,m3⟩:=zd hf;obtain⟨i,hi,e1⟩:=Q9.mp (Z.tp.mem_iff.mp m1);obtain⟨j,hj,e2⟩:=Q9.mp (Z.tp.mem_iff.mp m2);have hi:=QM.mp hi;have hj:=QM.mp hj;have ne:i≠j:=λz=>m3 Z.nd (by rw[<-e1,<-e2,z]);refine RG (Int.ofNat_le.mpr (h2 i hi j hj ne)) (RL ?_);unfold Km;rw[jT];refine Eq.trans (Lp.aC λc hc=>?_) (Gz Z.gm).symm;rw[hx c hc,<-e1,<-e2];by_cases z:fS c i≠fS c j;{rw[if_pos z,if_pos (oH.mpr ⟨EI Z.gm hc,by rw[Z.td c hc i hi,Z.td c hc j hj];exact z⟩)]};rw[if_neg z,if_neg λq=>z (by have:=(oH.mp q).2;rwa[Z.td c hc i hi,Z.td c hc j hj]at this)];rfl
def ug.dbl(Z:ug m n es T g th fS){W:Th->Th->Int}{w:Nat->Nat->Nat}(h:∀i,i<n->∀j,j<n->W (th i) (th j)=w i j)(h0:∀i,i<n->w i i=0):((bw T).map λf=>W f.1 f.2+W f.2 f.1).sum=(eF n λi=>eF n λj=>w i j:Nat):=by
 have k:=xU (W:=W) T;have z:(T.map λt=>W t t).sum=0:=by rw[vB (Z.tp.map _),QN,eo];refine Lp.dN λi hi=>?_;show W (th i) (th i)=0;rw[h i hi i hi,h0 i hi];rfl
 rw[z,UA]at k;rw[k,jT,vB (Z.tp.map _),QN,eo];refine Lp.aC λi hi=>?_;show(T.map (W (th i))).sum=_;rw[jT,vB (Z.tp.map _),QN,eo];exact Lp.aC λj hj=>h i hi j hj
def ug.lo(Z:ug m n es T g th fS)(F:Cg m es (bw T) d S sh rl){w:Nat->Nat->Nat}{k:Nat}(hk:0<k)(h0:∀i,i<n->w i i=0)(h1:k*above=eF n λi=>eF n λj=>w i j)(h2:∀c,c<m->(eF n λi=>eF n λj=>if fS c i≠fS c j then w i j else 0)<=k*below):(above:Int)*d<=below*S:=by
 have tnd:((List.range n).map th).Nodup:=Z.tp.nodup_iff.mp Z.nd;have q:=F.prim ((bw T).map λf=>((w (gk ((List.range n).map th) f.1) (gk ((List.range n).map th) f.2):Nat):Int)+((w (gk ((List.range n).map th) f.2) (gk ((List.range n).map th) f.1):Nat):Int)) (Q5 _) (λv hv=>by
  obtain⟨f,_,rfl⟩:=Q9.mp hv;lia) (k*below:Nat) λp hp=>?_
 .rw[Z.dbl (W:=λt u=>((w (gk ((List.range n).map th) t) (gk ((List.range n).map th) u):Nat):Int)) (w:=w) (λi hi j hj=>by show((w _ _:Nat):Int)=_;rw[lJ tnd hi,lJ tnd hj]) h0,<-h1,Int.natCast_mul,Int.natCast_mul,Ri,Ri]at q;exact Int.le_of_mul_le_mul_left q (by lia)
 obtain⟨c,hc,rfl⟩:=OU Z.gm hp;refine RG (RL ?_) (Int.ofNat_le.mpr (h2 c hc));rw[<-Z.dbl (W:=λt u=>if PB.td es (g c) t≠PB.td es (g c) u then((w (gk ((List.range n).map th) t) (gk ((List.range n).map th) u):Nat):Int)else 0) (w:=λi j=>if fS c i≠fS c j then w i j else 0) (λi hi j hj=>by
  show(if _ then _ else _)=_
  rw[lJ tnd hi,lJ tnd hj,Z.td c hc i hi,Z.td c hc j hj];split<;>rfl) (λi hi=>if_neg λz=>z rfl)]
 unfold J6;rw[<-Nf (d:=dH)];refine Lp.aC λj hj=>?_;have e:((bw T).map λf=>((w (gk ((List.range n).map th) f.1) (gk ((List.range n).map th) f.2):Nat):Int)+((w (gk ((List.range n).map th) f.2) (gk ((List.range n).map th) f.1):Nat):Int)).getD j 0=(λf=>((w (gk ((List.range n).map th) f.1) (gk ((List.range n).map th) f.2):Nat):Int)+((w (gk ((List.range n).map th) f.2) (gk ((List.range n).map th) f.1):Nat):Int)) ((bw T).getD j dH):=by rw[QS,QF,j6 (d:=dH) hj];rfl
 rw[e];by_cases z:PB.td es (g c) ((bw T).getD j dH).1=PB.td es (g c) ((bw T).getD j dH).2;{rw[if_neg λq=>(oH.mp q).2 z,if_neg λq=>q z,if_neg λq=>q z.symm];rfl};rw[if_pos (oH.mpr ⟨EI Z.gm hc,z⟩),if_pos z,if_pos λq=>z q.symm]
end
structure iP(way m:Nat)(es:Uw)(ms:VI):Prop where
 nu:cC m es
 pm:ms.Perm (List.range m)
 to:∀a,a<m->∀b,b<m->ja way m a b=true->cE es (ms.getD a 0) (ms.getD b 0)
 of:∀x y,cE es x y->∃a b,a<m/\b<m/\ja way m a b=true/\x=ms.getD a 0/\y=ms.getD b 0
section
variable{way m:Nat}{es:Uw}{ms:VI}{d S:Int}{sh:VJ}{rl:List vY}
def iP.rg(D:iP way m es ms):(List.range m).map (λa=>ms.getD a 0)=ms:=by have h:=oJ (f:=id) (d:=(0:Nat)) (l:=ms);rw[List.map_id,D.pm.length_eq,QC]at h;exact h.symm
def iP.gm(D:iP way m es ms):((List.range m).map λa=>ms.getD a 0).Perm (List.range m):=by rw[D.rg];exact D.pm
def iP.inj(D:iP way m es ms){a b:Nat}(ha:a<m)(hb:b<m)(e:ms.getD a 0=ms.getD b 0):a=b:=by have l:=D.pm.length_eq;rw[QC]at l;exact Gr.getD_inj (D.pm.nodup_iff.mpr Rg) (by lia) (by lia) e
def iP.ds(D:iP way m es ms)(hw:way<4)(hm:m<8){a b:Nat}(ha:a<m)(hb:b<m):aD es (ms.getD a 0) (ms.getD b 0)=jb way m a b:=
 (OY way hw m hm).dst (g:=λa=>ms.getD a 0) (λ_ ha _ hb=>D.inj ha hb) D.to D.of ha hb
def iP.NI(D:iP way m es ms)(hw:way<4)(hm:m<8):ug m m es (aA "places" m es) (λa=>ms.getD a 0) (λa=>.inl (ms.getD a 0)) (jb way m):=by
 have e:aA "places" m es=(List.range m).map Sum.inl:=by unfold aA;rw[if_neg (by decide),if_pos rfl,Qz]
 refine⟨D.gm,?_,jz D.nu.gd,λc hc i hi=>D.ds hw hm hc hi⟩;rw[e];have h:=(D.gm.map (Sum.inl:Nat->Th)).symm;rw[QN]at h;exact h
def qC{x y:Nat}(h1:e.1<e.2)(h:(e.1=ms.getD x 0/\e.2=ms.getD y 0)\/(e.1=ms.getD y 0/\e.2=ms.getD x 0)):e=jN ms (x,y):=by unfold jN;refine Prod.ext ?_ ?_;{show e.1=min (ms.getD x 0) (ms.getD y 0);lia};show e.2=max (ms.getD x 0) (ms.getD y 0);lia
theorem iP.JX(D:iP 1 m es ms)(hm:m<8)(h3:3<=m):ug m m es (aA "ties" m es) (λa=>ms.getD a 0) (λi=>.inr (jN ms (i,(i+1)%m))) (C6 m):=by
 have e:aA "ties" m es=es.map Sum.inr:=by unfold aA;rw[if_pos rfl,if_neg (by decide),Rx]
 have md:∀i,(i+1)%m<m:=λi=>Sj _ (by lia);have pp:es.Perm ((List.range m).map λi=>jN ms (i,(i+1)%m)):=by
  refine(List.perm_ext_iff_of_nodup D.nu.gd.nd ?_).mpr λf=>⟨λhf=>?_,λhf=>?_⟩
  .refine UI.mpr ((List.pairwise_lt_range (n:=m)).imp_of_mem λ{i j} hi hj lt z=>?_);have hi:=QM.mp hi;have hj:=QM.mp hj;have z1:min (ms.getD i 0) (ms.getD ((i+1)%m) 0)=min (ms.getD j 0) (ms.getD ((j+1)%m) 0):=congrArg Prod.fst z;have z2:max (ms.getD i 0) (ms.getD ((i+1)%m) 0)=max (ms.getD j 0) (ms.getD ((j+1)%m) 0):=congrArg Prod.snd z;have c:ms.getD i 0=ms.getD j 0\/(ms.getD i 0=ms.getD ((j+1)%m) 0/\ms.getD j 0=ms.getD ((i+1)%m) 0):=by lia
   rcases c with c|⟨c1,c2⟩;{have:=D.inj hi hj c;lia};exact Fc m hm h3 i hi j hj (D.inj hi (md j) c1) (D.inj hj (md i) c2)
  .have h1:=(D.nu.gd.lt f hf).1;obtain⟨a,b,ha,hb,ad,e1,e2⟩:=D.of f.1 f.2 (.inl hf);rcases G6 m hm h3 a ha b hb ad with z|z;{exact Q9.mpr ⟨a,QM.mpr ha,(qC h1 (.inl ⟨e1,by rw[e2,z]⟩)).symm⟩};exact Q9.mpr ⟨b,QM.mpr hb,(qC h1 (.inr ⟨by rw[e1,z],e2⟩)).symm⟩
  obtain⟨i,hi,rfl⟩:=Q9.mp hf;have hi:=QM.mp hi;rcases D.to i hi _ (md i) (Iq m hm h3 i hi)with z|z;{rw[<-qC (D.nu.gd.lt _ z).1 (.inl ⟨rfl,rfl⟩)];exact z};rw[<-qC (D.nu.gd.lt _ z).1 (.inr ⟨rfl,rfl⟩)];exact z
 refine⟨D.gm,?_,jz D.nu.gd,λc hc i hi=>?_⟩;{rw[e];have h:=pp.map (Sum.inr:Nat×Nat->Th);rw[QN]at h;exact h};have a1:=D.ds (by decide) hm hc hi;have a2:=D.ds (by decide) hm hc (md i);show min (aD es (ms.getD c 0) (min (ms.getD i 0) (ms.getD ((i+1)%m) 0))) (aD es (ms.getD c 0) (max (ms.getD i 0) (ms.getD ((i+1)%m) 0)))=min _ _;rw[<-a1,<-a2];rcases S3 (ms.getD i 0) (ms.getD ((i+1)%m) 0)with z|z;{rw[RY z,UH z]};rw[S4 z,Nat.max_eq_left z,Nat.min_comm]
def iP.val(D:iP way m es ms)(hw:way<4)(hm:m<8)(F:Cg m es (bw (aA "places" m es)) d S sh rl):S*(((iH way m).2:Nat):Int)=((iH way m).1:Nat)*d:=by
 by_cases h2:2<=m;{obtain⟨k,_,k0,k1,k2⟩:=LX way hw m hm h2;have a:=(D.NI hw hm).up F (Hi way hw m hm h2) (HX way hw m hm h2);have b:=(D.NI hw hm).lo F k0 (M3 way hw m hm h2) k1 k2;rw[Qs S];exact Int.le_antisymm a b};have m1:=D.nu.pos;obtain rfl:m=1:=by lia
 have z:=(F.nil rfl).1;rw[z,Sn];show 0=((0:Nat):Int)*d;rw[Int.natCast_zero,Sn]
def iP.OJ(D:iP 1 m es ms)(hm:m<8)(h3:3<=m)(F:Cg m es (bw (aA "ties" m es)) d S sh rl):S*(((iH 1 m).2:Nat):Int)=((iH 1 m).1:Nat)*d:=by obtain⟨k,_,k0,k1,k2⟩:=Kc m hm h3;have a:=(D.JX hm h3).up F (y:=λ_=>1) (Hl m hm h3) (Hw m hm h3);have b:=(D.JX hm h3).lo F k0 (MQ m hm h3) k1 k2;rw[Qs S];exact Int.le_antisymm a b
end
end PB
set_option synthInstance.maxSize 4000
set_option synthInstance.maxHeartbeats 400000
local macro_rules | `(tactic| bv_omega) => do let ls ← (List.range 216).toArray.mapM fun k => `(Lean.Parser.Tactic.simpLemma| $(Lean.mkIdent (.str `Dv s!"rr{k}")):ident); `(tactic| dsimp only[$ls,*, Dv.dyr0, Dv.dyr1, Dv.dyr2, Dv.dyr3, Nat.reduceBEq, Dv.jm, Dv.jo, Dv.l5, Dv.lW])
namespace PB
open PySem L2 Dv Gr
noncomputable def wR (w a:Nat) (b:Nat):Bool:=match w with
 |0=>a+1==b
 |1=>a+1==b
 |2=>a==0
 |_=>true
structure PQ(w N k:Nat)(ps:Uw):Prop where
 lt:∀e∈ps,e.1<e.2/\e.2<=k/\wR w e.1 e.2=true
 al:∀a b,a<b->b<=k->wR w a b=true->(a,b)∈ps
 few:ps.length<=N
structure PS(w m:Nat)(ps:Uw):Prop where
 pi:PI 910 m m ps
 is:∀e∈ps,ja w m e.1 e.2=true
 al:∀a b,a<m->b<m->ja w m a b=true->(a,b)∈ps\/(b,a)∈ps
def Nj:∀w,w<4->∀m,m<8->∀a,a<m->∀b,b<m->a<b->wR w a b=true->ja w m a b=true/\ja w m b a=true:=by decide+kernel
def Mn:∀w,w<4->∀m,m<8->∀a,a<m->∀b,b<m->ja w m a b=true->(a<b/\wR w a b=true)\/(b<a/\wR w b a=true)\/(w=1/\2<m/\((a=0/\b=m-1)\/(b=0/\a=m-1))):=by decide+kernel
def Ni:∀m,m<8->2<m->ja 1 m 0 (m-1)=true:=by decide+kernel
def PQ.tr{w N k:Nat}(h:PQ w N k ps):∀j,0<j->j<k+1->∃p,p<j/\(p,j)∈ps:=λj h0 hj=>by rcases w with _|_|_|w;{exact⟨j-1,by lia,h.al _ _ (by lia) (by lia) (beq_iff_eq.mpr (by lia))⟩};{exact⟨j-1,by lia,h.al _ _ (by lia) (by lia) (beq_iff_eq.mpr (by lia))⟩};{exact⟨0,h0,h.al _ _ h0 (by lia) rfl⟩};exact⟨0,h0,h.al _ _ h0 (by lia) rfl⟩
def PQ.fin{w N m:Nat}(h:PQ w N (m-1) ps)(h1:1<=m)(hN:N<=900)(hw:w<4)(hm:m<=7)(e:qs=if w=1/\2<m then ps++[(0,m-1)]else ps):PS w m qs:=by
 have sub:∀f∈ps,f∈qs:=λf hf=>by rw[e];split;{exact QL.mpr (.inl hf)};exact hf
 have bus:∀f∈qs,f∈ps\/(w=1/\2<m/\f=(0,m-1)):=λf hf=>by rw[e]at hf;split at hf;{rename_i c;rcases QL.mp hf with hf|hf;{exact .inl hf};exact .inr ⟨c.1,c.2,Q8.mp hf⟩};exact .inl hf
 refine⟨⟨λf hf=>?_,λj h0 hj=>?_,?_⟩,λf hf=>?_,λa b ha hb had=>?_⟩;{rcases bus f hf with hf|⟨c1,c2,rfl⟩;{have:=h.lt f hf;lia};exact⟨by show 0≠m-1;lia,by show 0<m;lia,by show m-1<m;lia⟩};{obtain⟨p,hp,hf⟩:=h.tr j h0 (by lia);exact⟨p,hp,sub _ hf⟩};{have:=h.few;rw[e];split;{rw[QE];simp;lia};lia};{rcases bus f hf with hf|⟨c1,c2,rfl⟩;{have l:=h.lt f hf;exact(Nj w hw m (by lia) f.1 (by lia) f.2 (by lia) l.1 l.2.2).1};rw[c1];exact Ni m (by lia) c2};rcases Mn w hw m (by lia) a ha b hb had with⟨l,c⟩|⟨l,c⟩|⟨c1,c2,c3⟩;{exact .inl (sub _ (h.al a b l (by lia) c))};{exact .inr (sub _ (h.al b a l (by lia) c))};have z:(0,m-1)∈qs:=by rw[e,if_pos ⟨c1,c2⟩];exact QL.mpr (.inr (Q8.mpr rfl))
 rcases c3 with⟨rfl,rfl⟩|⟨rfl,rfl⟩;{exact .inl z};exact .inr z
def PQ.step{w N k p:Nat}{ps qs:Uw}(h:PQ w N k ps)(hp:p<=k)(hb:wR w p (k+1)=true)(hq:w<3->qs=[])(hq1:∀e∈qs,e.1<=k/\e.2=k+1)(hq2:3<=w->∀a,a<=k->(a,k+1)∈qs)(hl:1+qs.length<=31):PQ w (N+31) (k+1) (ps++[(p,k+1)]++qs):=by
 refine⟨λe he=>?_,λa b l hbk had=>?_,?_⟩;{rcases QL.mp he with he|he;{rcases QL.mp he with he|he;{have:=h.lt e he;exact⟨this.1,by lia,this.2.2⟩};rw[Q8.mp he];exact⟨by show p<k+1;lia,Q7 _,hb⟩};have z:=hq1 e he;refine⟨by lia,by lia,?_⟩;rcases w with _|_|_|w;{rw[hq (by lia)]at he;cases he};{rw[hq (by lia)]at he;cases he};{rw[hq (by lia)]at he;cases he};rfl}
 .by_cases c:b<=k;{exact QL.mpr (.inl (QL.mpr (.inl (h.al a b l c had))))};obtain rfl:b=k+1:=by lia
  by_cases c3:3<=w;{exact QL.mpr (.inr (hq2 c3 a (by lia)))};refine QL.mpr (.inl (QL.mpr (.inr (Q8.mpr ?_))));have ea:a=p:=by rcases w with _|_|_|w;{have e1:a+1=k+1:=beq_iff_eq.mp had;have e2:p+1=k+1:=beq_iff_eq.mp hb;lia};{have e1:a+1=k+1:=beq_iff_eq.mp had;have e2:p+1=k+1:=beq_iff_eq.mp hb;lia};{have e1:a=0:=beq_iff_eq.mp had;have e2:p=0:=beq_iff_eq.mp hb;lia};lia
  rw[ea]
 have:=h.few;rw[QE,QE];simp;lia
noncomputable def Ae:bF:=λdd Q x=>∃(n m w:Nat),dd=[nD [n],iD m,iD w]/\1<=m/\m<=7/\w<4/\∀(ps:Uw) n',PS w m ps->Q [nD [n']] (.ow false) (.list (ps.map eX))
def Jj:∀dd Q x,Ae dd Q x->fY tY (br [true,false,false] Q x) (ini [true,false,false] dd++List.replicate 6 none):=by
 rintro _ Q x⟨n,m,w,rfl,h1,h2,hw,q⟩;have em:((m:Int)-1).toNat=m-1:=by lia
 unfold fY;refine bO λB hB=>?_;rfl';refine⟨by lia,?_⟩;show B _;rw[hB];clear hB B;refine bO λB hB=>?_;rfl';rw[em,if_pos ⟨by lia,by lia,by lia,by lia⟩];refine aM rfl ?_;refine qW (λk E=>FY λ(n:Nat)(ps:Uw)(o4 o5:Option (Kd×PyData))=>GB (E=[some (.ow true,nD [n]),some (.sh,iD m),some (.sh,iD w),some (.ow false,.list (ps.map eX)),o4,o5,none,none,none]) (b9 o4=true) (b9 o5=true) (PQ w (31*k) k ps)) ⟨n,[],none,none,rfl,rfl,rfl,⟨(λ_ z=>nomatch z),λa b l hb _=>by lia,by simp⟩⟩ ?_ ?_
 .rintro J k _ hk hJ⟨n,ps,o4,o5,rfl,h4,h5,pi⟩;simp![h4,h5];refine⟨n,k+1,rfl,by lia,by lia,λr n hr=>?_⟩;simp![h4,h5,Cc];obtain⟨p,hp,e,hb⟩:∃p:Nat,p<=k/\cX [.int (((k+1:Nat):Int)-1),.int (((k+1:Nat):Int)-1),.int 0,iD r] (if(3:Int)<(w:Int)then 3 else(w:Int))=some (iD p)/\wR w p (k+1)=true:=by rw[show((k+1:Nat):Int)-1=(k:Int)by lia];rcases w with _|_|_|_|w;{exact⟨k,by lia,rfl,beq_iff_eq.mpr rfl⟩};{exact⟨k,by lia,rfl,beq_iff_eq.mpr rfl⟩};{exact⟨0,by lia,rfl,rfl⟩};{exact⟨r,by lia,rfl,rfl⟩};lia
  have pf:=pi.few;refine⟨by lia,aM e ⟨by lia,by lia,?_⟩⟩;rw[show List.map eX ps++[PyData.tuple [iD p,iD (k+1)]]=(ps++[(p,k+1)]).map eX by rw[QZ];rfl];split
  .rename_i h3;have h3:w=3:=by lia
   rw[if_pos ⟨by lia,by lia⟩];refine aM rfl (ju (λi=>eX (i,k+1)) rfl (λi hi I hI=>?_) ?_ (by rw[QC];lia));{rfl';exact⟨by lia,hI _ rfl⟩};rfl';have pj:=pi.step (qs:=(List.range (k+1)).map λi=>(i,k+1)) hp hb (λz=>by lia) (λe he=>by
    obtain⟨i,hi,rfl⟩:=Q9.mp he;have:=QM.mp hi;exact⟨by show i<=k;lia,rfl⟩) (λ_ a ha=>Q9.mpr ⟨a,QM.mpr (by lia),rfl⟩) (by rw[Q5,QC];lia)
   refine⟨by rw[QE];simp;lia,hJ _ ⟨n,(ps++[(p,k+1)])++(List.range (k+1)).map λi=>(i,k+1),some (.sh,iD (k+1)),some (.sh,iD r),?_,rfl,rfl,pj⟩⟩;rw[QZ (l₁:=ps++[(p,k+1)]),QN];rfl
  rename_i h3;have h3:¬w=3:=λz=>h3 (by lia);have pj:=pi.step (qs:=[]) hp hb (λ_=>rfl) (λ_ z=>nomatch z) (λz=>by lia) (by simp);rw[Qz]at pj;exact hJ _ ⟨n,_,some (.sh,iD (k+1)),some (.sh,iD r),rfl,rfl,rfl,pj⟩
 rintro _⟨n,ps,o4,o5,rfl,h4,h5,pi⟩;show B _;rw[hB];clear hB B;refine vE (λE=>∃(ps:Uw),E=[some (.ow true,nD [n]),some (.sh,iD m),some (.sh,iD w),some (.ow false,.list (ps.map eX)),o4,o5,none,none,none]/\PS w m ps) (λJ hJ=>?_) λB hB=>?_;{have fin:=λ{qs}=>pi.fin (qs:=qs) h1 (by lia) hw h2;have pf:=pi.few;rfl';split;{rename_i c1;split;{rename_i c2;rw[show(m:Int)-1=((m-1:Nat):Int)by lia];refine⟨by lia,by lia,hJ _ ⟨ps++[(0,m-1)],by rw[QZ];rfl,fin (by rw[if_pos ⟨by lia,by lia⟩])⟩⟩};rename_i c2;exact hJ _ ⟨ps,rfl,fin (by rw[if_neg λz=>c2 (by lia)])⟩};rename_i c1;exact hJ _ ⟨ps,rfl,fin (by rw[if_neg λz=>c1 (by lia)])⟩};clear pi ps;rintro _⟨ps,rfl,pi⟩;rw[hB];clear hB B;refine vE (λE=>E=[some (.ow true,nD [n]),some (.sh,iD m),some (.sh,iD w),some (.ow false,.list (ps.map eX)),o4,o5,none,none,none]) (λJ hJ=>?_) λB hB=>?_;{rfl';rw[if_neg (by lia)];exact hJ _ rfl};rintro _ rfl;rw[hB];clear hB B;rfl';exact q ps n pi
end PB
set_option synthInstance.maxSize 4000
set_option synthInstance.maxHeartbeats 400000
local macro_rules | `(tactic| bv_omega) => do let ls ← (List.range 216).toArray.mapM fun k => `(Lean.Parser.Tactic.simpLemma| $(Lean.mkIdent (.str `Dv s!"rr{k}")):ident); `(tactic| dsimp only[$ls,*, Dv.dyr0, Dv.dyr1, Dv.dyr2, Dv.dyr3, Nat.reduceBEq, Dv.jm, Dv.jo, Dv.l5, Dv.lW, Dv.Em, Dv.M8, Dv.LH])
namespace PB
open PySem L2 Dv Gr
noncomputable def AA:bF:=λdd Q x=>∃(m w:Nat),dd=[iD m,iD w]/\1<=m/\m<=7/\w<4/\Q [] .sh (.tuple [iD (iH w m).1,iD (iH w m).2])
def Ly:∀dd Q x,AA dd Q x->f6 (br [false,false] Q x) (ini [false,false] dd++List.replicate 0 none):=by
 rintro _ Q x⟨m,w,rfl,h1,h2,hw,q⟩;unfold f6;unfold iH at q;rfl';by_cases c1:m=1;{rw[if_pos c1]at q;rw[if_pos (show(m:Int)=1 by lia)];exact⟨by lia,q⟩};rw[if_neg c1]at q;rw[if_neg (show ¬(m:Int)=1 by lia)];by_cases c2:m=2;{rw[if_pos (.inl c2)]at q;rw[if_pos (show(m:Int)=2 by lia)];exact⟨by lia,q⟩};rw[if_neg (show ¬(m:Int)=2 by lia)];by_cases c3:w=0;{rw[if_pos (.inr (.inl c3))]at q;rw[if_pos (show(w:Int)=0 by lia)];exact⟨by lia,q⟩};rw[if_neg (show ¬(w:Int)=0 by lia)];by_cases c4:w=2;{rw[if_pos (show(w:Int)=2 by lia)];by_cases c5:m=3;{rw[if_pos (.inr (.inr ⟨c4,c5⟩))]at q;rw[if_pos (show(m:Int)=3 by lia)];exact⟨by lia,q⟩};rw[if_neg (by lia),if_neg (by lia),if_pos c4]at q;rw[if_neg (show ¬(m:Int)=3 by lia),if_neg (show ¬(w:Int)=1 by lia),if_pos (show(w:Int)=2 by lia),show(m:Int)-1=((m-1:Nat):Int)by lia];exact⟨by lia,q⟩};rw[if_neg (show ¬(w:Int)=2 by lia)];rw[if_neg (by lia)]at q;by_cases c6:w=1;{rw[if_pos c6]at q;rw[if_pos (show(w:Int)=1 by lia),show(m:Int)-2+(m:Int)%2=((m-2+m%2:Nat):Int)by lia];exact⟨by lia,by lia,q⟩};rw[if_neg c6,if_neg c4]at q;rw[if_neg (show ¬(w:Int)=1 by lia)];try rw[if_neg (show ¬(w:Int)=2 by lia)]
 exact⟨by lia,q⟩
noncomputable def zQ:bF:=λdd Q x=>∃(n:Nat),dd=[nD [n]]/\∀(w m:Nat)(es:Uw)(ms:VI) n',w<4->1<=m->m<=7->iP w m es ms->Q [nD [n']] .sh (.tuple [wD m es,iD w])
def Bh:∀w,w<4->∀m,m<8->∀a,a<m->∀b,b<m->ja w m a b=ja w m b a:=by decide+kernel
def IY:∀dd Q x,zQ dd Q x->fJ tY F7 Ae (br [true] Q x) (ini [true] dd++List.replicate 7 none):=by
 rintro _ Q x⟨n,rfl,q⟩;unfold fJ;refine bO λB hB=>?_;rfl';refine⟨n,4,rfl,by lia,by lia,λw n hw=>?_⟩;rfl';rw[hB];clear hB B;refine bO λB hB=>?_;rfl';refine⟨n,7,rfl,by lia,by lia,λr n hr=>?_⟩;rfl';rw[show(1:Int)+(r:Int)=((1+r:Nat):Int)by lia];obtain⟨m,em⟩:∃m,m=1+r:=⟨_,rfl⟩;rw[<-em];have h1:1<=m:=by lia
 have h7:m<=7:=by lia
 clear em hr r;rw[hB];clear hB B;refine bO λB hB=>?_;rfl';refine⟨n,m,rfl,by lia,λms n pm=>?_⟩;rfl';rw[hB];clear hB B;refine bO λB hB=>?_;rfl';refine⟨by lia,?_⟩;rw[hB];clear hB B;refine bO λB hB=>?_;rfl';refine⟨n,m,w,rfl,h1,h7,hw,λps n pi=>?_⟩;rfl';refine AD (λi E=>FY λ(fs:Uw)(o7 o8 o9:Option (Kd×PyData))=>Gw (E=[some (.ow true,nD [n]),some (.sh,iD w),some (.sh,iD m),some (.ow false,nD ms),some (.ow false,.list (fs.map eX)),o7,o8,o9]) (b9 o7=true) (b9 o8=true) (b9 o9=true) (Good m fs) (fs.length<=i) ((∀e∈ps.take i,Gr.jN ms e∈fs)) (∀f∈fs,∃e∈ps,f=Gr.jN ms e)) ⟨[],none,none,none,rfl,rfl,rfl,rfl,⟨(λ_ z=>nomatch z),Rv⟩,Q7 _,(λe he=>by simp at he),(λ_ z=>nomatch z)⟩ ?_ ?_
 .rintro J i e _ hi hJ⟨fs,o7,o8,o9,rfl,h7,h8,h9,gd,fl,im,mi⟩;have hl:=pi.pi.ne e (Qi hi);have g1:=vR pm hl.2.1;have g2:=vR pm hl.2.2;have ts:ps.take (i+1)=ps.take i++[e]:=by rw[Tr,hi];rfl
  simp![h7,h8,h9,g1.1,g2.1];rw[zp,zc];have ne:ms.getD e.1 0≠ms.getD e.2 0:=λz=>hl.1 (Gr.getD_inj (pm.nodup_iff.mpr Rg) (by rw[pm.length_eq,QC];exact hl.2.1) (by rw[pm.length_eq,QC];exact hl.2.2) z);have ad:(fs.all λa=>dl 8 (eX a))=true:=QY.mpr λ_ _=>rfl;refine⟨by lia,rfl,rfl,by lia,⟨ad,rfl⟩,?_⟩;rw[show PyData.tuple [iD (min (ms.getD e.1 0) (ms.getD e.2 0)),iD (max (ms.getD e.1 0) (ms.getD e.2 0))]=eX (Gr.jN ms e)from rfl];have lti:=cB hi;have pf:=pi.pi.few;split;{rename_i hn;replace hn:Gr.jN ms e∉fs:=λz=>hn (zu.mpr z);rw[zp,zc];refine⟨rfl,rfl,by lia,by lia,hJ _ ⟨fs++[Gr.jN ms e],_,_,_,by rw[QZ];rfl,rfl,rfl,rfl,gd.put (x:=min (ms.getD e.1 0) (ms.getD e.2 0)) (y:=max (ms.getD e.1 0) (ms.getD e.2 0)) (by lia) (by lia) hn,by rw[QE];simp;lia,?_,?_⟩⟩;{rw[ts];intro f hf;rcases QL.mp hf with hf|hf;{exact QL.mpr (.inl (im f hf))};rw[Q8.mp hf];exact QL.mpr (.inr (Q8.mpr rfl))};intro f hf;rcases QL.mp hf with hf|hf;{exact mi f hf};exact⟨e,Qi hi,Q8.mp hf⟩};rename_i hn;refine hJ _ ⟨fs,_,_,_,rfl,rfl,rfl,rfl,gd,by lia,?_,mi⟩;rw[ts];intro f hf;rcases QL.mp hf with hf|hf;{exact im f hf};rw[Q8.mp hf];exact zu.mp (Decidable.not_not.mp hn)
 rintro _⟨fs,o7,o8,o9,rfl,h7',h8,h9,gd,fl,im,mi⟩;show B _;rw[hB];clear hB B;rw[Rc]at im;have pf:=pi.pi.few;rfl';refine HC (by lia) λqs pq=>?_;rfl';have cn:fE m fs:=by have c0:=Gr.z8 pm (Gr.IU pi.pi.tr);refine(c0.Ol.mono λe he=>?_).conn;obtain⟨e0,h0,rfl⟩:=Q9.mp he;exact im e0 h0
 have W:cC m qs:=⟨by lia,by lia,Gr.Good.perm pq gd,Gr.Ci pq cn⟩;have nm:∀a b,jN ms (a,b)∈qs->cE qs (ms.getD a 0) (ms.getD b 0):=λa b h=>by unfold jN at h;rcases S3 (ms.getD a 0) (ms.getD b 0)with z|z;{rw[show min (ms.getD (a,b).1 0) (ms.getD (a,b).2 0)=ms.getD a 0 from RY z,show max (ms.getD (a,b).1 0) (ms.getD (a,b).2 0)=ms.getD b 0 from UH z]at h;exact .inl h};rw[show min (ms.getD (a,b).1 0) (ms.getD (a,b).2 0)=ms.getD b 0 from S4 z,show max (ms.getD (a,b).1 0) (ms.getD (a,b).2 0)=ms.getD a 0 from Nat.max_eq_left z]at h;exact .inr h
 have mn:∀x y,(x,y)∈qs->∃a b,a<m/\b<m/\ja w m a b=true/\x=ms.getD a 0/\y=ms.getD b 0:=λx y h=>by obtain⟨e,he,z⟩:=mi _ (pq.mem_iff.mp h);have l:=pi.pi.ne e he;have s:=pi.is e he;have z1:x=min (ms.getD e.1 0) (ms.getD e.2 0):=congrArg Prod.fst z;have z2:y=max (ms.getD e.1 0) (ms.getD e.2 0):=congrArg Prod.snd z;by_cases c:ms.getD e.1 0<=ms.getD e.2 0;{exact⟨e.1,e.2,l.2.1,l.2.2,s,by lia,by lia⟩};exact⟨e.2,e.1,l.2.2,l.2.1,by rw[<-Bh w hw m (by lia) e.1 l.2.1 e.2 l.2.2];exact s,by lia,by lia⟩
 refine⟨by lia,by lia,q w m qs ms n hw h1 h7 ⟨W,pm,λa ha b hb had=>?_,λx y h=>?_⟩⟩;{rcases pi.al a b ha hb had with z|z;{exact nm a b (pq.mem_iff.mpr (im _ z))};exact mj _ _ (nm b a (pq.mem_iff.mpr (im _ z)))};rcases h with h|h;{exact mn x y h};obtain⟨a,b,ha,hb,s,e1,e2⟩:=mn y x h;exact⟨b,a,hb,ha,by rw[<-Bh w hw m (by lia) a ha b hb];exact s,e2,e1⟩
def Ja:∀w,w<4->∀m,m<8->(iH w m).1<=8/\(iH w m).2<=8:=by decide+kernel
def Eh:∀ds Q x,sR ds Q x->mO zQ AH AA zC (br [false] Q x) (ini [false] ds++List.replicate 8 none):=by rintro _ Q x⟨ns,rfl,hn,q⟩;unfold mO;refine bO λB hB=>?_;rfl';refine⟨ns,0,rfl,by lia,λn=>?_⟩;rfl';refine⟨n,rfl,λw m es ms n' hw h1 h7 D=>?_⟩;rfl';rw[hB];clear hB B;refine bO λB hB=>?_;rfl';rw[hB];clear hB B;refine bO λB hB=>?_;rfl';refine⟨m,w,rfl,h1,h7,hw,?_⟩;rfl';rw[hB];clear hB B;refine bO λB hB=>?_;rfl';refine⟨m,es,Str.ofString "places",rfl,D.nu,h7,λl b R O=>?_⟩;rfl';rw[hB];clear hB B;refine bO λB hB=>?_;rfl';have F:=CS D.nu h7 R O;have V:=D.val hw (by lia) F;have rl:=Ja w hw m (by lia);rw[show PyData.list ((List.range m).map λk=>PyData.int (Lp.T m (mA l m) b m (l.length+k)))=zD ((List.range m).map (shr l m b))by show _=PyData.list (((List.range m).map (shr l m b)).map .int);rw[QN];rfl];generalize PyData.list (((List.range m).filter λi=>decide (0<Lp.T m (mA l m) b i (l.length+m))&&decide (b.getD i 0<l.length)).map (EA l m b))=pd;generalize rls l m b=rw1 at F;generalize Lp.dt m (mA l m) b=d at F V⊢;generalize Lp.T m (mA l m) b m (l.length+m)=S at F V;generalize (List.range m).map (shr l m b)=sh at F⊢;refine⟨sh,rfl,?_⟩;rw[F.sum];have d0:=F.d0;have d1:=F.d1;have s0:=F.s0;have s1:=F.s1;rfl';refine⟨.inr ⟨by lia,by lia⟩,.inl ⟨by lia,by lia⟩,?_⟩;rw[if_neg λz=>z V,hB];clear hB B V s1 s0 d1 d0 F R O;refine bO λB hB=>?_;rfl';by_cases c1:w=1;{rw[if_pos (by lia)];by_cases c2:2<m;{rw[if_pos (by lia)];subst c1;refine⟨m,es,Str.ofString "ties",rfl,D.nu,h7,λl b R O=>?_⟩;rfl';clear hB B;have F:=CS D.nu h7 R O;have V:=D.OJ (by lia) c2 F;rw[show PyData.list ((List.range m).map λk=>PyData.int (Lp.T m (mA l m) b m (l.length+k)))=zD ((List.range m).map (shr l m b))by show _=PyData.list (((List.range m).map (shr l m b)).map .int);rw[QN];rfl];generalize rls l m b=rw1 at F;generalize Lp.dt m (mA l m) b=d at F V⊢;generalize Lp.T m (mA l m) b m (l.length+m)=S at F V;generalize (List.range m).map (shr l m b)=sh at F⊢;refine⟨sh,rfl,?_⟩;rw[F.sum];have d0:=F.d0;have d1:=F.d1;have s0:=F.s0;have s1:=F.s1;rfl';refine⟨.inr ⟨by lia,by lia⟩,.inl ⟨by lia,by lia⟩,?_⟩;rw[Qp V];exact q};rw[if_neg (by lia),hB];clear hB B;rfl';exact q};rw[if_neg (by lia),hB];clear hB B;rfl';exact q
end PB
namespace Me
open PySem L2 PySem.W Dv PB
noncomputable def top (i:Nat):Stmt:=PySem.Challenge.pw_farhail_k49_whole_shares_of_known_webs.main.body.getD i (.Pass ⟨0,0,0,0⟩)
structure Txt(K:Frag)(mg:Us):Prop where
 enumerate:mg "enumerate"=none
 int:mg "int"=none
 isinstance:mg "isinstance"=none
 len:mg "len"=none
 list:mg "list"=none
 max:mg "max"=none
 min:mg "min"=none
 range:mg "range"=none
 sorted:mg "sorted"=none
 sum:mg "sum"=none
 tuple:mg "tuple"=none
 zip:mg "zip"=none
 xK:∃t,mg "MOST_SHARED"=some (.int 7 t)
 IB:∃C,mg "NoPlace"=some (.ref C)/\jH K C Bl "ValueError.__new__" none=true
 kit:vI K ["int"]=true
 ns:∃h:Heap,K.In h/\h.Ns mainGlobals mg
def uc{us:VD}{n:Nat}(h:us.length=n+1):∃a t,t.length=n/\us=a::t:=by
 cases us with
 |nil=>cases h
 |cons a t=>exact⟨a,t,Nat.succ.inj h,rfl⟩
def O8{us:VD}(h0:us.length=1):∃a0,us=[a0]:=by obtain⟨a0,t0,h1,rfl⟩:=uc h0;cases Tc h1;exact⟨a0,rfl⟩
def Pd{us:VD}(h0:us.length=2):∃a0 a1,us=[a0,a1]:=by obtain⟨a0,t0,h1,rfl⟩:=uc h0;obtain⟨a1,t1,h2,rfl⟩:=uc h1;cases Tc h2;exact⟨a0,a1,rfl⟩
def Py{us:VD}(h0:us.length=3):∃a0 a1 a2,us=[a0,a1,a2]:=by obtain⟨a0,t0,h1,rfl⟩:=uc h0;obtain⟨a1,t1,h2,rfl⟩:=uc h1;obtain⟨a2,t2,h3,rfl⟩:=uc h2;cases Tc h3;exact⟨a0,a1,a2,rfl⟩
def Pq{us:VD}(h0:us.length=4):∃a0 a1 a2 a3,us=[a0,a1,a2,a3]:=by obtain⟨a0,t0,h1,rfl⟩:=uc h0;obtain⟨a1,t1,h2,rfl⟩:=uc h1;obtain⟨a2,t2,h3,rfl⟩:=uc h2;obtain⟨a3,t3,h4,rfl⟩:=uc h3;cases Tc h4;exact⟨a0,a1,a2,a3,rfl⟩
def Px{us:VD}(h0:us.length=5):∃a0 a1 a2 a3 a4,us=[a0,a1,a2,a3,a4]:=by obtain⟨a0,t0,h1,rfl⟩:=uc h0;obtain⟨a1,t1,h2,rfl⟩:=uc h1;obtain⟨a2,t2,h3,rfl⟩:=uc h2;obtain⟨a3,t3,h4,rfl⟩:=uc h3;obtain⟨a4,t4,h5,rfl⟩:=uc h4;cases Tc h5;exact⟨a0,a1,a2,a3,a4,rfl⟩
local macro_rules | `(tactic| ac_nf) => `(tactic| (intro _ _ _ _ _ _ us hl; first | (obtain⟨_, e⟩ := O8 hl; subst e; rfl) | (obtain⟨_, _, e⟩ := Pd hl; subst e; rfl) | (obtain⟨_, _, _, e⟩ := Py hl; subst e; rfl) | (obtain⟨_, _, _, _, e⟩ := Pq hl; subst e; rfl) | (obtain⟨_, _, _, _, _, e⟩ := Px hl; subst e; rfl)))
section
variable(P:Program)(w:World)(K:Frag)(mg:Us)(base:Heap)
noncomputable abbrev iF:Prop:=bX P w K mg base 1 "_law_take" ["_law_purse_here","_law_many"] (b8 mg K [true,false] tY)
noncomputable abbrev nk:Prop:=bX P w K mg base 2 "_law_order" ["_law_purse_here","_law_many"] (b8 mg K [true,false] F7)
noncomputable abbrev nR:Prop:=bX P w K mg base 2 "_law_pairs" ["_law_purse_here","_law_many","_law_way"] (b8 mg K [true,false,false] Ae)
noncomputable abbrev ou:Prop:=bX P w K mg base 3 "_law_shape" ["_law_purse_here"] (b8 mg K [true] zQ)
noncomputable abbrev nI:Prop:=bX P w K mg base 1 "_law_ratio" ["_law_many","_law_way"] (b8 mg K [false,false] AA)
noncomputable abbrev iI:Prop:=bX P w K mg base 1 "refuse_too_many" ["web"] (b8 mg K [false] Am)
noncomputable abbrev kB:Prop:=bX P w K mg base 1 "unlike_pairs" ["pairs"] (b8 mg K [false] AU)
noncomputable abbrev mX:Prop:=bX P w K mg base 1 "first_rows" ["pairs","many"] (b8 mg K [false,false] As)
noncomputable abbrev m8:Prop:=bX P w K mg base 1 "is_tighter" ["rows","base","column","place","best"] (b8 mg K [false,false,false,false,false] Af)
noncomputable abbrev pA:Prop:=bX P w K mg base 2 "tightest" ["rows","base","column"] (b8 mg K [false,false,false] zV)
noncomputable abbrev ux:Prop:=bX P w K mg base 1 "turned" ["rows","bottom","place","column"] (b8 mg K [false,false,false,false] zF)
noncomputable abbrev lH:Prop:=bX P w K mg base 3 "best_prices" ["pairs","many"] (b8 mg K [false,false] zI)
noncomputable abbrev iM:Prop:=bX P w K mg base 1 "refuse_no_place" ["web","place"] (b8 mg K [false,false] zN)
noncomputable abbrev iO:Prop:=bX P w K mg base 1 "neighbour_lists" ["web"] (b8 mg K [false] AV)
noncomputable abbrev ku:Prop:=bX P w K mg base 2 "fars_or_none" ["web","place"] (b8 mg K [false,false] zL)
noncomputable abbrev nL:Prop:=bX P w K mg base 3 "fars_from" ["web","place"] (b8 mg K [false,false] Ac)
noncomputable abbrev pM:Prop:=bX P w K mg base 4 "far_rows" ["web"] (b8 mg K [false] AQ)
noncomputable abbrev nQ:Prop:=bX P w K mg base 1 "things_of" ["web","kind"] (b8 mg K [false,false] Aa)
noncomputable abbrev nh:Prop:=bX P w K mg base 1 "nearer_end" ["fars","tie"] (b8 mg K [false,false] AM)
noncomputable abbrev nJ:Prop:=bX P w K mg base 2 "thing_far" ["fars","thing"] (b8 mg K [false,false] zW)
noncomputable abbrev m7:Prop:=bX P w K mg base 3 "parters_by" ["rows","one","other"] (b8 mg K [false,false,false] AF)
noncomputable abbrev pQ:Prop:=bX P w K mg base 5 "pairs_of" ["web","kind"] (b8 mg K [false,false] zK)
noncomputable abbrev nv:Prop:=bX P w K mg base 6 "shares_of" ["web","kind"] (b8 mg K [false,false] zC)
noncomputable abbrev n5:Prop:=bX P w K mg base 1 "_law_purse" ["_law_script","_law_k"] (b8 mg K [false,false] AH)
end
section
variable{P:Program}{w:World}{K:Frag}{mg:Us}{base:Heap}
noncomputable abbrev kO:Stmt:=top 29
def pF:aN ["_law_purse_here","_law_many","_law_found"] ["_law_purse_here","_law_many"] (av kO):=by ac_rfl
def xD(T:Txt K mg)(r:Rec K "_law_take" kO):iF P w K mg base:=
 bB T.ns r (by ac_nf) λF=>bP (m:=1) F pF rfl (by decide) (d:=gA) (λcdv A outer s H Ex hr=>have hu:=hr.units;af (aW 2 pF.nd (qt (aE (bD hu (aP 0 (aE (xI) a0))) (aP 1 a0)))) (af (zA 0 hu (Le (aE (bD hu (aP 0 (aE (xI) a0))) (aP 1 a0))) (xI)) (ak (kE 2)))) PB.Mu
noncomputable abbrev jt:Stmt:=top 30
def jM:aN ["_law_purse_here","_law_many","_law_found","_law_k"] ["_law_purse_here","_law_many"] (av jt):=by ac_rfl
def xw(T:Txt K mg)(h0:iF P w K mg base)(r:Rec K "_law_order" jt):nk P w K mg base:=
 bB T.ns r (by ac_nf) λF=>bP (m:=2) F jM rfl (by decide) (d:=fV tY) (λcdv A outer s H Ex hr=>af (aW 2 jM.nd (dF a0)) (af (iW RB jM.nd (rO T.range (aP 1 a0)) (gN 3) (ak (dZ (xM 2 CT Av PySem.F.slot_list_insert PySem.F.type_list_insert (eC (bu h0 bC hr (aP 0 (aE (dQ (aP 3 (aE (xI) a0))) a0))) (eC (xV 3) e0)))))) (ak (kE 2)))) PB.MP
noncomputable abbrev jQ:Stmt:=top 31
def cT:aN ["_law_purse_here","_law_many","_law_way","_law_found","_law_k","_law_near","_law_one","_law_other"] ["_law_purse_here","_law_many","_law_way"] (av jQ):=by ac_rfl
def xx(T:Txt K mg)(h0:iF P w K mg base)(r:Rec K "_law_pairs" jQ):nR P w K mg base:=
 bB T.ns r (by ac_nf) λF=>bP (m:=6) F cT rfl (by decide) (d:=fY tY) (λcdv A outer s H Ex hr=>have hu:=hr.units;af (aW 3 cT.nd (dF a0)) (af (iW RB cT.nd (PF T.range (aE (xI) (aP 1 a0))) (gN 4) (af (aW 5 cT.nd (bu h0 bC hr (aP 0 (aP 4 a0)))) (af (dZ (xM 3 c7 cN Rj Rk (eC (dS (aE (bD hu (aE (dF (aE (sI (aP 4 (aE (xI) a0))) (aE (sI (aP 4 (aE (xI) a0))) (aE (xI) (aP 5 a0))))) (aE (LN T.min (aP 2 (aE (xI) a0))) a0))) (aP 4 a0))) e0))) (ak (gB (bG.st (kr hu (aP 2 (aE (xI) a0)))) (ak (dZ (xM 3 qO rF PySem.F.slot_list_extend PySem.F.type_list_extend (eC (sQ (vs:=["_law_one"]) (NB:=["_law_one","_law_k"]) (ix:=[4]) (by rfl) (rO T.range (aP 4 a0)) (λ_ _ _ _=>gN 0) (λ_ _ _ _=>.nil) (λ_ _ _ _ _=>gR (dS (aP 0 (aP 1 a0))))) e0)))) (cu)))))) (vm (gB (bG.st (lM.tS (oA (kr hu (aP 2 (aE (xI) a0))) (jk (yb (aP 1 (aE (xI) a0))))))) (ak (dZ (xM 3 c7 cN Rj Rk (eC (dS (aE (xI) (aE (sI (aP 1 (aE (xI) a0))) a0))) e0)))) (cu)) (vm (gB (bG.st (yb (aP 2 (aE (xI) a0)))) (ak (iW RB cT.nd (rO T.range (aE (bu h0 bC hr (aP 0 (aE (xI) a0))) a0)) (gN 4) (af (aW 6 cT.nd (bu h0 bC hr (aP 0 (aP 1 a0)))) (af (aW 7 cT.nd (bu h0 bC hr (aP 0 (aP 1 a0)))) (ak (dZ (xM 3 qO rF PySem.F.slot_list_extend PySem.F.type_list_extend (eC (fZ (aE (dF (aE (dS (aP 6 (aP 7 a0))) a0)) (aE (Oo T.int (aE (P4 hu (aP 6 (aP 7 a0))) a0)) a0))) e0)))))))) (cu)) (ak (kE 3)))))) PB.Jj
noncomputable abbrev jA:Stmt:=top 33
def cU:aN ["_law_purse_here","_law_way","_law_many","_law_places","_law_found","_law_one","_law_other","_law_ends"] ["_law_purse_here"] (av jA):=by ac_rfl
def wJ(T:Txt K mg)(h0:iF P w K mg base)(h1:nk P w K mg base)(h2:nR P w K mg base)(r:Rec K "_law_shape" jA):ou P w K mg base:=
 bB T.ns r (by ac_nf) λF=>bP (m:=7) F cU rfl (by decide) (d:=fJ tY F7 Ae) (λcdv A outer s H Ex hr=>have hu:=hr.units;af (aW 1 cU.nd (bu h0 bC hr (aP 0 (aE (xI) a0)))) (af (aW 2 cU.nd (dQ (aE (xI) (aE (bu h0 bC hr (aP 0 (aE (xI) a0))) a0)))) (af (aW 3 cU.nd (bu h1 bC hr (aP 0 (aP 2 a0)))) (af (aW 4 cU.nd (dF a0)) (af (iW RB cU.nd (nH (bu h2 bC hr (aP 0 (aP 2 (aP 1 a0))))) (gT (gC 5 (gC 6 g0))) (af (aW 7 cU.nd (dS (aE (bD hu (aP 3 (aP 5 a0))) (aE (bD hu (aP 3 (aP 6 a0))) a0)))) (ak (gB (bG.st (Oq hu (aE (dS (aE (Gk T.min (aP 7 a0)) (aE (GH T.max (aP 7 a0)) a0))) (aP 4 a0)))) (ak (dZ (xM 4 c7 cN Rj Rk (eC (dS (aE (Gk T.min (aP 7 a0)) (aE (GH T.max (aP 7 a0)) a0))) e0)))) (cu))))) (ak (cS (dS (aE (dS (aP 2 (aE (IV T.tuple (aE (Mb T.sorted (aP 4 a0)) a0)) a0))) (aP 1 a0)))))))))) PB.IY
noncomputable abbrev jP:Stmt:=top 34
def vJ:aN ["_law_many","_law_way"] ["_law_many","_law_way"] (av jP):=by ac_rfl
def ve(T:Txt K mg)(r:Rec K "_law_ratio" jP):nI P w K mg base:=
 bB T.ns r (by ac_nf) λF=>bP (m:=0) F vJ rfl (by decide) (d:=f6) (λcdv A outer s H Ex hr=>have hu:=hr.units;af (gB (bG.st (kr hu (aP 0 (aE (xI) a0)))) (ak (cS (dS (aE (xI) (aE (xI) a0))))) (cu)) (af (gB (bG.st (lM.tS (w4 (kr hu (aP 0 (aE (xI) a0))) (w4 (kr hu (aP 1 (aE (xI) a0))) (jk (lM.tS (oA (kr hu (aP 1 (aE (xI) a0))) (jk (kr hu (aP 0 (aE (xI) a0))))))))))) (ak (cS (dS (aE (xI) (aE (xI) a0))))) (cu)) (af (gB (bG.st (kr hu (aP 1 (aE (xI) a0)))) (ak (cS (dS (aP 0 (aE (dQ (aE (sI (aP 0 (aE (xI) a0))) (aE (qt (aP 0 (aE (xI) a0))) a0))) a0))))) (cu)) (af (gB (bG.st (kr hu (aP 1 (aE (xI) a0)))) (ak (cS (dS (aE (sI (aP 0 (aE (xI) a0))) (aE (xI) a0))))) (cu)) (ak (cS (dS (aP 0 (aE (xI) a0))))))))) PB.Ly
noncomputable abbrev eS:Stmt:=top 20
def om:aN ["web"] ["web"] (av eS):=by ac_rfl
def nO(T:Txt K mg)(r:Rec K "refuse_too_many" eS):iI P w K mg base:=
 bB T.ns r (by ac_nf) λF=>bP (m:=0) F om rfl (by decide) (d:=fu) (λcdv A outer s H Ex hr=>have hu:=hr.units;ak (gB (bG.st (yb (aE (bD hu (aP 0 (aE (xI) a0))) (aE (xG T.xK) a0)))) (ak (Np)) (cu))) PB.Kh
noncomputable abbrev gz:Stmt:=top 17
def gM:aN ["pairs","firsts","one","other","parters"] ["pairs"] (av gz):=by ac_rfl
def rD(T:Txt K mg)(r:Rec K "unlike_pairs" gz):kB P w K mg base:=
 bB T.ns r (by ac_nf) λF=>bP (m:=4) F gM rfl (by decide) (d:=gZ) (λcdv A outer s H Ex hr=>have hu:=hr.units;af (aW 1 gM.nd (OW)) (af (iW RB gM.nd (nH (xV 0)) (gT (gC 2 (gC 3 (gC 4 g0)))) (ak (dZ (OQ 1 4 hu T.tuple (dS (aP 2 (aP 3 (aP 4 a0)))))))) (ak (cS (PU 1 T.list))))) PB.K7
noncomputable abbrev iS:Stmt:=top 22
def d9:aN ["pairs","many","rows","place","parted","left"] ["pairs","many"] (av iS):=by ac_rfl
def uG(T:Txt K mg)(r:Rec K "first_rows" iS):mX P w K mg base:=
 bB T.ns r (by ac_nf) λF=>bP (m:=7) F d9 rfl (by decide) (d:=jY) (λcdv A outer s H Ex hr=>have hu:=hr.units;af (aW 2 d9.nd (dF a0)) (af (iW RB d9.nd (rO T.range (aP 1 a0)) (gN 3) (af (v9 (j:=4) d9.nd (vs:=["one","other","parters"]) (NB:=["one","other","parters","place"]) (ix:=[3]) (by rfl) (nH (xV 0)) (λ_ _ _ _=>gT (gC 0 (gC 1 (gC 2 g0)))) (λ_ _ _ _=>.nil) (λ_ _ _ _ _=>gR (uL (bG.st (Pp hu (aP 3 (aP 2 a0)))) (xI) (xI)))) (af (v9 (j:=5) d9.nd (vs:=["another"]) (NB:=["another","place"]) (ix:=[3]) (by rfl) (rO T.range (aP 1 a0)) (λ_ _ _ _=>gN 0) (λ_ _ _ _=>.nil) (λ_ _ _ _ _=>gR (uL (bG.st (kr hu (aP 1 (aP 0 a0)))) (xI) (xI)))) (ak (dZ (xM 2 c7 cN Rj Rk (eC (dQ (aE (dQ (aP 4 (aP 5 a0))) (aE (dF (aE (xI) a0)) a0))) e0))))))) (ak (cS (dQ (aP 2 (aE (dF (aE (dQ (aE (fZ (aE (dF (aE (kR (aE (xI) a0)) a0)) (aE (qa T.len (aP 0 a0)) a0))) (aE (fZ (aE (dF (aE (xI) a0)) (aE (dQ (aP 1 (aE (xI) a0))) a0))) a0))) a0)) a0))))))) PB.Jl
noncomputable abbrev iT:Stmt:=top 25
def iR:aN ["rows","base","column","place","best","mine","other"] ["rows","base","column","place","best"] (av iT):=by ac_rfl
def uy(T:Txt K mg)(r:Rec K "is_tighter" iT):m8 P w K mg base:=
 bB T.ns r (by ac_nf) λF=>bP (m:=2) F iR rfl (by decide) (d:=jB) (λcdv A outer s H Ex hr=>have hu:=hr.units;af (aW 5 iR.nd (fZ (aE (bD hu (aE (bD hu (aP 0 (aP 3 a0))) (aE (kR (aE (xI) a0)) a0))) (aE (bD hu (aE (bD hu (aP 0 (aP 4 a0))) (aP 2 a0))) a0)))) (af (aW 6 iR.nd (fZ (aE (bD hu (aE (bD hu (aP 0 (aP 4 a0))) (aE (kR (aE (xI) a0)) a0))) (aE (bD hu (aE (bD hu (aP 0 (aP 3 a0))) (aP 2 a0))) a0)))) (ak (cS (Mr (NF (aP 5 (aP 6 a0))) (Cz (JB (N7 hu (aP 5 (aP 6 a0))) (Cz (NF (aE (bD hu (aP 1 (aP 3 a0))) (aE (bD hu (aP 1 (aP 4 a0))) a0))))))))))) PB.K4
noncomputable abbrev kI:Stmt:=top 24
def iC:aN ["rows","base","column","best","place"] ["rows","base","column"] (av kI):=by ac_rfl
def xC(T:Txt K mg)(h0:m8 P w K mg base)(r:Rec K "tightest" kI):pA P w K mg base:=
 bB T.ns r (by ac_nf) λF=>bP (m:=2) F iC rfl (by decide) (d:=mF Af) (λcdv A outer s H Ex hr=>have hu:=hr.units;af (aW 3 iC.nd (xN)) (af (iW RB iC.nd (rO T.range (aE (qa T.len (aP 1 a0)) a0)) (gN 4) (ak (gB (bG.st (lM.tS (oA (yb (aE (bD hu (aE (bD hu (aP 0 (aP 4 a0))) (aP 2 a0))) (aE (xI) a0))) (jk (lM.tS (w4 (NJ (aP 3 (aE (xN) a0))) (jk (NO (bu h0 bC hr (aP 0 (aP 1 (aP 2 (aP 4 (aP 3 a0)))))))))))))) (ak (aW 3 iC.nd (xV 4))) (cu)))) (ak (kE 3)))) PB.JD
noncomputable abbrev nG:Stmt:=top 26
def j8:aN ["rows","bottom","place","column","pivot","after","at","line"] ["rows","bottom","place","column"] (av nG):=by ac_rfl
def Ck(T:Txt K mg)(r:Rec K "turned" nG):ux P w K mg base:=
 bB T.ns r (by ac_nf) λF=>bP (m:=6) F j8 rfl (by decide) (d:=qg) (λcdv A outer s H Ex hr=>have hu:=hr.units;af (aW 4 j8.nd (bD hu (aP 0 (aP 2 a0)))) (af (aW 5 j8.nd (dF a0)) (af (iW RB j8.nd (Au T.enumerate (xV 0)) (gT (gC 6 (gC 7 g0))) (ak (gB (bG.st (kr hu (aP 6 (aP 2 a0)))) (ak (dZ (xM 5 c7 cN Rj Rk (eC (xV 4) e0)))) (ak (dZ (xM 5 c7 cN Rj Rk (eC (sQ (vs:=["entry","mine"]) (NB:=["entry","mine","pivot","column","line","bottom"]) (ix:=[4,3,7,1]) (by rfl) (z9 T.zip (xV 7) (xV 4)) (λ_ _ _ _=>gT (gC 0 (gC 1 g0))) (λ_ _ _ _=>.nil) (λ_ _ _ _ _=>gR (Le (aE (sI (aE (fZ (aP 0 (aE (bD hu (aP 2 (aP 3 a0))) a0))) (aE (fZ (aE (bD hu (aP 4 (aP 3 a0))) (aP 1 a0))) a0))) (aP 5 a0))))) e0))))))) (ak (kE 5))))) PB.Jp
noncomputable abbrev gW:Stmt:=top 23
def bS:aN ["pairs","many","rows","base","bottom","column","place"] ["pairs","many"] (av gW):=by ac_rfl
def sr(T:Txt K mg)(h0:mX P w K mg base)(h1:pA P w K mg base)(h2:ux P w K mg base)(r:Rec K "best_prices" gW):lH P w K mg base:=
 bB T.ns r (by ac_nf) λF=>bP (m:=7) F bS rfl (by decide) (d:=iX As zV zF) (λcdv A outer s H Ex hr=>have hu:=hr.units;af (aW 2 bS.nd (bu h0 bC hr (aP 0 (aP 1 a0)))) (af (v9 (j:=3) bS.nd (vs:=["place"]) (NB:=["place","pairs"]) (ix:=[0]) (by rfl) (rO T.range (aP 1 a0)) (λ_ _ _ _=>gN 0) (λ_ _ _ _=>.nil) (λ_ _ _ _ _=>gR (dQ (aE (qa T.len (aP 1 a0)) (aP 0 a0))))) (af (aW 4 bS.nd (xI)) (af (BL RB (bG.st (FQ (aE (MF T.min (aE (Cf (aE (bD hu (aP 2 (aE (kR (aE (xI) a0)) a0))) (aE (kR (aE (xI) a0)) a0))) a0)) (aE (xI) a0)))) (af (aW 5 bS.nd (bD hu (aE (sQ (vs:=["at","gain"]) (NB:=["at","gain"]) (ix:=[]) (by rfl) (Au T.enumerate (Cf (aE (bD hu (aP 2 (aE (kR (aE (xI) a0)) a0))) (aE (kR (aE (xI) a0)) a0)))) (λ_ _ _ _=>gT (gC 0 (gC 1 g0))) (λ_ _ _ _=>.one (bG.st (FQ (aP 1 (aE (xI) a0))))) (λ_ _ _ _ _=>gR (xV 0))) (aE (xI) a0)))) (af (aW 6 bS.nd (bu h1 bC hr (aP 2 (aP 3 (aP 5 a0))))) (af (aW 2 bS.nd (bu h2 bC hr (aP 2 (aP 4 (aP 6 (aP 5 a0)))))) (af (aW 4 bS.nd (bD hu (aE (bD hu (aP 2 (aP 6 a0))) (aP 5 a0)))) (ak (zA 3 hu (xV 5) (xV 6)))))))) (ak (cS (dS (aP 4 (aP 3 (aP 2 a0)))))))))) PB.J7
noncomputable abbrev eZ:Stmt:=top 7
def nU:aN ["web","place"] ["web","place"] (av eZ):=by ac_rfl
def nS(T:Txt K mg)(r:Rec K "refuse_no_place" eZ):iM P w K mg base:=
 bB T.ns r (by ac_nf) λF=>bP (m:=0) F nU rfl (by decide) (d:=fD) (λcdv A outer s H Ex hr=>have hu:=hr.units;ak (gB (O4 (bG.st (Cw Nv AN rfl (xI) (xV 1) (bD hu (aP 0 (aE (xI) a0)))))) (ak (Hv T.IB)) (cu))) PB.Ji
noncomputable abbrev eT:Stmt:=top 5
def dh:aN ["web","many","ties","lists","one","other"] ["web"] (av eT):=by ac_rfl
def nZ(T:Txt K mg)(r:Rec K "neighbour_lists" eT):iO P w K mg base:=
 bB T.ns r (by ac_nf) λF=>bP (m:=6) F dh rfl (by decide) (d:=fB) (λcdv A outer s H Ex hr=>af (qq dh.nd (gC 1 (gC 2 g0)) (xV 0)) (af (OD (j:=3) dh.nd (vs:=["place"]) (NB:=["place"]) (ix:=[]) (by rfl) (rO T.range (aP 1 a0)) (λ_ _ _ _=>gN 0) (λ_ _ _ _=>.nil) (λ_ _ _ _=>dF a0)) (af (iW RB dh.nd (nH (xV 2)) (gT (gC 4 (gC 5 g0))) (af (dZ (N8 3 5 c7 cN Rj Rk (xV 4))) (ak (dZ (N8 3 4 c7 cN Rj Rk (xV 5)))))) (ak (kE 3))))) PB.Jy
noncomputable abbrev gQ:Stmt:=top 6
def bL:aN ["web","place","lists","fars","edge","reached","here","there"] ["web","place"] (av gQ):=by ac_rfl
def q9(T:Txt K mg)(h0:iO P w K mg base)(r:Rec K "fars_or_none" gQ):ku P w K mg base:=
 bB T.ns r (by ac_nf) λF=>bP (m:=6) F bL rfl (by decide) (d:=ie AV) (λcdv A outer s H Ex hr=>have hu:=hr.units;af (aW 2 bL.nd (bu h0 bC hr (aP 0 a0))) (af (aW 3 bL.nd (fZ (aE (dF (aE (xN) a0)) (aE (bD hu (aP 0 (aE (xI) a0))) a0)))) (af (zA 3 hu (xI) (xV 1)) (af (aW 4 bL.nd (dF (aP 1 a0))) (af (BL RB (tV 4) (af (aW 5 bL.nd (dF a0)) (af (iW RB bL.nd (nH (xV 4)) (gN 6) (ak (iW RB bL.nd (nH (bD hu (aP 2 (aP 6 a0)))) (gN 7) (ak (gB (bG.st (NJ (aE (bD hu (aP 3 (aP 7 a0))) (aE (xN) a0)))) (af (zA 3 hu (dQ (aE (bD hu (aP 3 (aP 6 a0))) (aE (xI) a0))) (xV 7)) (ak (dZ (xM 5 c7 cN Rj Rk (eC (xV 7) e0))))) (cu)))))) (ak (aW 4 bL.nd (xV 5)))))) (ak (kE 3))))))) PB.LK
noncomputable abbrev jX:Stmt:=top 8
def vF:aN ["web","place"] ["web","place"] (av jX):=by ac_rfl
def uZ(T:Txt K mg)(h0:iM P w K mg base)(h1:ku P w K mg base)(r:Rec K "fars_from" jX):nL P w K mg base:=
 bB T.ns r (by ac_nf) λF=>bP (m:=0) F vF rfl (by decide) (d:=kG zN zL) (λcdv A outer s H Ex hr=>af (dZ (bu h0 bC hr (aP 0 (aP 1 a0)))) (ak (cS (bu h1 bC hr (aP 0 (aP 1 a0)))))) PB.LL
noncomputable abbrev kM:Stmt:=top 13
def xA:aN ["web"] ["web"] (av kM):=by ac_rfl
def xE(T:Txt K mg)(h0:nL P w K mg base)(r:Rec K "far_rows" kM):pM P w K mg base:=
 bB T.ns r (by ac_nf) λF=>bP (m:=1) F xA rfl (by decide) (d:=mU Ac) (λcdv A outer s H Ex hr=>have hu:=hr.units;ak (cS (sQ (vs:=["place"]) (NB:=["place","web"]) (ix:=[0]) (by rfl) (rO T.range (aE (bD hu (aP 0 (aE (xI) a0))) a0)) (λ_ _ _ _=>gN 0) (λ_ _ _ _=>.nil) (λ_ _ _ _ _=>gR (bu h0 uH hr (aP 1 (aP 0 a0))))))) PB.Jq
noncomputable abbrev jO:Stmt:=top 11
def gF:aN ["web","kind","many","ties","places","joins"] ["web","kind"] (av jO):=by ac_rfl
def vz(T:Txt K mg)(r:Rec K "things_of" jO):nQ P w K mg base:=
 bB T.ns r (by ac_nf) λF=>bP (m:=4) F gF rfl (by decide) (d:=kW) (λcdv A outer s H Ex hr=>have hu:=hr.units;af (qq gF.nd (gC 2 (gC 3 g0)) (xV 0)) (af (aW 4 gF.nd (uL (bG.st (kr hu (aP 1 (aE (xS) a0)))) (dF a0) (IZ T.list T.range (aP 2 a0)))) (af (aW 5 gF.nd (uL (bG.st (kr hu (aP 1 (aE (xS) a0)))) (dF a0) (MM T.list (aP 3 a0)))) (ak (cS (dQ (aP 4 (aP 5 a0)))))))) PB.KD
noncomputable abbrev iV:Stmt:=top 9
def uD:aN ["fars","tie"] ["fars","tie"] (av iV):=by ac_rfl
def uE(T:Txt K mg)(r:Rec K "nearer_end" iV):nh P w K mg base:=
 bB T.ns r (by ac_nf) λF=>bP (m:=0) F uD rfl (by decide) (d:=jS) (λcdv A outer s H Ex hr=>have hu:=hr.units;ak (cS (LN T.min (aE (bD hu (aP 0 (aE (bD hu (aP 1 (aE (xI) a0))) a0))) (aE (bD hu (aP 0 (aE (bD hu (aP 1 (aE (xI) a0))) a0))) a0))))) PB.LJ
noncomputable abbrev jC:Stmt:=top 12
def uU:aN ["fars","thing"] ["fars","thing"] (av jC):=by ac_rfl
def vS(T:Txt K mg)(h0:nh P w K mg base)(r:Rec K "thing_far" jC):nJ P w K mg base:=
 bB T.ns r (by ac_nf) λF=>bP (m:=0) F uU rfl (by decide) (d:=kL AM) (λcdv A outer s H Ex hr=>have hu:=hr.units;af (gB (bG.st (NO (OO T.kit T.isinstance T.int PyProof.Rows.boot_int (aP 1 a0)))) (ak (cS (bD hu (aP 0 (aP 1 a0))))) (cu)) (ak (cS (bu h0 bC hr (aP 0 (aP 1 a0)))))) PB.Mi
noncomputable abbrev iZ:Stmt:=top 14
def uB:aN ["rows","one","other"] ["rows","one","other"] (av iZ):=by ac_rfl
def uz(T:Txt K mg)(h0:nJ P w K mg base)(r:Rec K "parters_by" iZ):m7 P w K mg base:=
 bB T.ns r (by ac_nf) λF=>bP (m:=2) F uB rfl (by decide) (d:=jU zW) (λcdv A outer s H Ex hr=>have hu:=hr.units;ak (cS (sQ (vs:=["place","fars"]) (NB:=["place","fars","one","other"]) (ix:=[1,2]) (by rfl) (Au T.enumerate (xV 0)) (λ_ _ _ _=>gT (gC 0 (gC 1 g0))) (λ_ _ _ _=>.one (bG.st (LI hu (aE (bu h0 uH hr (aP 1 (aP 2 a0))) (aE (bu h0 uH hr (aP 1 (aP 3 a0))) a0))))) (λ_ _ _ _ _=>gR (xV 0))))) PB.JI
noncomputable abbrev kH:Stmt:=top 16
def eu:aN ["web","kind","rows","things","pairs","at","one"] ["web","kind"] (av kH):=by ac_rfl
def xP(T:Txt K mg)(h0:pM P w K mg base)(h1:nQ P w K mg base)(h2:m7 P w K mg base)(r:Rec K "pairs_of" kH):pQ P w K mg base:=
 bB T.ns r (by ac_nf) λF=>bP (m:=6) F eu rfl (by decide) (d:=mC AQ Aa AF) (λcdv A outer s H Ex hr=>af (aW 2 eu.nd (bu h0 bC hr (aP 0 a0))) (af (aW 3 eu.nd (bu h1 bC hr (aP 0 (aP 1 a0)))) (af (aW 4 eu.nd (dF a0)) (af (iW RB eu.nd (Au T.enumerate (xV 3)) (gT (gC 5 (gC 6 g0))) (ak (OL 4 eu.nd (sQ (vs:=["other"]) (NB:=["other","one","rows"]) (ix:=[6,2]) (by rfl) (nH (IW (aP 3 (aE (dQ (aP 5 (aE (xI) a0))) a0)))) (λ_ _ _ _=>gN 0) (λ_ _ _ _=>.nil) (λ_ _ _ _ _=>gR (dS (aP 1 (aP 0 (aE (bu h2 uH hr (aP 2 (aP 1 (aP 0 a0)))) a0))))))))) (ak (kE 4)))))) PB.J9
noncomputable abbrev jR:Stmt:=top 21
def cR:aN ["web","kind","pairs","bottom","base","rows","goal","shares","priced","prices"] ["web","kind"] (av jR):=by ac_rfl
def wF(T:Txt K mg)(h0:iI P w K mg base)(h1:kB P w K mg base)(h2:pQ P w K mg base)(h3:lH P w K mg base)(r:Rec K "shares_of" jR):nv P w K mg base:=
 bB T.ns r (by ac_nf) λF=>bP (m:=10) F cR rfl (by decide) (d:=kP Am AU zK zI) (λcdv A outer s H Ex hr=>have hu:=hr.units;af (dZ (bu h0 bC hr (aP 0 a0))) (af (aW 2 cR.nd (bu h1 bC hr (aE (bu h2 bC hr (aP 0 (aP 1 a0))) a0))) (af (qq cR.nd (gC 3 (gC 4 (gC 5 g0))) (bu h3 bC hr (aP 2 (aE (bD hu (aP 0 (aE (xI) a0))) a0)))) (af (aW 6 cR.nd (bD hu (aP 5 (aE (kR (aE (xI) a0)) a0)))) (af (aW 7 cR.nd (LS (aP 6 (aE (qa T.len (aP 2 a0)) (aE (kR (aE (xI) a0)) a0))))) (af (v9 (j:=8) cR.nd (vs:=["at","line"]) (NB:=["at","line","pairs"]) (ix:=[2]) (by rfl) (z9 T.zip (xV 4) (xV 5)) (λ_ _ _ _=>gT (gC 0 (gC 1 g0))) (λ_ _ _ _=>.one (bG.st (FQ (aP 0 (aE (qa T.len (aP 2 a0)) a0))))) (λ_ _ _ _ _=>gR (dS (aP 0 (aE (bD hu (aP 1 (aE (kR (aE (xI) a0)) a0))) a0))))) (af (v9 (j:=9) cR.nd (vs:=["at","price"]) (NB:=["at","price","pairs"]) (ix:=[2]) (by rfl) (nH (xV 8)) (λ_ _ _ _=>gT (gC 0 (gC 1 g0))) (λ_ _ _ _=>.one (bG.st (yb (aP 1 (aE (xI) a0))))) (λ_ _ _ _ _=>gR (dS (aE (bD hu (aE (bD hu (aP 2 (aP 0 a0))) (aE (xI) a0))) (aE (bD hu (aE (bD hu (aP 2 (aP 0 a0))) (aE (xI) a0))) (aP 1 a0)))))) (ak (cS (dS (aP 3 (aP 7 (aP 9 a0))))))))))))) PB.Kr
noncomputable abbrev jJ:Stmt:=top 28
def eO:aN ["_law_script","_law_k","_law_cell","_law_number"] ["_law_script","_law_k"] (av jJ):=by ac_rfl
def wK(T:Txt K mg)(r:Rec K "_law_purse" jJ):n5 P w K mg base:=
 bB T.ns r (by ac_nf) λF=>bP (m:=2) F eO rfl (by decide) (d:=f9) (λcdv A outer s H Ex hr=>have hu:=hr.units;af (aW 2 eO.nd (xI)) (vm (gB (bG.st (FQ (aP 1 (aE (qa T.len (aP 0 a0)) a0)))) (ak (aW 2 eO.nd (bD hu (aP 0 (aP 1 a0))))) (ak (gB (bG.st (LI hu (aP 0 (aE (dF a0) a0)))) (ak (aW 2 eO.nd (dQ (aE (qt (aE (bD hu (aP 0 (aE (qt (aP 1 (aE (qa T.len (aP 0 a0)) a0))) a0))) (aE (xI) a0))) (aE (fZ (aE (xI) (aP 1 a0))) a0))))) (cu)))) (af (gB (bG.st (O7 (aP 2 (aE (zM (aE (xI) (aE (xI) a0))) a0)))) (ak (cS (dF (aP 2 a0)))) (cu)) (af (aW 3 eO.nd (qt (aE (MO (aE (dQ (aE (dQ (aE (qt (aP 2 (aE (dQ (aE (zM (aE (xI) (aE (xI) a0))) (aE (xI) a0))) a0))) (aE (fZ (aE (xI) (aP 1 a0))) a0))) (aE (xI) a0))) (aE (xI) a0))) (aE (dQ (aE (zM (aE (xI) (aE (xI) a0))) (aE (xI) a0))) a0)))) (ak (cS (dF (aE (qt (aE (Nu (aE (dQ (aE (dQ (aP 3 (aE (fZ (aE (xI) (aP 1 a0))) a0))) (aE (xI) a0))) (aE (xI) a0))) (aE (dQ (aE (zM (aE (xI) (aE (xI) a0))) (aE (xI) a0))) a0))) a0)))))))) PB.Jz
noncomputable abbrev vX:Stmt:=top 35
def lG:aN ["_law_script","_law_web_here","_law_way","_law_many","_law_above","_law_below","_law_bottom","_law_shares","_law_prices"] ["_law_script"] (av vX):=by ac_rfl
def J2(T:Txt K mg)(h0:ou P w K mg base)(h1:n5 P w K mg base)(h2:nI P w K mg base)(h3:nv P w K mg base){f:Addr}{fd:FuncData}(F:qM K "law" "law" vX f fd):fH P w K mg base (dY P w) 7 f fd ["_law_script"] (b8 mg K [false] sR):=
 bP (m:=8) F lG rfl (by decide) (d:=mO zQ AH AA zC) (λcdv A outer s H Ex hr=>have hu:=hr.units;af (qq lG.nd (gC 1 (gC 2 g0)) (Kw h0 bC hr (a0) (bu h1 bC hr (aP 0 (aE (xI) a0))) (a0))) (af (aW 3 lG.nd (bD hu (aP 1 (aE (xI) a0)))) (af (qq lG.nd (gC 4 (gC 5 g0)) (bu h2 bC hr (aP 3 (aP 2 a0)))) (af (qq lG.nd (gC 6 (gC 7 (gC 8 g0))) (bu h3 bC hr (aP 1 (aE (xS) a0)))) (af (gB (bG.st (LI hu (aE (fZ (aE (KN T.sum (aP 7 a0)) (aP 5 a0))) (aE (fZ (aP 4 (aP 6 a0))) a0)))) (ak (cS (xB))) (cu)) (af (gB (bG.st (lM.tS (oA (kr hu (aP 2 (aE (xI) a0))) (jk (yb (aP 3 (aE (xI) a0))))))) (af (qq lG.nd (gC 6 (gC 7 (gC 8 g0))) (bu h3 bC hr (aP 1 (aE (xS) a0)))) (ak (cS (N7 hu (aE (fZ (aE (KN T.sum (aP 7 a0)) (aP 5 a0))) (aE (fZ (aP 4 (aP 6 a0))) a0)))))) (cu)) (ak (cS (xB))))))))) PB.Eh
end
def all_mk{l:OpenLaw}{w:World}{K:Frag}{h:Heap}{mg:Us}{fa:Addr}(X:K.In h)(G:h.Ns mainGlobals mg)(hfa:mg "law"=some (.ref fa))(qd00:Rec K "_law_take" kO)(qd01:Rec K "_law_order" jt)(qd02:Rec K "_law_pairs" jQ)(qd03:Rec K "_law_shape" jA)(qd04:Rec K "_law_ratio" jP)(qd05:Rec K "refuse_too_many" eS)(qd06:Rec K "unlike_pairs" gz)(qd07:Rec K "first_rows" iS)(qd08:Rec K "is_tighter" iT)(qd09:Rec K "tightest" kI)(qd10:Rec K "turned" nG)(qd11:Rec K "best_prices" gW)(qd12:Rec K "refuse_no_place" eZ)(qd13:Rec K "neighbour_lists" eT)(qd14:Rec K "fars_or_none" gQ)(qd15:Rec K "fars_from" jX)(qd16:Rec K "far_rows" kM)(qd17:Rec K "things_of" jO)(qd18:Rec K "nearer_end" iV)(qd19:Rec K "thing_far" jC)(qd20:Rec K "parters_by" iZ)(qd21:Rec K "pairs_of" kH)(qd22:Rec K "shares_of" jR)(qd23:Rec K "_law_purse" jJ)(qd24:Rec K "law" vX)(zenumerate:nsIn K mainGlobals "enumerate"=some none)(zint:nsIn K mainGlobals "int"=some none)(zisinstance:nsIn K mainGlobals "isinstance"=some none)(zlen:nsIn K mainGlobals "len"=some none)(zlist:nsIn K mainGlobals "list"=some none)(zmax:nsIn K mainGlobals "max"=some none)(zmin:nsIn K mainGlobals "min"=some none)(zrange:nsIn K mainGlobals "range"=some none)(zsorted:nsIn K mainGlobals "sorted"=some none)(zsum:nsIn K mainGlobals "sum"=some none)(ztuple:nsIn K mainGlobals "tuple"=some none)(zzip:nsIn K mainGlobals "zip"=some none)(gMOST_SHARED:∃t,nsIn K mainGlobals "MOST_SHARED"=some (some (.int 7 t)))(xNoPlace:Ll K "NoPlace")(kit:vI K ["int"]=true) : ∃fd:FuncData,(∀(s:Shared)(v:Value),BindsTo s fd ⟨[v],[]⟩ [("_law_script",v)])/\∀base:Heap,K.In base->base.Ns mainGlobals mg->fH l.prog w K mg base (dY l.prog w) 7 fa fd ["_law_script"] (b8 mg K [false] sR):=by have T:Txt K mg:=⟨RN X G zenumerate,RN X G zint,RN X G zisinstance,RN X G zlen,RN X G zlist,RN X G zmax,RN X G zmin,RN X G zrange,RN X G zsorted,RN X G zsum,RN X G ztuple,RN X G zzip,(let⟨t,ht⟩:=gMOST_SHARED;⟨t,mg_of X G ht⟩),(let⟨C,h1,h2⟩:=xNoPlace;⟨C,mg_of X G h1,h2⟩),kit,⟨h,X,G⟩⟩;obtain⟨fl,fdl,nl,Fl⟩:=qd24;have e:=hfa.symm.trans (mg_of X G nl);cases e;refine⟨fdl,?_,λbase _ _=>?_⟩;{obtain⟨_,_,_,_,_,_,_,_,_,rfl,_,_⟩:=Fl.ex;exact λs v=>.of_eq rfl};have Hd00:=xD (P:=l.prog) (w:=w) (base:=base) T qd00;have Hd01:=xw T Hd00 qd01;have Hd02:=xx T Hd00 qd02;have Hd03:=wJ T Hd00 Hd01 Hd02 qd03;have Hd04:=ve (P:=l.prog) (w:=w) (base:=base) T qd04;have Hd05:=nO (P:=l.prog) (w:=w) (base:=base) T qd05;have Hd06:=rD (P:=l.prog) (w:=w) (base:=base) T qd06;have Hd07:=uG (P:=l.prog) (w:=w) (base:=base) T qd07;have Hd08:=uy (P:=l.prog) (w:=w) (base:=base) T qd08;have Hd09:=xC T Hd08 qd09;have Hd10:=Ck (P:=l.prog) (w:=w) (base:=base) T qd10;have Hd11:=sr T Hd07 Hd09 Hd10 qd11;have Hd12:=nS (P:=l.prog) (w:=w) (base:=base) T qd12;have Hd13:=nZ (P:=l.prog) (w:=w) (base:=base) T qd13;have Hd14:=q9 T Hd13 qd14;have Hd15:=uZ T Hd12 Hd14 qd15;have Hd16:=xE T Hd15 qd16;have Hd17:=vz (P:=l.prog) (w:=w) (base:=base) T qd17;have Hd18:=uE (P:=l.prog) (w:=w) (base:=base) T qd18;have Hd19:=vS T Hd18 qd19;have Hd20:=uz T Hd19 qd20;have Hd21:=xP T Hd16 Hd17 Hd20 qd21;have Hd22:=wF T Hd05 Hd06 Hd21 Hd11 qd22;have Hd23:=wK (P:=l.prog) (w:=w) (base:=base) T qd23;exact J2 T Hd03 Hd23 Hd04 Hd22 Fl
def walk{l:OpenLaw}{q:Program}{loose:VL}{XP:(Us)->Heap->Prop}{YP:World->Heap->Prop}{d:DefRec}{K:Params->Frag}(hn:l.most=some 63)(hdf:d.params.defaults=[])(hY:∀(w:World)(h:Heap),YP w h->(K w.params).In h)(F:∀(w:World)(mg:Us)(fa:Addr)(h:Heap),(K w.params).In h->h.Ns mainGlobals mg->mg d.name=some (.ref fa)-> ∃fd:FuncData,(∀(s:Shared)(u:Value),BindsTo s fd ⟨[u],[]⟩ [("_law_script",u)])/\∀base:Heap,(K w.params).In base->base.Ns mainGlobals mg->fH l.prog w (K w.params) mg base (dY l.prog w) 7 fa fd ["_law_script"] (b8 mg (K w.params) [false] sR)) : WalkO q loose XP YP l.row.toRowW d [] (λf vs=>PySem.call f vs):=B8 hn hdf ⟨rfl,by decide,by decide⟩ hY F
end Me
open PySem PySem.W PyProof.Rows Dv
set_option maxRecDepth 100000 in
set_option maxHeartbeats 0 in
theorem PySem.Challenge.cw_farhail_k49_whole_shares_of_known_webs_holds : PySem.Challenge.rw_farhail_k49_whole_shares_of_known_webs.Holds := by
 w_on;o_law;k_head;(case hw=>w_witness2)
 k_fill
 refine Me.walk (l:=PySem.Challenge.rw_farhail_k49_whole_shares_of_known_webs) rfl rfl (λw h VN=>PySem.W.kIn_of VN) ?F
 case F=>
  intro w mg fa h KX G hmg
  refine' Me.all_mk KX G hmg ?_ ?_ ?_ ?_ ?_ ?_ ?_ ?_ ?_ ?_ ?_ ?_ ?_ ?_ ?_ ?_ ?_ ?_ ?_ ?_ ?_ ?_ ?_ ?_ ?_ ?_ ?_ ?_ ?_ ?_ ?_ ?_ ?_ ?_ ?_ ?_ ?_ ?_ ?_ ?_
  iterate 25
   apply LW
   iterate 4 (first|k_is|kernel_rfl)
  iterate 13
   first|k_is|kernel_rfl|(apply Exists.intro;first|k_is|kernel_rfl)
  iterate 1
   apply Hh
   iterate 2 (first|k_is|kernel_rfl)
  all_goals first|kernel_rfl|k_is
