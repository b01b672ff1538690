import PyProof.Rows.All
import PySem.PyData
import Wide.All
import OpenK.AllK
import Wide.FinOn
import Lean
import PyProof.EqAt
import PyProof.EqKinds
import PyProof.TupleCall
import PyProof.SetKind
import PyProof.TupleKey
import PyProof.IsRules
import PyProof.SetRoads
import PyProof.DictKinds
import PyProof.RaisesMany
import PyProof.RulesTry
import PyProof.ExcClass2
import KE.KTryMore
import PyProof.RulesAs
import PyProof.NsDelKeeps
import KE.KDictList
import PyProof.P3In
import PyProof.Rows.SortShellK
import PyProof.TupleOfSeq
import PyProof.WalkInts
import PyProof.SeqI3
import PyProof.SumAnyB
import PyProof.Rows.SeqWords
import PyProof.ListRange
import PyProof.DictValues
import PyProof.DictWalks
import PyProof.NeKinds
import PyProof.FactsAll.list_2
import PyProof.EvalArms
import PyProof.Rows.SetObj
import KE.KRevIter
import PyProof.Rows.IntMath
import PyProof.Draws
import PyProof.ZipIter
import PyProof.EnumMake
import Wide.Seal
import PyProof.FactsAll.tuple_1
import PySem.Challenge.RW_farhail_k51_whole_shares_numbered_otherw
inductive PySem.W.Fast:Prop|tw2768668322348828616|tw16974560208095423778|tw16217057771911634351|tw1928840807040717863|tw12842819341988986235|tw17934657785374203639|tw7676925313554321165|tw8534400923719360730|tw12831669094040658437|tw11535435271217885322|tw384196825814543231|tw12942557472422070515|tw14435900991492954863|tw10097983012351208921|tw1662127480079059797|tw13206911224477452609|tw12781335293437936388|tw16230718279764599191|tw10333603181624648287|tw7283576313767132034|tw15809894916190004718|tw3981796967270722226|tw5871778810394239733|tw5462107379582652302|tw13502412102825696049|tw760190497612101710|tw8049683034554292518|tw9331781595800916648|tw16248868334814176990|tw4838885374234704614|tw12039233896693005841|tw14782639773209143940|tw8490464514912195419|tw15623514423576205321|tw7051138470674730035|tw14164005686188336070|tw1361966662467193003|tw9216798983167150012|tw13939039056261619075|tw12603598946079661041|tw10376942325333993323|tw10754107190664478737|tw14863571610219558025|tw956102288500499827|tw16405892952569720017|tw6626465266811029040|tw238676343936197692|tw13948093779783955645|tw16098869853392830342|tw11191683509708206025|tw12122915047937152509|tw10746657128808084344|tw4766959848567012227|tw5863961706235868913|tw2666014752469025274|tw1517517194572134203|tw15134269112573264798|tw8736499910310226653|tw10932459566182722539|tw5234948433489704027
set_option linter.all false
local macro_rules | `(tactic| nofun) => `(tactic| first|exact Or.inl rfl|exact Or.inr (Or.inl rfl)|exact Or.inr (Or.inr rfl))
local macro_rules | `(tactic| ac_rfl) => `(tactic| exact⟨rfl,rfl,rfl,by decide +kernel,rfl,by decide +kernel,by decide +kernel⟩)
set_option genSizeOf false
set_option genInjectivity false
section
open PySem
abbrev Zl:=List (PyData×PyData)
abbrev Zm:=Array (Option Value)
abbrev Zn:=Value->Shared->Prop
abbrev Zo:=List Comprehension
abbrev Zp:=Str->Option Value
abbrev Zq:=List (Addr×Obj)
abbrev Zr:=Array DictEntry
abbrev Zs:=Int->Int->Bool
abbrev Zt:=List (Nat×Nat)
abbrev Zu:=List (Int×Int)
abbrev Zv:=PySem.W.Frag
abbrev Zw:=Option Value
abbrev Zx:=Array Value
abbrev Zy:=List PyData
abbrev Zz:=Option Addr
abbrev A00:=List Value
abbrev A01:=List Addr
abbrev A02:=List Bool
abbrev A03:=List Expr
abbrev A04:=List Stmt
abbrev A05:=List Nat
abbrev A06:=List Int
abbrev A07:=List Str
end
section
open PySem PySem.Spec PyProof.Rows PySem.W
def V0:=@wpAny_bind
def V1:=@wpAny_pure
def V2:=@List.length_map
def V3:=@List.mem_cons_self
def V4:=@Nat.le_refl
def V5:=@List.mem_map
def V6:=@List.mem_singleton
def V7:=@List.map_map
def V8:=@List.mem_cons_of_mem
def V9:=@List.length_range
def VA:=@List.getElem?_map
def VB:=@Bool.and_eq_true
def VC:=@Heap.lt_size
def VD:=@List.mem_range
def VE:=@wpS_bind
def VF:=@List.mem_cons
def VG:=@List.getElem?_eq_getElem
def VH:=@List.getD_eq_getElem?_getD
def VI:=@List.length_append
def VJ:=@List.map_append
def VL:=@List.all_cons
def VM:=@List.size_toArray
def VN:=@List.getElem?_range
def VO:=@Nat.ne_of_lt
def VP:=@List.map_cons
def VQ:=@Bool.false_ne_true
def VR:=@List.length_cons
def VS:=@Heap.get?_push_of_some
def VT:=@wpS_pure
def VU:=@List.mem_append
def VV:=@List.mem_of_getElem?
def VW:=@List.all_eq_true
def VX:=@Nat.le_trans
def VY:=@List.length_set
def VZ:=@List.getElem?_eq_none
def Vt:=@Nat.lt_of_lt_of_le
def Vu:=@decide_eq_true
def Vv:=@decide_eq_false
def Vw:=@wpAny_mono
def Vx:=@List.map_congr_left
def Vy:=@List.mem_flatMap
def Vz:=@Nat.lt_irrefl
def W0:=@Heap.get?_push_size
def W3:=@Nat.zero_le
def W4:=@Nat.lt_or_ge
def W5:=@List.mem_append_right
def W6:=@List.getElem?_of_mem
def W7:=@PassesOwn.leaving
def W8:=@List.ext_getElem?
def W9:=@wpAny_holding
def WA:=@of_decide_eq_true
def WB:=@List.nodup_cons
def WC:=@if_false
def WD:=@Prod.ext
def WH:=@List.not_mem_nil
def WI:=@List.length_take
def WJ:=@List.length_nil
def WK:=@Array.getElem?_toList
def WM:=@Int.mul_zero
def WN:=@Int.mul_comm
def WO:=@List.append_nil
def WQ:=@Array.getElem?_eq_getElem
def WR:=@List.filterMap_cons
def WU:=@List.nodup_nil
def WV:=@List.lookup_cons
def WX:=@Nat.not_lt_zero
def WY:=@And.intro
def WZ:=@mg_none_of
def Wa:=@Array.length_toList
def Wb:=@List.length_replicate
def Wc:=@List.range_succ
def Wd:=@List.take_length
def We:=@Bool.false_eq_true
def Wf:=@List.getElem?_set
def Wg:=@Bool.eq_iff_iff
def Wh:=@PySem.W.kia_one
def Wi:=@List.nodup_range
def Wj:=@List.getElem?_eq_some_iff
def Wk:=@List.length_drop
def Wl:=@wpAny_newObj_type
def Wm:=@Heap.get?_update_other
def Wn:=@Classical.byContradiction
def Wo:=@wpS_mono
def Wq:=@wpS_forRange
def Wr:=@List.mem_filter
def Ws:=@List.getElem?_set_ne
def Wt:=@True.intro
def Wu:=@wpAny_call_entry
def Wv:=@List.append_assoc
def Ww:=@wpAny_rule
def Wx:=@Int.not_lt
def Wy:=@decide_eq_true_iff
def Wz:=@List.mem_map_of_mem
def X0:=@List.getElem?_inj
def X3:=@PySem.F.slot_list_append
def X4:=@PySem.F.type_list_append
def X5:=@Option.map_eq_some_iff
def X6:=@Nat.mod_lt
def X7:=@Nat.not_lt
def X8:=@Array.getD_eq_getD_getElem?
def XA:=@or_false
def XD:=@decide_eq_true_eq
def XE:=@Int.le_trans
def XF:=@Int.mul_left_comm
def XG:=@wpAny_truthy_bool
def XH:=@wpAny_standAt
def XI:=@Int.mul_one
def XJ:=@List.getElem?_append_left
def XM:=@wpAny_field
def XN:=@Heap.get?_update_self
def XO:=@call_meets
def XQ:=@List.find?_cons
def XR:=@wpAny_setState_of
def XS:=@List.length_pos_iff
def XT:=@numAt_eq
def XU:=@List.getElem_mem
def XW:=@Nat.add_assoc
def XX:=@Heap.SameBut.update
def XY:=@Nat.min_eq_left
def XZ:=@Int.le_of_eq
def Xa:=@List.getElem?_set_self
def Xb:=@wpAny_passesOwn
def Xc:=@Nat.ne_of_gt
def Xd:=@List.getElem?_append_right
def Xe:=@eq_of_beq
def Xf:=@List.replicate_succ
def Xg:=@List.any_cons
def Xh:=@Nat.lt_trichotomy
def Xi:=@Nat.le_add_right
def Xj:=@List.take_succ
def Xk:=@List.nil_append
def Xl:=@List.nodup_append
def Xm:=@Nat.mul_le_mul
def Xn:=@List.cons_append
def Xo:=@Int.mul_assoc
def Xp:=@PyProof.Rows.callWith_type1
def Xq:=@wpAny_typeOf
def Xr:=@List.flatten_cons
def Xs:=@Option.isSome_map
def Xu:=@Nat.zero_lt_succ
def Xv:=@intItems_at
def Xw:=@Nat.lt_succ_self
def Xx:=@List.take_of_length_le
def Xy:=@List.map_take
def Xz:=@Nat.le_total
def Y0:=@Nat.min_eq_right
def Y3:=@List.cons.injEq
def Y4:=@Int.mul_sub
def Y5:=@Int.le_refl
def Y6:=@Int.le_of_lt
def Y7:=@List.sum_cons
def Y8:=@List.contains_eq_mem
def Y9:=@Int.ofNat_lt
def YA:=@Array.mem_toList_iff
def YB:=@codeAny_mono
def YC:=@PySem.mem_of_lookup
def YD:=@List.length_singleton
def YE:=@tupleKind_room_in1
def YF:=@Nat.zero_add
def YG:=@List.find?_eq_none
def YH:=@List.filterMap_append
def YI:=@wpAny_setField
def YJ:=@wpAny_forIn_list
def YK:=@List.sum_append
def YL:=@Nat.lt_succ_of_lt
def YM:=@Nat.sub_zero
def YN:=@Nat.add_sub_cancel_left
def YO:=@Bool.and_false
def YQ:=@List.getElem?_drop
def YR:=@Bool.not_true
def YS:=@List.set_comm
def YT:=@List.eq_nil_of_length_eq_zero
def YU:=@Int.natCast_nonneg
def YV:=@wpAny_pyHash_int
def YW:=@Nat.le_of_lt
def YX:=@List.mem_append_left
def YY:=@wpAny_execs_nil
def YZ:=@List.mem_filterMap
def Yb:=@wpAny_Call_Name_kw
def Yc:=@List.of_mem_zip
def Yd:=@List.getElem?_replicate
def Ye:=@List.getElem?_take_of_lt
def Yg:=@Int.toNat_natCast
def Yh:=@wpAny_callSpecial?_slot
def Yi:=@PyProof.Rows.slot_tuple_getitem
def Yj:=@Calls.callWith_builtin
def Yk:=@List.reverse_cons
def Yl:=@Array.getElem?_eq_some_iff
def Ym:=@Nat.le_of_eq
def Yn:=@Obj.data_mapFields
def Yo:=@listItems_at
def Yp:=@Heap.size_push
def Yq:=@List.any_eq_true
def Yr:=@List.drop_zero
def Ys:=@List.getElem?_zipIdx
def Yt:=@PySem.F.plainAttrs_list
def Yu:=@List.find?_cons_of_pos
def Yv:=@List.find?_cons_of_neg
def Yw:=@wpAny_dictEntries
def Yx:=@F.slot_dict_valueiterator_next
def Yy:=@wpAny_typeNameOfWhole_valiter
def Yz:=@wpAny_typeNameOf_valiter
def Z0:=@List.take_append_drop
def Z1:=@List.cons_ne_nil
def Z2:=@List.set_set
def Z3:=@Bool.and_true
def Z4:=@Array.forIn_toList
def Z5:=@Option.map_some
def Z6:=@Option.getD_some
def Z7:=@Option.map_map
def Z8:=@List.zip_cons_cons
def Z9:=@List.map_set
def ZA:=@Int.mul_nonpos_of_nonpos_of_nonneg
def ZC:=@Int.zero_mul
def ZD:=@Nat.mod_eq_of_lt
def ZE:=@List.flatten_replicate_singleton
def ZF:=@Heap.get?_none_of_le
def ZG:=@wpAny_assign_Name
def ZH:=@Array.find?_toList
def ZI:=@PySem.W.kitx_list
def ZJ:=@List.take_sublist
def ZK:=@Nat.min_le_right
def ZL:=@Calls.evalArgs_plain
def ZM:=@Nat.lt_succ_of_le
def ZN:=@Array.size_extract
def ZO:=@Array.getElem?_eq_none
def ZP:=@List.range_eq_range'
def ZQ:=@Array.getElem?_setIfInBounds
def ZR:=@List.getElem?_toArray
def ZS:=@List.pairwise_iff_getElem
def ZT:=@Obj.isFreed_of_fields
def ZU:=@wpAny_pyIter_list
def ZV:=@PyProof.Rows.boot_list
def ZW:=@Bool.not_eq_true'
def ZX:=@wpAny_comprehension_free
def ZY:=@PyProof.Rows.boot_min
def ZZ:=@PyProof.Rows.boot_int
def Za:=@wpAny_isOneOf_valiter
def Zb:=@List.isEmpty_nil
def Zc:=@List.Pairwise.imp_of_mem
def Zd:=@Nat.add_mul_mod_self_left
def Ze:=@List.length_filter_le
def Zf:=@PyProof.Rows.slot_tuple_getitem.lookup
def Zg:=@PySem.F.slot_dict_getitem.lookup
def Zh:=@F.entry_dict_valueiterator_next
def Zi:=@F.args_dict_valueiterator_next_1
def Zj:=@Int.mul_le_mul_of_nonneg_right
def Zk:=@Int.mul_le_mul_of_nonneg_left
end
noncomputable section
set_option Elab.async false
set_option linter.all false
set_option maxHeartbeats 4000000
set_option maxRecDepth 100000
namespace Dv
open PySem
inductive Kd where
 |sh|ow (p:Bool)|dp (p:Bool)|dk (p:Bool)|dt (p:Bool)|st (p:Bool)
 deriving DecidableEq
def kZ (n:Nat) (i:Int):Option Nat:=if 0<=i then(if i<n then some i.toNat else none)else if-(n:Int)<=i then some (i+n).toNat else none
def lF:PyData->Bool
 |.int _ | .str _=>true
 |_=>false
instance Vr:DecidableEq PyData:=λa b=>Classical.propDecidable (a=b)
def cH (kvs:Zl)(k:PyData):Option PyData:=(kvs.find? λkv=>decide (kv.1=k)).map (·.2)
def putD (kvs:Zl)(k v:PyData):Zl:=if(kvs.any λkv=>decide (kv.1=k))=true then kvs.map (λkv=>if kv.1=k then(kv.1,v)else kv)else kvs++[(k,v)]
def hi0:Nat:=0
def hi1:Nat:=hi0
def hi2:Nat:=hi1
def Vl:Nat:=hi2
def UY:Nat:=Vl
def UP:Nat:=UY
def UW:Nat:=UP
def Va:Nat:=UW
def Vb:Nat:=Va
def Vg:Nat:=Vb
def Uc:Nat:=Vg
def Tu:Nat:=Uc
def jL:Nat:=Tu
abbrev En:=List (Option (Kd×PyData))
abbrev XC:=Str->PyData->Prop
abbrev xF:XC:=λ_ _=>False
abbrev DE:=XC->En->(En->Kd->PyData->Prop)->Prop
abbrev DT:=XC->En->(En->Bool->Prop)->Prop
abbrev DI:=XC->En->(En->Zy->Prop)->Prop
structure gQ where
 nx:En->Prop
 rt:En->Kd->PyData->Prop
 xc:XC
abbrev DS:=gQ->En->Prop
abbrev bG:=Zy->(Zy->Kd->PyData->Prop)->XC->Prop
def lf:PyData->Bool
 |.none | .bool _ | .int _ | .str _=>true
 |.tuple ds=>lfs ds
 |.list _ | .dict _=>false
where lfs:Zy->Bool
 |[]=>true
 |d::ds=>lf d&&lfs ds
theorem vV:∀ds:Zy,lf.lfs ds=ds.all lf
 |[]=>by rw[lf.lfs];rfl
 |d::ds=>by rw[lf.lfs,vV ds];rfl
def BP:PyData->Bool
 |.list _=>true
 |_=>false
def flat:Kd->PyData->Bool
 |.sh,d=>lf d
 |.ow _,.list ds=>ds.all lf
 |.dp _,.list ds=>ds.all λd=>match d with | .list es=>es.all lf|d=>lf d
 |.dk _,.dict kvs=>kvs.all λkv=>lf kv.2
 |.dt _,.dict kvs=>kvs.all λkv=>lf kv.2
 |_,_=>false
def Kd.fz:Kd->Bool
 |.sh | .ow false | .dp false | .dk false | .dt false=>true
 |_=>false
def Kd.rd:Kd->Bool
 |.st _=>false
 |_=>true
def Kd.pin:Kd->Bool
 |.ow p | .dp p | .dk p | .dt p | .st p=>p
 |.sh=>false
def dm (E:En) (i:Nat):Option En:=match E[i]? with
 |some (some (k,d))=>if k.fz then some (E.set i (some (.sh,d)))else none
 |_=>none
def eF:A05->En->Option En
 |[],E=>some E
 |i::r,E=>(dm E i).bind (eF r)
inductive Arg where
 |pk (i:Nat)|ev (d:DE)
def cP:List Arg->A05
 |[]=>[]
 |.pk i::r=>i::cP r
 |.ev _::r=>cP r
def here (E:En) (i:Nat):Bool:=match E[i]? with
 |some (some _)=>true
 |_=>false
def fill:List Arg->En->List (Option PyData)->Option (Zy)
 |[],_,[]=>some []
 |.pk i::r,E,none::os=>match E[i]? with
  |some (some (k,d))=>if k.rd then(fill r E os).map (d::·)else none
  |_=>none
 |.ev _::r,E,some v::os=>(fill r E os).map (v::·)
 |_,_,_=>none
def iI (E:En) (i:Nat):Bool:=match E[i]? with
 |some (some (.sh,_))=>true
 |_=>false
theorem ze{E:En}:∀{is:A05},is.all (iI E)=true->eF is E=some E
 |[],_=>rfl
 |i::r,h=>by
  rw[VL,VB]at h;have e:dm E i=some E:=by
   have h1:=h.1;unfold iI at h1;unfold dm;split at h1
   .rename_i d e;rw[e];show some (E.set i (some (.sh,d)))=some E;congr 1;refine W8 λj=>?_;rw[Wf];by_cases c:i=j
    .subst c;rw[if_pos rfl,e];have l:i<E.length:=by rcases W4 i E.length with z|z;{exact z};rw[VZ z]at e;cases e
     rw[if_pos l]
    rw[if_neg c]
   cases h1
  show(dm E i).bind (eF r)=some E;rw[e];exact ze h.2
def Tj (as:List Arg)(E:En)(k:Kd)(v:PyData):Option En:=if((cP as).all (iI E)||flat k v)=true then some E else eF (cP as) E
def tE{is:A05}{E E2:En}{b:Bool}(h:(if(is.all (iI E)||b)=true then some E else eF is E)=some E2):(if b=true then some E else eF is E)=some E2:=by
 cases hs:is.all (iI E)with
 |true=>rw[hs,Bool.true_or,if_pos rfl]at h;rw[ze hs,h,ite_self]
 |false=>rw[hs,Bool.false_or]at h;exact h
abbrev DR:=Zy->(Kd->PyData->Prop)->Prop
def dC (v:PyData):DE:=λ_ E Q=>(λ_:Nat=>Q E .sh v) jL
def sU:A02->List Arg->Zy->En->Option En
 |[],[],[],E=>some E
 |false::ms,_::r,us,E=>sU ms r us E
 |true::ms,.pk i::r,u::us,E=>match E[i]? with
  |some (some (.ow p,.list _))=>if BP u then sU ms r us (E.set i (some (.ow p,u)))else none
  |_=>none
 |_,_,_,_=>none
def lent:A02->List Arg->A05
 |true::ms,.pk i::r=>i::lent ms r
 |_::ms,_::r=>lent ms r
 |_,_=>[]
def kept:A02->List Arg->A05
 |false::ms,.pk i::r=>i::kept ms r
 |_::ms,_::r=>kept ms r
 |_,_=>[]
def shape:A02->List Arg->Bool
 |[],[]=>true
 |true::ms,.pk _::r=>shape ms r
 |false::ms,_::r=>shape ms r
 |_,_=>false
def zm (ms:A02)(as:List Arg)(E:En):Bool:=shape ms as&&decide (lent ms as).Nodup&&(lent ms as).all (λi=>!(kept ms as).contains i&&(match E[i]? with|some (some (.ow _,.list _))=>true|_=>false))
def QF (ms:A02)(as:List Arg)(us:Zy)(E:En)(k:Kd)(v:PyData):Option En:=if((kept ms as).all (iI E)||(flat k v&&us.all (flat (.ow false))))=true then some E else eF (kept ms as) E
def nC:PyData->Option Bool
 |.bool b=>some b
 |.int i=>some (!decide (i=0))
 |.none=>some false
 |.str _=>none
 |.list ds=>some !ds.isEmpty
 |.tuple ds=>some !ds.isEmpty
 |.dict _=>none
def NF (d:DE):DT:=λx E Q=>d x E λE' _ v=>∃b,nC v=some b/\Q E' b
def Lb (t:DT):DT:=λx E Q=>(λ_:Nat=>t x E λE' b=>Q E' (!b)) jL
def QB (a b:DE):DE:=λx E Q=>a x E λE1 _ v=>∃c,v=.bool c/\if c=true then b x E1 Q else Q E1 .sh (.bool false)
def S8 (a b:DE):DE:=λx E Q=>a x E λE1 _ v=>∃c,v=.bool c/\if c=true then Q E1 .sh (.bool true)else b x E1 Q
def FQ (f f':Zs)(a b c:DE):DE:=λx E Q=>a x E λE1 _ u=>∃i,u=.int i/\b x E1 λE2 _ v=>∃j,v=.int j/\if f i j=true then c x E2 λE3 _ w=>∃k,w=.int k/\Q E3 .sh (.bool (f' j k))else Q E2 .sh (.bool false)
def SJ (c:DT)(a b:DE):DE:=λx E Q=>c x E λE1 t=>if t=true then a x E1 Q else b x E1 Q
def dD:DS:=λD E=>(λ_:Nat=>D.nx E) jL
def ao (a b:DS):DS:=λD E=>(λ_:Nat=>a { D with nx:=b D } E) jL
def vO (a b:DS):DS:=λD E=>∃J:En->Prop,a { D with nx:=J } E/\∀E',J E'->b D E'
def N6 (c:DT)(a b:DS):DS:=λD E=>c D.xc E λE1 t=>if t=true then a D E1 else b D E1
def bL (E:En) (i:Nat):Bool:=match E[i]? with
 |some (some (k,_))=>!k.pin
 |some none=>true
 |none=>false
def Qt (i:Nat)(e:DE):DS:=λD E=>e D.xc E λE' k v=>bL E' i=true/\D.nx (E'.set i (some (k,v)))
inductive Tg where
 |nm (i:Nat)|tp (is:A05)|nt (i:Nat)(is:A05)
def Tg.slots:Tg->A05
 |.nm i=>[i]
 |.tp is=>is
 |.nt i is=>i::is
def bw:A05->Zy->En->Option En
 |[],[],E=>some E
 |i::is,d::ds,E=>if bL E i then bw is ds (E.set i (some (.sh,d)))else none
 |_,_,_=>none
def cO:Tg->PyData->En->Option En
 |.nm i,d,E=>bw [i] [d] E
 |.tp is,.tuple ds,E=>bw is ds E
 |.nt i is,.tuple [d,.tuple ds],E=>bw (i::is) (d::ds) E
 |_,_,_=>none
def bY (e:DE):DS:=λD E=>(λ_:Nat=>e D.xc E D.rt) jL
def jb (E:En) (i:Nat):Bool:=match E[i]? with
 |some (some (.ow _,.list _))=>true
 |_=>false
abbrev DM:=Zy->Zy->(Zy->PyData->Prop)->Prop
def mO:Zl->Bool
 | (.none,_)::_=>false
 |_=>true
def xZ (most:Nat) (i:Nat)(e:DE):DS:=λD E=>jb E i=true/\e D.xc E λE1 k v=>k.fz=true/\∃p ds es,E1[i]?=some (some (.ow p,.list ds))/\v=.list es/\ds.length+es.length<=most/\D.nx (E1.set i (some (.ow p,.list (ds++es))))
def yw (f:DM) (i:Nat)(j:DE) (n:Nat):DE:=λx E Q=>here E i=true/\j x E λE1 _ w=>∃a p ds m es k d E2,w=.int a/\E1[i]?=some (some (.dp p,.list ds))/\kZ ds.length a=some m/\ds[m]?=some (.list es)/\E1[n]?=some (some (k,d))/\i≠n/\dm E1 n=some E2/\f es [d] λnew v=>Q (E2.set i (some (.dp p,.list (ds.set m (.list new))))) .sh v
def yW (c:Str):DS:=λD _=>(λ_:Nat=>D.xc c .none) jL
def cK (e:DE):DS:=λD E=>(λ_:Nat=>e D.xc E λE' _ _=>D.nx E') jL
def eK (it:DI)(tg:Tg)(b:DS):DS:=λD E=>(λ_:Nat=>it D.xc E λE1 xs=>∃I:Nat->En->Prop,I 0 E1/\(∀i d E,xs[i]?=some d->I i E->∃E2,cO tg d E=some E2/\b { D with nx:=I (i+1) } E2)/\∀E,I xs.length E->D.nx E) jL
def pK (c:DT)(b:DS):DS:=λD E=>∃W:Nat->En->Prop,(∃m,W m E)/\∀m E,W m E->c D.xc E λE1 t=>if t=true then b { D with nx:=λE'=>∃m',m'<m/\W m' E' } E1 else D.nx E1
def items:PyData->Option (Zy)
 |.list ds=>some ds
 |.tuple ds=>some ds
 |_=>none
def oE (e:DE):DI:=λx E Q=>e x E λE' k v=>k.fz=true/\∃ds,items v=some ds/\Q E' ds
def jk (ds:Zy):Zy:=ds.zipIdx.map λp=>.tuple [.int p.2,p.1]
def SY (e:DE):DI:=λx E Q=>e x E λE' k v=>k.fz=true/\∃ds,v=.list ds/\Q E' (jk ds)
def br:A05->En->Option En
 |[],E=>some E
 |i::r,E=>if bL E i then br r (E.set i none)else none
abbrev DC:=XC->Zy->En->(Zy->En->Prop)->Prop
def fF:DT:=λ_ E Q=>(λ_:Nat=>Q E true) jL
def cB (most:Nat)(e:DE):DC:=λx ys E Q=>e x E λE1 k v=>k.fz=true/\ys.length<most/\Q (ys++[v]) E1
def Tt (it:DI)(tg:Tg)(c:DT)(r:DC):DC:=λx ys E Q=>(λ_:Nat=>it x E λE1 xs=>∃I:Nat->Zy->En->Prop,I 0 ys E1/\(∀i d ys E,xs[i]?=some d->I i ys E->∃E2,cO tg d E=some E2/\c x E2 λE3 b=>if b=true then r x ys E3 (I (i+1))else I (i+1) ys E3)/\∀ys E,I xs.length ys E->Q ys E) jL
def cz (cs:A05)(it:DI)(tg:Tg)(c:DT)(r:DC):DE:=λx E Q=>(λ_:Nat=>it x E λE1 xs=>∃(E0:En)(I:Nat->Zy->En->Prop),br cs E1=some E0/\I 0 [] E0/\(∀i d ys E,xs[i]?=some d->I i ys E->∃E2,cO tg d E=some E2/\c xF E2 λE3 b=>if b=true then r xF ys E3 (I (i+1))else I (i+1) ys E3)/\∀ys E,I xs.length ys E->∃E2,br cs E=some E2/\Q E2 (.ow false) (.list ys)) jL
def pW (most:Nat)(cs:A05)(it:DI)(tg:Tg)(c:DT)(e:DE):DE:=λx E Q=>(λ_:Nat=>it x E λE1 xs=>∃(E0:En)(I:Nat->Zy->En->Prop),br cs E1=some E0/\I 0 [] E0/\(∀i d ys E,xs[i]?=some d->I i ys E->∃E2,cO tg d E=some E2/\c xF E2 λE3 b=>if b=true then e xF E3 (λE4 k v=>(∃p,k=.ow p)/\ys.length<most/\I (i+1) (ys++[v]) E4)else I (i+1) ys E3)/\∀ys E,I xs.length ys E->∃E2,br cs E=some E2/\Q E2 (.dp false) (.list ys)) jL
def jU (lo:Int) (n:Nat):Zy:=(List.range n).map λi:Nat=>PyData.int (lo+i)
def aA {α:Type}(o:Option α)(Q:α->Prop):Prop:=match o with
 |some a=>Q a
 |none=>False
def c7 {α:Sort u}(b:Bool)(x y:α):α:=match b with
 |true=>x
 |false=>y
def bA:Option (Kd×PyData)->Bool
 |some (k,_)=>!k.pin
 |none=>true
def sG (E:En) (i:Nat):Bool:=match E[i]? with
 |some o=>bA o
 |none=>false
def bK (b:Bool)(P:Prop):Prop:=match b with
 |true=>P
 |false=>False
def ig:List Arg->XC->En->(En->List (Option PyData)->Prop)->Prop
 |[],_,E,Q=>Q E []
 |.pk i::r,x,E,Q=>bK (here E i) (ig r x E λE' os=>Q E' (none::os))
 |.ev d::r,x,E,Q=>d x E λE1 k v=>bK k.fz (ig r x E1 λE' os=>Q E' (some v::os))
def rN (E:En) (i:Nat):Option En:=match E[i]? with
 |some (some (k,d))=>c7 k.fz (some (E.set i (some (.sh,d)))) none
 |_=>none
def gP:A05->En->Option En
 |[],E=>some E
 |i::r,E=>(rN E i).bind (gP r)
def cA:List Arg->En->List (Option PyData)->Option (Zy)
 |[],_,[]=>some []
 |.pk i::r,E,none::os=>match E[i]? with
  |some (some (k,d))=>c7 k.rd ((cA r E os).map (d::·)) none
  |_=>none
 |.ev _::r,E,some v::os=>(cA r E os).map (v::·)
 |_,_,_=>none
def sO (as:List Arg)(E:En)(k:Kd)(v:PyData):Option En:=c7 ((cP as).all (iI E)||flat k v) (some E) (gP (cP as) E)
def GC (E:En) (i:Nat)(Q:En->Kd->PyData->Prop):Prop:=match E[i]? with
 |some (some (_,d))=>aA (rN E i) λE'=>Q E' .sh d
 |_=>False
def zO (r:DR)(as:List Arg)(E:En)(os:List (Option PyData))(Q:En->Kd->PyData->Prop):Prop:=aA (cA as E os) λds=>r ds λk v=>aA (sO as E k v) λE2=>Q E2 k v
def mz (i:Nat):A05->Bool
 |[]=>false
 |j::r=>i==j||mz i r
def qi:A05->A05->En->Bool
 |[],_,_=>true
 |i::r,ks,E=>(!mz i ks&&!mz i r&&jb E i)&&qi r ks E
def uH (ms:A02)(as:List Arg)(E:En):Bool:=shape ms as&&qi (lent ms as) (kept ms as) E
def jM:A02->List Arg->Zy->En->Option En
 |[],[],[],E=>some E
 |false::ms,_::r,us,E=>jM ms r us E
 |true::ms,.pk i::r,u::us,E=>match E[i]? with
  |some (some (.ow p,.list _))=>c7 (BP u) (jM ms r us (E.set i (some (.ow p,u)))) none
  |_=>none
 |_,_,_,_=>none
def uB (ms:A02)(as:List Arg)(us:Zy)(E:En)(k:Kd)(v:PyData):Option En:=c7 ((kept ms as).all (iI E)||(flat k v&&us.all (flat (.ow false)))) (some E) (gP (kept ms as) E)
def GB (ms:A02)(as:List Arg)(E:En)(us:Zy)(k:Kd)(v:PyData)(Q:En->Kd->PyData->Prop):Prop:=aA (jM ms as us E) λE2=>aA (uB ms as us E2 k v) λE3=>Q E3 k v
def Gf (sp:bG)(ms:A02)(as:List Arg)(x:XC)(E:En)(os:List (Option PyData))(Q:En->Kd->PyData->Prop):Prop:=aA (cA as E os) λds=>bK (uH ms as E) (sp ds (λus k v=>GB ms as E us k v Q) x)
def uQ (v:PyData)(Q:Bool->Prop):Prop:=aA (nC v) Q
def HE (E:En) (i:Nat)(Q:En->Bool->Prop):Prop:=match E[i]? with
 |some (some (k,d))=>bK k.rd (uQ d (Q E))
 |_=>False
def BB (v:PyData)(Q:Bool->Prop):Prop:=match v with
 |.bool b=>Q b
 |_=>False
def rK (v:PyData)(Q:Int->Prop):Prop:=match v with
 |.int i=>Q i
 |_=>False
def Kr (v:PyData)(Q:Zy->Prop):Prop:=aA (items v) Q
def wL (v:PyData)(Q:Zy->Prop):Prop:=match v with
 |.list xs=>Q xs
 |_=>False
def Fi (E:En) (i:Nat)(Q:En->Kd->PyData->Prop):Prop:=match E[i]? with
 |some (some (k,d))=>bK (!k.pin) (Q (E.set i none) k d)
 |_=>False
def HX (f:DM) (i:Nat)(as:List Arg)(E:En)(os:List (Option PyData))(Q:En->Kd->PyData->Prop):Prop:=aA (cA as E os) λargs=>match E[i]? with
 |some (some (.ow p,.list ds))=>f ds args λnew v=>Q (E.set i (some (.ow p,.list new))) .sh v
 |_=>False
def Ov (f:Int->Int->Int)(E:En) (i:Nat)(v:PyData)(Q:En->Prop):Prop:=match E[i]? with
 |some (some (_,.int a))=>rK v λb=>Q (E.set i (some (.sh,.int (f a b))))
 |_=>False
def stK:A05->Zy->En->Option En
 |[],[],E=>some E
 |i::is,d::ds,E=>c7 (sG E i) (stK is ds (E.set i (some (.sh,d)))) none
 |_,_,_=>none
def Ls (is:A05)(v:PyData)(E:En)(Q:En->Prop):Prop:=match v with
 |.tuple ds=>aA (stK is ds E) Q
 |_=>False
def zL (n:Nat) (i:Int):Option Nat:=match i with
 |.ofNat k=>c7 (Nat.blt k n) (some k) none
 |.negSucc k=>kZ n (.negSucc k)
def bg (i:Nat):DE:=λ_ E Q=>GC E i Q
def aa (r:DR)(as:List Arg):DE:=λx E Q=>ig as x E λE1 os=>zO r as E1 os Q
def aJ (sp:bG)(ms:A02)(as:List Arg):DE:=λx E Q=>ig as x E λE1 os=>Gf sp ms as x E1 os Q
def bN (d:DE):DT:=λx E Q=>d x E λE' _ v=>uQ v (Q E')
def Kl (i:Nat):DT:=λ_ E Q=>HE E i Q
def nR (a b:DE):DE:=λx E Q=>a x E λE1 _ v=>BB v λc=>c7 c (b x E1 Q) (Q E1 .sh (.bool false))
def oS (a b:DE):DE:=λx E Q=>a x E λE1 _ v=>BB v λc=>c7 c (Q E1 .sh (.bool true)) (b x E1 Q)
def pR (f f':Zs)(a b c:DE):DE:=λx E Q=>a x E λE1 _ u=>rK u λi=>b x E1 λE2 _ v=>rK v λj=>c7 (f i j) (c x E2 λE3 _ w=>rK w λk=>Q E3 .sh (.bool (f' j k))) (Q E2 .sh (.bool false))
def wV (c:DT)(a b:DE):DE:=λx E Q=>c x E λE1 t=>c7 t (a x E1 Q) (b x E1 Q)
def cG (c:DT)(a b:DS):DS:=λD E=>c D.xc E λE1 t=>c7 t (a D E1) (b D E1)
def aB (i:Nat)(e:DE):DS:=λD E=>e D.xc E λE' k v=>bK (sG E' i) (D.nx (E'.set i (some (k,v))))
def qv (is:A05)(e:DE):DS:=λD E=>e D.xc E λE' k v=>bK k.fz (Ls is v E' D.nx)
def iM (i:Nat):DS:=λD E=>Fi E i D.rt
def jR (f:DM) (i:Nat)(es:List DE):DE:=λx E Q=>bK (jb E i) (ig (es.map .ev) x E λE1 os=>HX f i (es.map .ev) E1 os Q)
def iH (i:Nat)(j:DE)(e:DE):DS:=λD E=>e D.xc E λE1 k v=>bK k.fz (bK (here E1 i) (j D.xc E1 λE2 k2 w=>bK k2.fz (setI E2 i w v D.nx)))
where setI (E:En) (i:Nat)(w v:PyData)(Q:En->Prop):Prop:=match E[i]?,w with
 |some (some (.ow p,.list ds)),.int a=>aA (zL ds.length a) λn=>Q (E.set i (some (.ow p,.list (ds.set n v))))
 |some (some (.dk p,.dict kvs)),w=>(lF w=true/\kvs.length<16777216)/\Q (E.set i (some (.dk p,.dict (putD kvs w v))))
 |some (some (.dt p,.dict (_::kvs))),.tuple ks=>(ks.all lF=true/\kvs.length<16777216)/\Q (E.set i (some (.dt p,.dict ((.none,.none)::putD kvs (.tuple ks) v))))
 |_,_=>False
def iE (e:DE):DI:=λx E Q=>e x E λE' k v=>bK k.fz (Kr v λds=>Q E' ds)
def jT (g:Zy->Option (Zy))(as:List Arg):DI:=λx E Q=>ig as x E λE1 os=>aA (cA as E1 os) λds=>aA (g ds) λxs=>Q E1 xs
def sZ (e:DE):DI:=λx E Q=>e x E λE' k v=>bK k.fz (wL v λds=>Q E' (jk ds))
def Eu (a b:DE):DI:=λx E Q=>a x E λE1 k v=>bK k.fz (b x E1 λE2 k2 v2=>bK k2.fz (wL v λds=>wL v2 λes=>Q E2 ((ds.zip es).map λp=>.tuple [p.1,p.2])))
def aX{α:Type}{o:Option α}{Q:α->Prop}:(∃a,o=some a/\Q a)=aA o Q:=by
 cases o with
 |none=>exact propext ⟨λ⟨a,e,_⟩=>(by cases e),λh=>h.elim⟩
 |some a=>exact propext ⟨λ⟨b,e,q⟩=>by cases e;exact q,λh=>⟨a,rfl,h⟩⟩
def d7{b:Bool}{P:Prop}:bK b P=(b=true/\P):=by
 cases b with
 |true=>exact propext ⟨λh=>⟨rfl,h⟩,λh=>h.2⟩
 |false=>exact propext ⟨λh=>h.elim,λh=>by cases h.1⟩
universe u
def bV{α:Sort u}{b:Bool}{x y:α}:c7 b x y=if b=true then x else y:=by cases b<;>rfl
def Bg{E:En}{i:Nat}:rN E i=dm E i:=by unfold rN dm;split;{rw[bV]};rfl
theorem nW:∀{is:A05}{E:En},gP is E=eF is E
 |[],_=>rfl
 |i::r,E=>by rw[gP,eF,Bg];congr 1;funext E1;exact nW
theorem eL:∀{as:List Arg}{E:En}{os:List (Option PyData)},cA as E os=fill as E os
 |[],_,[]=>rfl
 |[],_,_::_=>rfl
 |.pk i::r,E,none::os=>by rw[cA,fill,eL];split;{rw[bV]};rfl
 |.ev _::r,E,some v::os=>by rw[cA,fill,eL]
 |.pk _::_,_,[]=>rfl
 |.pk _::_,_,some _::_=>rfl
 |.ev _::_,_,[]=>rfl
 |.ev _::_,_,none::_=>rfl
def Bu{as:List Arg}{E:En}{k:Kd}{v:PyData}:sO as E k v=Tj as E k v:=by unfold sO Tj;rw[bV,nW]
theorem vK{i:Nat}:∀{l:A05},mz i l=l.contains i
 |[]=>rfl
 |j::r=>by rw[mz,List.contains_cons,vK]
theorem Be{ks:A05}{E:En}:∀{l:A05},qi l ks E=(decide l.Nodup&&l.all λi=>!ks.contains i&&jb E i)
 |[]=>rfl
 |i::r=>by
  rw[qi,Be,vK,vK,VL];have:decide (i::r).Nodup=(!r.contains i&&decide r.Nodup):=by rw[Wg];simp[Y8]
  rw[this];cases ks.contains i<;>cases r.contains i<;>cases jb E i<;>cases decide r.Nodup<;>rfl
def IY{ms:A02}{as:List Arg}{E:En}:uH ms as E=zm ms as E:=by unfold uH zm;rw[Be,Bool.and_assoc];rfl
theorem u7:∀{ms:A02}{as:List Arg}{us:Zy}{E:En},jM ms as us E=sU ms as us E
 |[],[],[],E=>rfl
 |[],[],_::_,E=>rfl
 |[],_::_,_,E=>rfl
 |false::ms,_::r,us,E=>by rw[jM,sU,u7]
 |false::ms,[],us,E=>rfl
 |true::ms,[],us,E=>rfl
 |true::ms,.ev _::_,us,E=>rfl
 |true::ms,.pk i::r,[],E=>rfl
 |true::ms,.pk i::r,u::us,E=>by rw[jM,sU];split;{rw[bV,u7]};rfl
def Jj{ms:A02}{as:List Arg}{us:Zy}{E:En}{k:Kd}{v:PyData}:uB ms as us E k v=QF ms as us E k v:=by unfold uB QF;rw[bV,nW]
def Lo{v:PyData}{Q:Bool->Prop}:(∃b,nC v=some b/\Q b)=uQ v Q:=aX
def J9{v:PyData}{Q:Bool->Prop}:(∃b,v=.bool b/\Q b)=BB v Q:=by
 cases v with
 |bool b=>exact propext ⟨λ⟨c,e,q⟩=>by cases e;exact q,λh=>⟨b,rfl,h⟩⟩
 |_=>exact propext ⟨λ⟨c,e,_⟩=>(by cases e),λh=>h.elim⟩
def RA{v:PyData}{Q:Int->Prop}:(∃b,v=.int b/\Q b)=rK v Q:=by
 cases v with
 |int b=>exact propext ⟨λ⟨c,e,q⟩=>by cases e;exact q,λh=>⟨b,rfl,h⟩⟩
 |_=>exact propext ⟨λ⟨c,e,_⟩=>(by cases e),λh=>h.elim⟩
def Eh{v:PyData}{Q:Zy->Prop}:(∃b,v=.list b/\Q b)=wL v Q:=by
 cases v with
 |list b=>exact propext ⟨λ⟨c,e,q⟩=>by cases e;exact q,λh=>⟨b,rfl,h⟩⟩
 |_=>exact propext ⟨λ⟨c,e,_⟩=>(by cases e),λh=>h.elim⟩
def Ck{E:En}{i:Nat}:sG E i=bL E i:=by unfold bL sG bA;generalize E[i]?=z;rcases z with _|_|⟨k,d⟩<;>rfl
theorem HG:∀{is:A05}{ds:Zy}{E:En},stK is ds E=bw is ds E
 |[],[],E=>rfl
 |[],_::_,E=>rfl
 |_::_,[],E=>rfl
 |i::is,d::ds,E=>by rw[stK,bw,bV,HG,Ck]
def zX{n:Nat}{i:Int}:zL n i=kZ n i:=by
 cases i with
 |ofNat k=>unfold zL kZ;show c7 (Nat.blt k n) (some k) none=_;rw[if_pos (show(0:Int)<=Int.ofNat k from YU k),bV];have:(Nat.blt k n=true)=((Int.ofNat k)<(n:Int)):=propext ⟨λh=>Y9.mpr (Nat.blt_eq.mp h),λh=>Nat.blt_eq.mpr (Y9.mp h)⟩;simp only[this];rfl
 |negSucc k=>rfl
def My{d:DE}:bN d=NF d:=by funext x E Q;unfold bN NF;simp only[Lo]
def B7{a b:DE}:nR a b=QB a b:=by funext x E Q;unfold nR QB;simp only[J9,bV]
def Ft{a b:DE}:oS a b=S8 a b:=by funext x E Q;unfold oS S8;simp only[J9,bV]
def EB{f f':Zs}{a b c:DE}:pR f f' a b c=FQ f f' a b c:=by funext x E Q;unfold pR FQ;simp only[RA,bV]
def P7{c:DT}{a b:DE}:wV c a b=SJ c a b:=by funext x E Q;unfold wV SJ;simp only[bV]
def MD{c:DT}{a b:DS}:cG c a b=N6 c a b:=by funext D E;unfold cG N6;simp only[bV]
def qJ{i:Nat}{e:DE}:aB i e=Qt i e:=by funext D E;unfold aB Qt;simp only[d7,Ck]
def Sg{e:DE}:iE e=oE e:=by funext x E Q;unfold iE oE;simp only[d7,aX];rfl
def M8{e:DE}:sZ e=SY e:=by funext x E Q;unfold sZ SY;simp only[d7,Eh]
end Dv
namespace L2
open PySem PySem.Spec PyProof.Rows
abbrev Key:=Sum Int Str
def qF:Key->Value->Bool
 |.inl k,v=>Value.isInt k v
 |.inr x,v=>Value.isStrOf x v
def Uy (w:World):Key->Int
 |.inl k=>hashInt k
 |.inr x=>hashStr w x
def cU:∀{k:Key}{v:Value},qF k v=true->(∃i t,k=Sum.inl i/\v=Value.int i t)\/(∃x t,k=Sum.inr x/\v=Value.str x t)
 |.inl i,v,h=>by obtain⟨t,e⟩:=Value.isInt_shape (k:=i) (v:=v) h;exact .inl ⟨i,t,rfl,e⟩
 |.inr x,v,h=>by obtain⟨t,e⟩:=Value.isStrOf_shape (x:=x) (v:=v) h;exact .inr ⟨x,t,rfl,e⟩
def EC(i:Int)(t:Tok):qF (.inl i) (.int i t)=true:=by simp[qF,Value.isInt]
def HD(x:Str)(t:Tok):qF (.inr x) (.str x t)=true:=by simp[qF,Value.isStrOf]
def OW(a b:Int):decide ((Sum.inl a:Key)=Sum.inl b)=(a==b):=by by_cases e:a=b;{subst e;simp};have h:¬(Sum.inl a:Key)=Sum.inl b:=λq=>e (Sum.inl.inj q);rw[Vv h];exact(beq_eq_false_iff_ne.mpr e).symm
def Pp(a b:Str):decide ((Sum.inr a:Key)=Sum.inr b)=decide (a=b):=by by_cases e:a=b;{subst e;simp};have h:¬(Sum.inr a:Key)=Sum.inr b:=λq=>e (Sum.inr.inj q);rw[Vv h,Vv e]
def OD(a:Int) (b:Str):decide ((Sum.inl a:Key)=Sum.inr b)=false:=Vv (λq=>nomatch q)
def NO(a:Str) (b:Int):decide ((Sum.inr a:Key)=Sum.inl b)=false:=Vv (λq=>nomatch q)
def cX (prog:Program)(w:World):PySem.KeyKind prog w Key where
 is:=qF
 hash:=Uy w
 inj:=λv a b ha hb=>by
  rcases cU ha with⟨i,t,rfl,rfl⟩|⟨x,t,rfl,rfl⟩
  .rcases cU hb with⟨j,u,rfl,e⟩|⟨y,u,rfl,e⟩
   .injection e with e1 _;rw[e1]
   .exact nomatch e
  .rcases cU hb with⟨j,u,rfl,e⟩|⟨y,u,rfl,e⟩
   .exact nomatch e
   .injection e with e1 _;rw[e1]
 byValue:=λk v h=>by
  rcases cU h with⟨i,t,rfl,rfl⟩|⟨x,t,rfl,rfl⟩<;>rfl
 pyHash:=λhv h=>by
  rcases cU hv with⟨i,t,rfl,rfl⟩|⟨x,t,rfl,rfl⟩
  .exact YV h
  .exact wpAny_pyHash_str h
 eqBool:=λhu hv h=>by
  rcases cU hu with⟨i,t,rfl,rfl⟩|⟨x,t,rfl,rfl⟩
  .rcases cU hv with⟨j,u,rfl,rfl⟩|⟨y,u,rfl,rfl⟩
   .rw[OW]at h;exact wpAny_eqBool_int h
   .rw[OD]at h;exact SeqAt.EqAt.int_str i t y u _ _ _ _ h
  .rcases cU hv with⟨j,u,rfl,rfl⟩|⟨y,u,rfl,rfl⟩
   .rw[NO]at h;exact SeqAt.EqAt.str_int x t j u _ _ _ _ h
   .rw[Pp]at h;exact wpAny_eqBool_str h
 «strs»:=λk x t v h=>by
  rcases cU h with⟨i,u,rfl,e⟩|⟨y,u,rfl,e⟩
  .exact nomatch e
  .injection e with e1 _
   subst e1;cases v<;>rfl
def AF(prog:Program)(w:World) (i:Int)(t:Tok):(cX prog w).is (.inl i) (.int i t)=true:=EC i t
def AM(prog:Program)(w:World) (x:Str)(t:Tok):(cX prog w).is (.inr x) (.str x t)=true:=HD x t
set_option genInjectivity true in
inductive V where
 |aW|bl (b:Bool)|int (i:Int)|str (x:Str)|mP (b:Array UInt8)|By (b:UInt64)|ref (a:Addr)|ty (n:String)
 deriving DecidableEq
def RelV:V->Value->Prop
 |.aW,u=>u=Value.none
 |.bl b,u=>u=Value.bool b
 |.int i,u=>∃t,u=Value.int i t
 |.str x,u=>∃t,u=Value.str x t
 |.mP b,u=>∃t,u=Value.bytes b t
 |.By b,u=>∃t,u=Value.float b t
 |.ref a,u=>u=Value.ref a
 |.ty n,u=>u=Value.type n
abbrev Vals:List V->A00->Prop:=Paired RelV
theorem Vals.length{xs:List V}{us:A00}(r:Vals xs us):xs.length=us.length:=Paired.length r
theorem Vals.get:∀{xs:List V}{us:A00}{i:Nat}{x:V},Vals xs us->xs[i]?=some x->∃u,us[i]?=some u/\RelV x u
 |_,_,_,_,.nil,e=>by simp at e
 |_,_,0,_,.cons r _,e=>by simp at e;subst e;exact⟨_,rfl,r⟩
 |_,_,i+1,x,.cons _ t,e=>by obtain⟨u,h1,h2⟩:=Vals.get (i:=i) (x:=x) t (by simpa using e);exact⟨u,by simpa using h1,h2⟩
theorem Vals.set{x:V}{u:Value}(r:RelV x u):∀{xs:List V}{us:A00} (i:Nat),Vals xs us->Vals (xs.set i x) (us.set i u)
 |_,_,_,.nil=>.nil
 |_,_,0,.cons _ t=>.cons r t
 |_,_,i+1,.cons q t=>.cons q (Vals.set r i t)
theorem Vals.append:∀{xs ys:List V}{us ws:A00},Vals xs us->Vals ys ws->Vals (xs++ys) (us++ws)
 |_,_,_,_,.nil,s=>s
 |_,_,_,_,.cons r t,s=>.cons r (Vals.append t s)
theorem Vals.take:∀{xs:List V}{us:A00} (n:Nat),Vals xs us->Vals (xs.take n) (us.take n)
 |_,_,0,_=>.nil
 |_,_,_+1,.nil=>.nil
 |_,_,n+1,.cons r t=>.cons r (Vals.take n t)
theorem Vals.drop:∀{xs:List V}{us:A00} (n:Nat),Vals xs us->Vals (xs.drop n) (us.drop n)
 |_,_,0,r=>r
 |_,_,_+1,.nil=>.nil
 |_,_,n+1,.cons _ t=>Vals.drop n t
def jG:Option V->Zw->Prop
 |some v,some u=>RelV v u
 |none,none=>True
 |_,_=>False
def KV {κ:Type}:List (κ×V)->List (κ×Value)->Prop:=Paired λ(p:κ×V)(q:κ×Value)=>p.1=q.1/\RelV p.2 q.2
def kV:Key->V
 |.inl i=>.int i
 |.inr x=>.str x
inductive HO where
 |lst (xs:List V)
 |tup (xs:List V)
 |dK (kvs:List (Key×V))|dT (kvs:List (List Key×V))
 |set (S:Int->Bool) (n:Nat)
 |ins (C dx:Addr)(fs:List (Str×V))
 |own (x:Addr)
 |xd (fs:List (Str×V))
 |met (f x:Addr)
 |qY (lo hi:Int)
 |cZ (o:Obj)(u:HO)
 |xm (ps:Zx)
 |ext (φ:Heap->Prop)
abbrev Hp:=Addr->Option HO
def upd (H:Hp)(a:Addr)(o:HO):Hp:=λb=>if b=a then some o else H b
def av{H:Hp}{a:Addr}{o:HO}:upd H a o a=some o:=by unfold upd;rw[if_pos rfl]
def ai{H:Hp}{a b:Addr}{o:HO}(h:b≠a):upd H a o b=H b:=by unfold upd;rw[if_neg h]
def K7{H:Hp}{a b:Addr}{o u:HO}(h:H a=some o)(h':H b=some u)(d:o≠u):a≠b:=by intro e;subst e;rw[h]at h';exact d (Option.some.inj h')
def gr{H:Hp}{a b:Addr}{o:HO}(h:H a=some o)(h':H b=none):a≠b:=by intro e;subst e;rw[h]at h';cases h'
section
variable(P:Program)(w:World)
def bC (H:Hp)(h:Heap)(a:Addr):HO->Prop
 |.lst xs=>xs.length<=sizeLine/\∃(its:A00) (n:Nat),Vals xs its/\h.get? a=some { cls:=.type "list",data:=.seq its.toArray n }
 |.tup xs=>xs.length<=sizeLine/\∃its:A00,Vals xs its/\IsTup h a its.toArray
 |.dK kvs=>kvs.length<=sizeLine/\(a==sysModules)=false/\∃vs,KV kvs vs/\h.DictOf (cX P w) a vs
 |.dT kvs=>kvs.length<=sizeLine/\(a==sysModules)=false/\∃xs:List (List Key×Addr×Value),
   Paired (λ(p:List Key×V)(q:List Key×Addr×Value)=>p.1=q.1/\H q.2.1=some (.tup (p.1.map kV))/\RelV p.2 q.2.2) kvs xs /\
   ∃o es ep,h.get? a=some o/\o.ExactDict/\o.data=.dict es ep/\es.toList=xs.map (entryOfKey (tupleKind (cX P w)))/\(xs.map (·.1)).Nodup
 |.set S n=>h.SetOf (intKind P w) a S n
 |.ins C dx fs=>H dx=some (.own a)/\fs.length<=1000/\dx≠a/\h.get? a=some (PySem.W.instObj C dx) /\
   ∃mA,h.Ns1 dx mA/\(∀f,jG (fs.lookup f) (mA f))/\PySem.Within mA (fs.map (·.1))
 |.own _=>∃o,h.get? a=some o
 |.xd fs=>∃mA,h.Ns1 a mA/\∀f,jG (fs.lookup f) (mA f)
 |.qY lo hi=>∃t u v,h.get? a=some { cls:=.type "range",data:=.fields #[.int lo t,.int hi u,.int 1 v] }
 |.cZ o u=>h.get? a=some o/\bC H h a u
 |.xm ps=>h.get? a=some { cls:=.none,data:=.fields ps }
 |.met f x=>h.get? a=some (PySem.W.methodObj (.ref f) (.ref x))
 |.ext φ=>φ h/\(∃o,h.get? a=some o)/\∀h1 h2:Heap,φ h1->(∀o,h1.get? a=some o->h2.get? a=some o)->φ h2
def dg (H:Hp)(h:Heap):Prop:=∀a o,H a=some o->bC P w H h a o
variable{P:Program}{w:World}{H H':Hp}{h h':Heap}{a:Addr}{o:HO}
theorem bC.lt(x:bC P w H h a o):a<h.objs.size:=by
 cases o with
 |lst xs=>obtain⟨_,_,_,_,e⟩:=x;exact VC e
 |tup xs=>obtain⟨_,_,_,p⟩:=x;exact p.lt
 |dK kvs=>obtain⟨_,_,_,_,o,_,_,e,_⟩:=x;exact VC e
 |dT kvs=>obtain⟨_,_,_,_,o,_,_,e,_⟩:=x;exact VC e
 |set S n=>obtain⟨o,_,_,_,e,_⟩:=x;exact VC e
 |ins C dx fs=>obtain⟨_,_,_,e,_⟩:=x;exact VC e
 |own y=>obtain⟨_,e⟩:=x;exact VC e
 |xd fs=>obtain⟨_,⟨_,_,_,e,_⟩,_⟩:=x;exact VC e
 |qY lo hi=>obtain⟨_,_,_,e⟩:=x;exact VC e
 |cZ ob u=>obtain⟨e,_⟩:=x;exact VC e
 |xm ps=>exact VC (show h.get? a=some _ from x)
 |met f y=>exact VC (show h.get? a=some _ from x)
 |ext φ=>obtain⟨_,⟨_,e⟩,_⟩:=x;exact VC e
theorem Paired.IX{α β:Type}{F G:α->β->Prop}:∀{l₁:List α}{l₂:List β},Paired F l₁ l₂->(∀a b,F a b->G a b)->Paired G l₁ l₂
 |_,_,.nil,_=>.nil
 |_,_,.cons r t,f=>.cons (f _ _ r) (Paired.IX t f)
def bC.stay(x:bC P w H h a o)(k:∀b u,(b=a\/H b=some (.own a))->h.get? b=some u->h'.get? b=some u)(ho:∀b,H b=some (.own a)->H' b=some (.own a))(ht:∀b xs,H b=some (.tup xs)->H' b=some (.tup xs)):bC P w H' h' a o:=by
 induction o with
 |lst xs=>obtain⟨z,its,n,r,e⟩:=x;exact⟨z,its,n,r,k _ _ (.inl rfl) e⟩
 |tup xs=>obtain⟨z,its,r,ob,e,c⟩:=x;exact⟨z,its,r,ob,k _ _ (.inl rfl) e,c⟩
 |dK kvs=>obtain⟨z,y,vs,r,ob,es,ep,e,c⟩:=x;exact⟨z,y,vs,r,ob,es,ep,k _ _ (.inl rfl) e,c⟩
 |dT kvs=>obtain⟨z,y,xs,r,ob,es,ep,e,c⟩:=x;exact⟨z,y,xs,Paired.IX r λp q z=>⟨z.1,ht _ _ z.2.1,z.2.2⟩,ob,es,ep,k _ _ (.inl rfl) e,c⟩
 |set S n=>obtain⟨ob,es,ep,t,e,c⟩:=x;exact⟨ob,es,ep,t,k _ _ (.inl rfl) e,c⟩
 |ins C dx fs=>obtain⟨d,z,ne,e,mA,⟨od,es,ep,e2,c⟩,r⟩:=x;exact⟨ho _ d,z,ne,k _ _ (.inl rfl) e,mA,⟨od,es,ep,k _ _ (.inr d) e2,c⟩,r⟩
 |own y=>obtain⟨ob,e⟩:=x;exact⟨ob,k _ _ (.inl rfl) e⟩
 |xd fs=>obtain⟨mA,⟨od,es,ep,e,c⟩,r⟩:=x;exact⟨mA,⟨od,es,ep,k _ _ (.inl rfl) e,c⟩,r⟩
 |qY lo hi=>obtain⟨t,u,v,e⟩:=x;exact⟨t,u,v,k _ _ (.inl rfl) e⟩
 |cZ ob u ih=>obtain⟨e,q⟩:=x;exact⟨k _ _ (.inl rfl) e,ih q⟩
 |xm ps=>have e:h.get? a=some { cls:=.none,data:=.fields ps }:=x;show h'.get? a=some { cls:=.none,data:=.fields ps };exact k a _ (.inl rfl) e
 |met f y=>have e:h.get? a=some (PySem.W.methodObj (.ref f) (.ref y)):=x;show h'.get? a=some (PySem.W.methodObj (.ref f) (.ref y));exact k a _ (.inl rfl) e
 |ext φ=>obtain⟨p,⟨o,e⟩,st⟩:=x;exact⟨st _ _ p λo q=>k _ _ (.inl rfl) q,⟨o,k _ _ (.inl rfl) e⟩,st⟩
theorem dg.lt(x:dg P w H h)(e:H a=some o):a<h.objs.size:=(x a o e).lt
def dg.fresh(x:dg P w H h)(e:h.objs.size<=a):H a=none:=by
 cases q:H a with
 |none=>rfl
 |some u=>exact absurd (Vt (x.lt q) e) (Vz _)
def dg.kept(x:dg P w H h)(k:∀b u,h.get? b=some u->h'.get? b=some u):dg P w H h':=λa o e=>
 (x a o e).stay (λb u _ q=>k b u q) (λ_ q=>q) λ_ _ q=>q
def dg.laid(x:dg P w H h)(k:∀b u,h.get? b=some u->h'.get? b=some u)(hp:h.objs.size<=a)(new:bC P w (upd H a o) h' a o):dg P w (upd H a o) h':=λb u e=>by have hn:=x.fresh hp;by_cases hb:b=a;{subst hb;rw[av]at e;cases e;exact new};rw[ai hb]at e;exact(x b u e).stay (λc v _ q=>k c v q) (λc q=>by rw[ai (gr q hn)];exact q) λc xs q=>by rw[ai (gr q hn)];exact q
def Rd (H:Hp)(a:Addr)(u:HO):Prop:=H a=some u\/∃o,H a=some (.cZ o u)
def Rd.ok{P:Program}{w:World}{H:Hp}{h:Heap}{a:Addr}{u:HO}(r:Rd H a u)(x:dg P w H h):bC P w H h a u:=by rcases r with r|⟨o,r⟩;{exact x a u r};obtain⟨_,q⟩:=x a _ r;exact q
def Hs:Option HO->Prop
 |some (.lst _)=>True
 |some (.dK _)=>True
 |some (.dT _)=>True
 |some (.set _ _)=>True
 |some (.ins _ _ _)=>True
 |some (.ext _)=>True
 |_=>False
variable{x e:Addr}{o':HO}
def dg.write(ok:dg P w H h)(mu:Hs (H x))(he:e=x\/H e=some (.own x))(k:∀b u,b≠e->h.get? b=some u->h'.get? b=some u)(heo:∃u,h'.get? e=some u)(new:bC P w (upd H x o') h' x o'):dg P w (upd H x o') h':=λb u q=>by
 have nown:∀c y,H c=some (.own y)->c≠x:=λc y r z=>by subst z;rw[r]at mu;exact mu
 have ntup:∀c xs,H c=some (.tup xs)->c≠x:=λc xs r z=>by subst z;rw[r]at mu;exact mu
 by_cases hb:b=x;{subst hb;rw[av]at q;cases q;exact new};rw[ai hb]at q;by_cases hbe:b=e
 .have q':H b=some (.own x):=by rcases he with z|z;{exact absurd (hbe.trans z) hb};rw[hbe];exact z
  rw[q]at q';cases q';obtain⟨v,hv⟩:=heo;exact⟨v,by rw[hbe];exact hv⟩
 refine(ok b u q).stay (λc v hc r=>k c v ?_ r) (λc r=>by rw[ai (nown c b r)];exact r) λc xs r=>by rw[ai (ntup c xs r)];exact r
 rcases hc with rfl|hc;{exact hbe};rintro rfl;rcases he with z|z;{exact nown c b hc z};rw[hc]at z;cases z;exact hb rfl
end
structure Un(fs ex:A01)(H H':Hp)(h h':Heap):Prop where
 keep:∀b o,h.get? b=some o->H b=none->b∉fs->b∉ex->h'.get? b=some o
 slot:∀b o,h.get? b=some o->H b=none->b∈fs->b∉ex->∃sl,h'.get? b=some { o with slots:=sl }
 free:∀b o,h.get? b=some o->H b=none->b∉ex->H' b=none
 there:∀b o,h.get? b=some o->b∉ex->∃o',h'.get? b=some o'
 tups:∀b xs,H b=some (.tup xs)->H' b=some (.tup xs)
 jK:∀b o u,H b=some (.cZ o u)->H' b=some (.cZ o u)
 kM:∀b ps,H b=some (.xm ps)->∃more,H' b=some (.xm (ps++more))
section
variable{fs fs' ex ex':A01}{H H1 H2:Hp}{h h1 h2 h':Heap}{a x e:Addr}{o:HO}
def Un.any(u:Un fs ex H H1 h h1){b:Addr}{ob:Obj}(q:h.get? b=some ob)(n:H b=none)(hx:b∉ex):∃sl,h1.get? b=some { ob with slots:=sl }:=by by_cases hb:b∈fs;{exact u.slot b ob q n hb hx};exact⟨ob.slots,u.keep b ob q n hb hx⟩
def Un.kept(k:∀b u,h.get? b=some u->h'.get? b=some u):Un fs ex H H h h':=
 ⟨λb ob q _ _ _=>k b ob q,λb ob q _ _ _=>⟨ob.slots,k b ob q⟩,λ_ _ _ n _=>n,λb ob q _=>⟨ob,k b ob q⟩,λ_ _ q=>q,λ_ _ _ q=>q,λ_ ps q=>⟨#[],by rw[q];simp⟩⟩
def Un.refl:Un fs ex H H h h:=Un.kept λ_ _ q=>q
def Un.laid(k:∀b u,h.get? b=some u->h'.get? b=some u)(hp:h.objs.size<=a)(hn:H a=none):Un fs ex H (upd H a o) h h' where
 keep:=λb u q _ _ _=>k b u q
 slot:=λb u q _ _ _=>⟨u.slots,k b u q⟩
 free:=λb u q n _=>by rw[ai (VO (Vt (VC q) hp))];exact n
 there:=λb u q _=>⟨u,k b u q⟩
 tups:=λb xs q=>by rw[ai (gr q hn)];exact q
 jK:=λb u xs q=>by rw[ai (gr q hn)];exact q
 kM:=λb ps q=>⟨#[],by rw[ai (gr q hn),q];simp⟩
def Un.write(mu:Hs (H x))(he:e=x\/H e=some (.own x))(k:∀b u,b≠e->h.get? b=some u->h'.get? b=some u)(heo:∃u,h'.get? e=some u):Un fs ex H (upd H x o) h h':=by
 have hx:∀b,H b=none->b≠x:=λb n z=>by subst z;rw[n]at mu;exact mu
 have hb:∀b,H b=none->b≠e:=λb n z=>by subst z;rcases he with r|r;{exact hx b n r};rw[n]at r;cases r
 have hm:∀b u,H b=some u->¬Hs (some u)->b≠x:=λb u q nm z=>by subst z;rw[q]at mu;exact nm mu
 refine⟨λb u q n _ _=>k b u (hb b n) q,λb u q n _ _=>⟨u.slots,k b u (hb b n) q⟩,λb u q n _=>by rw[ai (hx b n)];exact n,λb u q _=>?_,
  λb xs q=>by rw[ai (hm b _ q λz=>z)];exact q,λb u xs q=>by rw[ai (hm b _ q λz=>z)];exact q,λb ps q=>⟨#[],by rw[ai (hm b _ q λz=>z),q];simp⟩⟩
 by_cases hbe:b=e;{subst hbe;exact heo};exact⟨u,k b u hbe q⟩
def K6 (h:Heap)(H:Hp):A01:=(List.range h.objs.size).filter λa=>(H a).isSome
def oA (h:Heap)(H:Hp):Heap:=PySem.W.hideAll h (K6 h H)
def EU(h:Heap)(H:Hp):(oA h H).objs.size=h.objs.size:=PySem.W.hideAll_size _ _
def JY{h:Heap}{H:Hp}{b:Addr}{o:Obj}(e:h.get? b=some o)(n:H b=none):(oA h H).get? b=some o:=
 PySem.W.hideAll_get _ e λhm=>by have q:(H b).isSome=true:=(Wr.mp hm).2;rw[n]at q;simp at q
def LL{h:Heap}{H:Hp}{b:Addr}{o:Obj}(e:(oA h H).get? b=some o):h.get? b=some o/\H b=none:=by
 have e':h.get? b=some o:=PySem.W.of_hideAll (K6 h H) e;refine⟨e',?_⟩;cases q:H b with
 |none=>rfl
 |some x=>have hm:b∈K6 h H:=Wr.mpr ⟨VD.mpr (VC e'),by simp[q]⟩;have z:(oA h H).get? b=none:=PySem.W.hideAll_none (K6 h H) hm;rw[z]at e;cases e
end
structure Mod(K:Zv)(mg:Zp)(base:Heap):Prop where
 BZ:K.In base
 glob:base.Ns mainGlobals mg
 blt:∃mb,base.Ns builtinsNs mb/\∀x:Str,x≠"__name__"->mb x=bootBuiltins x
 nolimit:base.NoLimit
structure Cx where
 prog:Program
 w:World
 K:Zv
 mg:Zp
 base:Heap
 A:Around
 N:A07
 s₀:Shared
 H₀:Hp
 env:Env
 outer:List Env
 stack:List Env
 ex:A01
 fn:Str->Bool
 calm:Bool
 pn:Zq
 xe:Zn
def frs (l:List Env):A01:=l.filterMap (·.frame)
abbrev Cx.fs (X:Cx):A01:=frs X.outer
def fX (sc:Scope) (x:Str):Prop:=sc.names.lookup x=some .local\/sc.names.lookup x=some .cell\/sc.names.lookup x=some .free
def Loc (sc:Scope) (x:Str):Prop:=sc.names.lookup x=some .local\/sc.names.lookup x=some .cell
def Look (env:Env)(h:Heap)(m:Zp) (x:Str)(u:Value):Prop:=
 (env.kindOf x=some .local/\m x=some u)\/((env.kindOf x=some .cell\/env.kindOf x=some .free)/\∃c,env.cells.lookup x=some c/\h.IsCell c (some u))
structure Cx.Ok(X:Cx):Prop where
 mod:Mod X.K X.mg X.base
 kind:X.env.scope.kind=.function
 glob:X.env.globals=mainGlobals
 blt:X.env.builtins=builtinsNs
 above:X.s₀.heap.objs.size<=X.env.locals
 inj:∀x y c,X.env.cells.lookup x=some c->X.env.cells.lookup y=some c->x=y
 has:∀x,(X.env.kindOf x=some .cell\/X.env.kindOf x=some .free)->∃c,X.env.cells.lookup x=some c
 Kz:∀x c,X.fn x=true->X.env.cells.lookup x=some c->X.s₀.heap.objs.size<=c
 hd:X.calm=true->X.A.handled=none
 frames:X.A.frames=some X.stack
 stk:X.stack=X.outer\/(X.stack=X.env::X.outer/\X.env.frame=some X.env.locals)
 UQ:∀b∈X.ex,b≠X.env.locals/\∀x c,X.env.cells.lookup x=some c->c≠b
 bs:∀b o,X.base.get? b=some o->X.s₀.heap.get? b=some o/\X.H₀ b=none
 BV:X.base.objs.size<=X.s₀.heap.objs.size
 CM:∀b o,X.base.get? b=some o->b∉X.ex
 JV:∀b∈X.ex,b∉X.fs
 l8:X.s₀.heap.FunFrames X.base X.outer
 HB:∀b∈X.fs,X.H₀ b=none
structure Inv(X:Cx)(pins:Zq)(U:List (Option V))(H:Hp)(s:Shared):Prop where
 ok:X.Ok
 os:s.os=X.s₀.os
 bare:AllBare s.gens
 base:Un X.fs X.ex X.H₀ H X.s₀.heap s.heap
 loc:∃m,s.heap.Ns X.env.locals m/\∀(i:Nat) (x:Str) (v:V),X.N[i]?=some x->U[i]?=some (some v)->fX X.env.scope x->∃u,RelV v u/\Look X.env s.heap m x u
 cell:∀x c,X.env.cells.lookup x=some c->∃v,s.heap.IsCell c v
 free:H X.env.locals=none
 j4:∀x c,X.env.cells.lookup x=some c->H c=none
 pin:∀p∈X.pn++pins,s.heap.get? p.1=some p.2/\H p.1=none/\p.1≠X.env.locals/\p.1∉X.fs/\∀v,p.2.data≠.cell v
 hok:dg X.prog X.w H s.heap
 len:U.length=X.N.length
section
variable{X:Cx}{pins:Zq}{U:List (Option V)}{H H':Hp}{s:Shared}{h':Heap}
def Cx.Ok.TN(ok:X.Ok){b:Addr}{o:Obj}(e:X.base.get? b=some o):b∉X.fs:=λhb=>by have:=(ok.l8.mem hb).1;rw[e]at this;cases this
theorem Inv.bs(I:Inv X pins U H s):∀b o,X.base.get? b=some o->s.heap.get? b=some o/\H b=none:=λb o e=>
 ⟨I.base.keep b o (I.ok.bs b o e).1 (I.ok.bs b o e).2 (I.ok.TN e) (I.ok.CM b o e),I.base.free b o (I.ok.bs b o e).1 (I.ok.bs b o e).2 (I.ok.CM b o e)⟩
def Inv.bk(I:Inv X pins U H s):∀b o,X.base.get? b=some o->s.heap.get? b=some o:=λb o e=>(I.bs b o e).1
theorem Inv.mod(I:Inv X pins U H s):Mod X.K X.mg X.base:=I.ok.mod
def Inv.iA(I:Inv X pins U H s):X.K.In s.heap:=I.ok.mod.BZ.keeps I.bk
theorem Inv.lt(I:Inv X pins U H s):X.env.locals<s.heap.objs.size:=let⟨_,hn,_⟩:=I.loc;hn.lt
def Inv.sz(I:Inv X pins U H s):X.s₀.heap.objs.size<=s.heap.objs.size:=VX I.ok.above (YW I.lt)
def Inv.OM(I:Inv X pins U H s){a:Addr}(h:s.heap.objs.size<=a):a∉X.fs:=λhb=>by obtain⟨_,o,ho,_⟩:=I.ok.l8.mem hb;exact absurd (Vt (VC ho) (VX I.sz h)) (Vz _)
def Inv.za(I:Inv X pins U H s):∀x c,X.env.cells.lookup x=some c->c≠X.env.locals:=λx c e z=>by obtain⟨v,o,ho,hd⟩:=I.cell x c e;obtain⟨m,⟨o',es,ep,ho',hd',_⟩,_⟩:=I.loc;rw[z,ho']at ho;cases ho;rw[hd']at hd;cases hd
theorem Inv.l8(I:Inv X pins U H s):s.heap.FunFrames X.base X.outer:=by
 have all:∀(l:List Env),(∀b∈frs l,b∈X.fs)->X.s₀.heap.FunFrames X.base l->s.heap.FunFrames X.base l:=by
  intro l;induction l with
  |nil=>intro _ _;trivial
  |cons env r ih=>intro hs hl;obtain⟨hk,⟨L,o,hf,hn,ho,hd⟩,hr⟩:=hl;have hL:L∈X.fs:=hs L (by unfold frs;rw[WR,hf];exact V3);obtain⟨sl,e⟩:=I.base.slot L o ho (I.ok.HB L hL) hL λz=>I.ok.JV L z hL;exact⟨hk,⟨L,_,hf,hn,e,hd⟩,ih (λb hb=>hs b (by unfold frs;rw[WR,hf];exact V8 _ hb)) hr⟩
 exact all X.outer (λ_ hb=>hb) I.ok.l8
theorem Inv.stack(I:Inv X pins U H s):s.heap.FunFrames X.base X.stack:=by rcases I.ok.stk with e|⟨e,hf⟩;{rw[e];exact I.l8};rw[e];obtain⟨m,hn,_⟩:=I.loc;refine .cons (by rw[I.ok.kind];decide) hf hn ?_ I.l8;exact ZF (VX I.ok.BV I.ok.above)
def Inv.m8(I:Inv X pins U H s):∀b∈frs X.stack,b∈X.env.locals::X.fs:=λb hb=>by rcases I.ok.stk with e|⟨e,hf⟩;{rw[e]at hb;exact V8 _ hb};rw[e]at hb;unfold frs at hb;rw[WR,hf]at hb;exact hb
def Inv.u9(I:Inv X pins U H s):∀b∈frs X.stack,H b=none:=λb hb=>by rcases VF.mp (I.m8 b hb)with e|hb;{rw[e];exact I.free};obtain⟨_,o,ho,_⟩:=I.ok.l8.mem hb;exact I.base.free b o ho (I.ok.HB b hb) λz=>I.ok.JV b z hb
def Inv.step{g':Array GenState}{t':Nat}{d':Drawn}{ch:A01}(I:Inv X pins U H s)(hch:∀b∈ch,(b∈X.ex\/X.s₀.heap.objs.size<=b)/\b≠X.env.locals/\(∀x c,X.env.cells.lookup x=some c->c≠b)/\∀p∈X.pn++pins,p.1≠b)(keep:∀b o,b≠X.env.locals->b∉X.fs->b∉ch->s.heap.get? b=some o->H b=none->h'.get? b=some o)(slot:∀b o,b≠X.env.locals->b∈X.fs->b∉ch->s.heap.get? b=some o->H b=none->∃sl,h'.get? b=some { o with slots:=sl })(free:∀b o,b∉ch->s.heap.get? b=some o->H b=none->H' b=none)(there:∀b o,b∉ch->s.heap.get? b=some o->∃o',h'.get? b=some o')(tups:∀b xs,H b=some (.tup xs)->H' b=some (.tup xs))(jK:∀b o u,H b=some (.cZ o u)->H' b=some (.cZ o u))(kM:∀b ps,H b=some (.xm ps)->∃more,H' b=some (.xm (ps++more)))(ns:∀m,s.heap.Ns X.env.locals m->h'.Ns X.env.locals m)(hok:dg X.prog X.w H' h')(hg:AllBare g') : Inv X pins U H' { s with heap:=h',gens:=g',drawn:=d',toks:=t' }:=by
 have neL:∀b o,X.s₀.heap.get? b=some o->b≠X.env.locals:=λb o e=>VO (Vt (VC e) I.ok.above);have neC:∀b o,X.s₀.heap.get? b=some o->b∉X.ex->b∉ch:=λb o e hx hb=>by rcases(hch b hb).1 with z|z;{exact hx z};exact absurd (Vt (VC e) z) (Vz _)
 have cellK:∀x c,X.env.cells.lookup x=some c->∀v,s.heap.IsCell c v->h'.IsCell c v:=λx c e v ⟨o,ho,hd⟩=>by have nch:c∉ch:=λz=>(hch c z).2.2.1 x c e rfl;by_cases hc:c∈X.fs;{obtain⟨sl,q⟩:=slot c o (I.za x c e) hc nch ho (I.j4 x c e);exact⟨_,q,hd⟩};exact⟨o,keep c o (I.za x c e) hc nch ho (I.j4 x c e),hd⟩
 refine⟨I.ok,I.os,hg,⟨λb o e n hb hx=>?_,λb o e n hb hx=>?_,λb o e n hx=>?_,λb o e hx=>?_,λb xs e=>tups b xs (I.base.tups b xs e),λb o xs e=>jK b o xs (I.base.jK b o xs e),λb ps e=>?_⟩,?_,λx c e=>?_,?_,λx c e=>?_,λp hp=>?_,hok,I.len⟩;{exact keep b o (neL b o e) hb (neC b o e hx) (I.base.keep b o e n hb hx) (I.base.free b o e n hx)};{obtain⟨sl,e1⟩:=I.base.slot b o e n hb hx;obtain⟨sl',e2⟩:=slot b _ (neL b o e) hb (neC b o e hx) e1 (I.base.free b o e n hx);exact⟨sl',e2⟩};{obtain⟨o',e1⟩:=I.base.there b o e hx;exact free b o' (neC b o e hx) e1 (I.base.free b o e n hx)};{obtain⟨o',e1⟩:=I.base.there b o e hx;exact there b o' (neC b o e hx) e1};{obtain⟨m1,e1⟩:=I.base.kM b ps e;obtain⟨m2,e2⟩:=kM b _ e1;exact⟨m1++m2,by rw[e2,Array.append_assoc]⟩};{obtain⟨m,hn,hl⟩:=I.loc;refine⟨m,ns m hn,λi x v e1 e2 e3=>?_⟩;obtain⟨u,r,l⟩:=hl i x v e1 e2 e3;refine⟨u,r,?_⟩;rcases l with l|⟨k,c,e,z⟩;{exact .inl l};exact .inr ⟨k,c,e,cellK x c e _ z⟩};{obtain⟨v,z⟩:=I.cell x c e;exact⟨v,cellK x c e v z⟩};{obtain⟨m,⟨o,_,_,ho,_⟩,_⟩:=I.loc;exact free _ o (λz=>(hch _ z).2.1 rfl) ho I.free};{obtain⟨v,o,ho,hd⟩:=I.cell x c e;exact free c o (λz=>(hch c z).2.2.1 x c e rfl) ho (I.j4 x c e)};obtain⟨e,n,ne,nf,d⟩:=I.pin p hp;have nch:p.1∉ch:=λz=>(hch p.1 z).2.2.2 p hp rfl;exact⟨keep p.1 p.2 ne nf nch e n,free p.1 p.2 nch e n,ne,nf,d⟩
def Inv.un{t':Nat}(I:Inv X pins U H s)(u:Un X.fs [] H H' s.heap h')(hok:dg X.prog X.w H' h'):Inv X pins U H' { s with heap:=h',toks:=t' }:=by
 obtain⟨m,⟨o,es,ep,ho,r⟩,_⟩:=id I.loc;obtain⟨sl,hL⟩:=u.any ho I.free (by simp);exact I.step (g':=s.gens) (d':=s.drawn) (ch:=[]) (λ_ z=>nomatch z) (λb o _ hb _ e n=>u.keep b o e n hb (by simp)) (λb o _ hb _ e n=>u.slot b o e n hb (by simp)) (λb o _ e n=>u.free b o e n (by simp)) (λb o _ e=>u.there b o e (by simp)) u.tups u.jK u.kM (λm' hm=>by
  obtain⟨o',es',ep',ho',r'⟩:=hm;rw[ho]at ho';cases ho';exact⟨_,es',ep',hL,r'⟩) hok I.bare
def Inv.call{g':Array GenState}{t':Nat}{d':Drawn}{ch:A01}(I:Inv X pins U H s)(u:Un (frs X.stack) ch H H' s.heap h')(hok:dg X.prog X.w H' h')(hg:AllBare g')(hch:∀b∈ch,(b∈X.ex\/X.s₀.heap.objs.size<=b)/\b≠X.env.locals/\(∀x c,X.env.cells.lookup x=some c->c≠b)/\∀p∈X.pn++pins,p.1≠b) : Inv X pins U H' { s with heap:=h',gens:=g',drawn:=d',toks:=t' }:=by
 obtain⟨m,⟨o,es,ep,ho,r⟩,_⟩:=id I.loc;obtain⟨sl,hL⟩:=u.any ho I.free λz=>(hch _ z).2.1 rfl;exact I.step (ch:=ch) hch (λb o hL hb hc e n=>u.keep b o e n (λz=>(VF.mp (I.m8 b z)).elim hL hb) hc) (λb o _ _ hc e n=>u.any e n hc) (λb o hc e n=>u.free b o e n hc) (λb o hc e=>u.there b o e hc) u.tups u.jK u.kM (λm' hm=>by
  obtain⟨o',es',ep',ho',r'⟩:=hm;rw[ho]at ho';cases ho';exact⟨_,es',ep',hL,r'⟩) hok hg
def Inv.turned{t':Nat}{it:Addr}(I:Inv X pins U H s)(k:∀b o,b≠it->s.heap.get? b=some o->h'.get? b=some o)(hn:H it=none)(hL:it≠X.env.locals)(h1:it∈X.ex\/X.s₀.heap.objs.size<=it)(h2:∀x c,X.env.cells.lookup x=some c->c≠it)(h3:∀p∈X.pn++pins,p.1≠it):Inv X pins U H { s with heap:=h',toks:=t' }:=by
 have nit:∀b u,H b=some u->b≠it:=λb u e z=>by rw[z,hn]at e;cases e
 refine I.step (g':=s.gens) (d':=s.drawn) (ch:=[it]) (λb hb=>?_) (λb o _ _ hc e _=>k b o (λz=>hc (by simp[z])) e) (λb o _ _ hc e _=>⟨o.slots,k b o (λz=>hc (by simp[z])) e⟩) (λ_ _ _ _ n=>n)
  (λb o hc e=>⟨o,k b o (λz=>hc (by simp[z])) e⟩) (λ_ _ e=>e) (λ_ _ _ e=>e) (λb ps e=>⟨#[],by rw[e];simp⟩) (λm hm=>?_) (λb u e=>?_) I.bare
 .have e:b=it:=by simpa using hb
  subst e;exact⟨h1,hL,h2,h3⟩
 .obtain⟨o,es,ep,ho,r⟩:=hm;exact⟨o,es,ep,k _ o (Ne.symm hL) ho,r⟩
 refine(I.hok b u e).stay (λc v hc q=>k c v ?_ q) (λ_ q=>q) λ_ _ q=>q;rcases hc with z|z;{rw[z];exact nit b u e};exact nit c _ z
def Inv.tok(I:Inv X pins U H s) (t:Nat):Inv X pins U H { s with toks:=t }:=I.un (h':=s.heap) (t':=t) Un.refl I.hok
theorem Inv.kept{t':Nat}(I:Inv X pins U H s)(k:∀b u,s.heap.get? b=some u->h'.get? b=some u):Inv X pins U H { s with heap:=h',toks:=t' }:=I.un (Un.kept k) (I.hok.kept k)
theorem Inv.laid{a:Addr}{o:HO}{t':Nat}(I:Inv X pins U H s)(k:∀b u,s.heap.get? b=some u->h'.get? b=some u)(hp:s.heap.objs.size<=a)(new:bC X.prog X.w (upd H a o) h' a o) : Inv X pins U (upd H a o) { s with heap:=h',toks:=t' }:=I.un (Un.laid k hp (I.hok.fresh hp)) (I.hok.laid k hp new)
theorem Inv.write{x e:Addr}{o:HO}{t':Nat}(I:Inv X pins U H s)(mu:Hs (H x))(he:e=x\/H e=some (.own x))(k:∀b u,b≠e->s.heap.get? b=some u->h'.get? b=some u)(heo:∃u,h'.get? e=some u)(new:bC X.prog X.w (upd H x o) h' x o):Inv X pins U (upd H x o) { s with heap:=h',toks:=t' }:=I.un (Un.write mu he k heo) (I.hok.write mu he k heo new)
def Inv.i9{pins':Zq}(I:Inv X pins U H s)(h:∀p∈pins',s.heap.get? p.1=some p.2/\H p.1=none/\p.1≠X.env.locals/\p.1∉X.fs/\∀v,p.2.data≠.cell v):Inv X pins' U H s:=
 ⟨I.ok,I.os,I.bare,I.base,I.loc,I.cell,I.free,I.j4,λp hp=>(VU.mp hp).elim (λz=>I.pin p (YX _ z)) (h p),I.hok,I.len⟩
def Aa{N:A07}(hN:N.Nodup){i j:Nat}{x:Str}(a:N[i]?=some x)(b:N[j]?=some x):i=j:=by obtain⟨h1,e1⟩:=Wj.mp a;obtain⟨h2,e2⟩:=Wj.mp b;exact(List.getElem_inj hN).mp (e1.trans e2.symm)
def qj{M:Model}{A:Around}{E:Zn}{i:Nat}{x:Str}{v:V}{u:Value}{Q:Unit->Shared->Prop}(I:Inv X pins U H s)(hN:X.N.Nodup)(hi:X.N[i]?=some x)(hx:Loc X.env.scope x)(r:RelV v u)(h:∀s',Inv X pins (U.set i (some v)) H s'->(∃a,Heap.SameBut a s.heap s'.heap/\(a=X.env.locals\/X.env.cells.lookup x=some a))->Q () s')(hf:X.fn x=true\/X.env.scope.names.lookup x=some .local:=by first|exact .inl rfl|exact .inr rfl|assumption):wpAny M A (storeName X.env x u) Q E s:=by
 obtain⟨m,hn,hl⟩:=id I.loc;have hcls:(X.env.scope.kind == .class||(X.env.scope.kind == .module&&X.env.locals != X.env.globals))=false:=by rw[I.ok.kind];rfl
 have hiσ:i<U.length:=by rw[I.len];exact(Wj.mp hi).1
 have za:=I.za;have tracked:∀{a:Addr}{h':Heap},(∃o,s.heap.get? a=some o/\H a=none)->Heap.SameBut a s.heap h'->dg X.prog X.w H h':=λ{a h'} ha hs b ob e=>by obtain⟨_,_,hfree⟩:=ha;refine(I.hok b ob e).stay (λc w' hc q=>(hs.2 c ?_).trans q) (λ_ q=>q) λ_ _ q=>q;rintro rfl;rcases hc with rfl|hc;{rw[hfree]at e;cases e};rw[hfree]at hc;cases hc
 rcases hx with hk|hk;{refine wpAny_storeName_local hk hn (λh' hn' hs=>?_) hcls;obtain⟨oL,_,_,hoL,_⟩:=id hn;refine h _ ⟨I.ok,I.os,I.bare,⟨λb o e n hb hx=>?_,λb o e n hb hx=>?_,I.base.free,λb o e hx=>?_,I.base.tups,I.base.jK,I.base.kM⟩,⟨_,hn',λj y v' e1 e2 e3=>?_⟩,λy c e=>?_,I.free,I.j4,λp hp=>?_,tracked ⟨oL,hoL,I.free⟩ hs,by simpa using I.len⟩ ⟨_,hs,.inl rfl⟩;{exact(hs.2 b (VO (Vt (VC e) I.ok.above))).trans (I.base.keep b o e n hb hx)};{obtain⟨sl,e1⟩:=I.base.slot b o e n hb hx;exact⟨sl,(hs.2 b (VO (Vt (VC e) I.ok.above))).trans e1⟩};{obtain⟨o',e1⟩:=I.base.there b o e hx;exact⟨o',(hs.2 b (VO (Vt (VC e) I.ok.above))).trans e1⟩};{by_cases hj:j=i;{subst hj;rw[hi]at e1;cases e1;rw[Xa hiσ]at e2;cases e2;exact⟨u,r,.inl ⟨hk,by simp⟩⟩};rw[Ws (Ne.symm hj)]at e2;obtain⟨u',r',q⟩:=hl j y v' e1 e2 e3;refine⟨u',r',?_⟩;rcases q with⟨k,e⟩|⟨k,c,e,z⟩;{refine .inl ⟨k,?_⟩;have:y≠x:=λe=>hj (Aa hN e1 (e▸hi));simp[this,e]};exact .inr ⟨k,c,e,z.sameBut hs (za y c e)⟩};{obtain⟨w',z⟩:=I.cell y c e;exact⟨w',z.sameBut hs (za y c e)⟩};obtain⟨e,n,ne,nf,d⟩:=I.pin p hp;exact⟨(hs.2 p.1 ne).trans e,n,ne,nf,d⟩};have hfn:X.fn x=true:=by rcases hf with z|z;{exact z};rw[z]at hk;cases hk
 obtain⟨c,hc⟩:=I.ok.has x (.inl hk);obtain⟨w',z⟩:=I.cell x c hc;refine wpAny_storeName_cell I.ok.kind hk hc z (λh' hc' hs=>?_);obtain⟨oc,hoc,hocd⟩:=id z;refine h { s with heap:=h' } ⟨I.ok,I.os,I.bare,⟨λb o e n hb hx=>?_,λb o e n hb hx=>?_,I.base.free,λb o e hx=>?_,I.base.tups,I.base.jK,I.base.kM⟩,⟨m,hn.sameBut hs (Ne.symm (za x c hc)),λj y v' e1 e2 e3=>?_⟩,λy c' e=>?_,I.free,I.j4,λp hp=>?_,tracked ⟨oc,hoc,I.j4 x c hc⟩ hs,by simpa using I.len⟩ ⟨c,hs,.inr hc⟩;{exact(hs.2 b (VO (Vt (VC e) (I.ok.Kz x c hfn hc)))).trans (I.base.keep b o e n hb hx)};{obtain⟨sl,e1⟩:=I.base.slot b o e n hb hx;exact⟨sl,(hs.2 b (VO (Vt (VC e) (I.ok.Kz x c hfn hc)))).trans e1⟩};{obtain⟨o',e1⟩:=I.base.there b o e hx;exact⟨o',(hs.2 b (VO (Vt (VC e) (I.ok.Kz x c hfn hc)))).trans e1⟩};{by_cases hj:j=i;{subst hj;rw[hi]at e1;cases e1;rw[Xa hiσ]at e2;cases e2;exact⟨u,r,.inr ⟨.inl hk,c,hc,hc'⟩⟩};rw[Ws (Ne.symm hj)]at e2;obtain⟨u',r',q⟩:=hl j y v' e1 e2 e3;refine⟨u',r',?_⟩;rcases q with q|⟨k,c',e,z'⟩;{exact .inl q};refine .inr ⟨k,c',e,z'.sameBut hs ?_⟩;rintro rfl;exact hj (Aa hN e1 (I.ok.inj _ _ _ e hc▸hi))};{by_cases hcc:c'=c;{subst hcc;exact⟨_,hc'⟩};obtain⟨w2,z2⟩:=I.cell y c' e;exact⟨w2,z2.sameBut hs hcc⟩};obtain⟨e,n,ne,nf,d⟩:=I.pin p hp;refine⟨(hs.2 p.1 ?_).trans e,n,ne,nf,d⟩;intro q;rw[q,hoc]at e;have q':oc=p.2:=Option.some.inj e;exact d w' (by rw[<-q'];exact hocd)
def rX{M:Model}{A:Around}{E:Zn}{i:Nat}{x:Str}{v:V}{u:Value}{Q:Unit->Shared->Prop}(I:Inv X pins U H s)(hN:X.N.Nodup)(hi:X.N[i]?=some x)(hx:Loc X.env.scope x)(r:RelV v u)(h:∀s',Inv X pins (U.set i (some v)) H s'->Q () s')(hf:X.fn x=true\/X.env.scope.names.lookup x=some .local:=by first|exact .inl rfl|exact .inr rfl|assumption):wpAny M A (storeName X.env x u) Q E s:=
 qj I hN hi hx r (λs' I' _=>h s' I') hf
def Inv.Dy{s':Shared}{ch:A01}(I:Inv X pins U H s)(ho:s'.os=s.os)(u:Un (frs X.stack) ch H H' s.heap s'.heap)(hok:dg X.prog X.w H' s'.heap)(hg:AllBare s'.gens)(hch:∀b∈ch,(b∈X.ex\/X.s₀.heap.objs.size<=b)/\b≠X.env.locals/\(∀x c,X.env.cells.lookup x=some c->c≠b)/\∀p∈X.pn++pins,p.1≠b):Inv X pins U H' s':=by obtain⟨h',g',d',t',o'⟩:=s';have e:o'=s.os:=ho;subst e;exact I.call (g':=g') (t':=t') (d':=d') u hok hg hch
abbrev XK:=Value->Zz->Hp->Prop
abbrev St:=List (Option V)
abbrev VK:=V->Hp->Prop
abbrev TE:=St->Hp->VK->Prop
abbrev TT:=St->Hp->(Bool->Hp->Prop)->Prop
abbrev TA:=St->Hp->(List V->Hp->Prop)->Prop
end
structure Ends where
 nx:St->Hp->Prop
 rt:VK
 bk:St->Hp->Prop:=λ_ _=>False
 ct:St->Hp->Prop:=λ_ _=>False
abbrev TS:=Ends->St->Hp->Prop
def EP (X:Cx)(pins:Zq)(U:St)(Q:VK)(u:Value)(s':Shared):Prop:=∃v H',Inv X pins U H' s'/\RelV v u/\Q v H'
def TP (X:Cx)(pins:Zq)(U:St)(Q:Bool->Hp->Prop)(b:Bool)(s':Shared):Prop:=∃H',Inv X pins U H' s'/\Q b H'
def AP (X:Cx)(pins:Zq)(U:St)(Q:List V->Hp->Prop)(us:A00)(s':Shared):Prop:=∃vs H',Inv X pins U H' s'/\Vals vs us/\Q vs H'
def SP (X:Cx)(pins:Zq)(D:Ends)(f:Flow)(s':Shared):Prop:=
 match f with
 |.next=>∃σ' H',Inv X pins σ' H' s'/\D.nx σ' H'
 |.brk=>∃σ' H',Inv X pins σ' H' s'/\D.bk σ' H'
 |.cont=>∃σ' H',Inv X pins σ' H' s'/\D.ct σ' H'
 |.ret u=>∃v σ' H',Inv X pins σ' H' s'/\RelV v u/\D.rt v H'
def PE (X:Cx)(e:Expr)(t:TE):Prop:=
 ∀(pins:Zq)(s:Shared)(U:St)(H:Hp)(Q:VK),Inv X pins U H s->t U H Q->wpAny (model X.prog X.w) X.A (eval e X.env) (EP X pins U Q) X.xe s
def PT (X:Cx)(e:Expr)(t:TT):Prop:=
 ∀(pins:Zq)(s:Shared)(U:St)(H:Hp)(Q:Bool->Hp->Prop),Inv X pins U H s->t U H Q->wpAny (model X.prog X.w) X.A (isTrue e X.env (eval e X.env)) (TP X pins U Q) X.xe s
def PW (X:Cx)(e:Expr)(t:TT):Prop:=
 ∀(whole:Sem Value)(pins:Zq)(s:Shared)(U:St)(H:Hp)(Q:Bool->Hp->Prop),Inv X pins U H s->t U H Q->wpAny (model X.prog X.w) X.A (isTrue e X.env whole) (TP X pins U Q) X.xe s
def PW.pt{X:Cx}{e:Expr}{t:TT}(h:PW X e t):PT X e t:=h _
def PA (X:Cx)(es:A03)(t:TA):Prop:=
 ∀(pos:Pos)(pins:Zq)(s:Shared)(U:St)(H:Hp)(Q:List V->Hp->Prop),Inv X pins U H s->t U H Q->wpAny (model X.prog X.w) X.A (spliced (backTo pos (starEach es X.env))) (AP X pins U Q) X.xe s
def PS (X:Cx)(st:Stmt)(t:TS):Prop:=
 ∀(pins:Zq)(s:Shared)(U:St)(H:Hp)(D:Ends),Inv X pins U H s->t D U H->wpAny (model X.prog X.w) X.A (exec st X.env) (SP X pins D) X.xe s
def oR (X:Cx)(st:A04)(t:TS):Prop:=
 ∀(pins:Zq)(s:Shared)(U:St)(H:Hp)(D:Ends),Inv X pins U H s->t D U H->wpAny (model X.prog X.w) X.A (execs st X.env) (SP X pins D) X.xe s
def aH{α:Type}{t:Sem α}{Q Q':α->Shared->Prop}{M:Model}{A:Around}{E:Zn}{s:Shared}(h:wpAny M A t Q E s)(hQ:∀a s,Q a s->Q' a s):wpAny M A t Q' E s:=Vw h hQ λ_ _ x=>x
section
variable{X:Cx}
inductive K9(i:Nat)(U:St)(H:Hp)(Q:VK):Prop
 |mk:∀v,(U[i]?=some (some v))->(Q v H)->K9 i U H Q
def kI (i:Nat):TE:=λU H Q=>K9 i U H Q
def tC (v:V):TE:=λ_ H Q=>Q v H
def cL{i:Nat}{x:Str}{pos:Pos}(hN:X.N[i]?=some x)(hv:fX X.env.scope x)(hd:(x==("__debug__":Str))=false:=by decide)(hcd:(x==("__classdict__":Str))=false:=by decide):PE X (.Name x pos) (kI i):=by intro pins s U H Q I h;obtain⟨v,e,h⟩:=h;obtain⟨m,hn,hl⟩:=I.loc;obtain⟨u,r,l⟩:=hl i x v hN e hv;have fin:EP X pins U Q u s:=⟨v,H,I,r,h⟩;rcases l with⟨hk,hm⟩|⟨hk,c,hc,hcell⟩;{exact wpAny_Name (wpAny_loadName_local I.ok.kind hk hn hm fin) hd};rcases hk with hk|hk;{exact wpAny_Name (wpAny_loadName_cell I.ok.kind hk hc hcell fin) hd};exact wpAny_Name (wpAny_loadName_free I.ok.kind hk hc hcell fin hcd) hd
def PM{i j pos}:PE X (.Constant (.int i) j pos) (tC (.int i)):=λ_ _ _ H _ I h=>wpAny_Constant_int ⟨.int i,H,I.tok _,⟨_,rfl⟩,h⟩
def Rm{b j pos}:PE X (.Constant (.bool b) j pos) (tC (.bl b)):=λ_ _ _ H _ I h=>Constant_bool ⟨.bl b,H,I,rfl,h⟩
def Qy{j pos}:PE X (.Constant .none j pos) (tC .aW):=λ_ _ _ H _ I h=>Constant_none ⟨.aW,H,I,rfl,h⟩
def EK{x j pos}:PE X (.Constant (.str x) j pos) (tC (.str x)):=λ_ _ _ H _ I h=>Calls.Constant_str ⟨.str x,H,I.tok _,⟨_,rfl⟩,h⟩
def Gl (X:Cx) (x:Str):Prop:=X.env.kindOf x=some .globalImplicit
def vP{E:Zn}{pins:Zq}{s:Shared}{U:St}{H:Hp}{x:Str}{u:Value}{pos:Pos}{Q:Zn}(I:Inv X pins U H s)(hg:Gl X x)(hm:X.mg x=some u)(h:Q u s)(hd:(x==("__debug__":Str))=false:=by decide):wpAny (model X.prog X.w) X.A (eval (.Name x pos) X.env) Q E s:=
 Calls.Name_function_global I.ok.kind hg (Calls.loadGlobal_global (by rw[I.ok.glob];exact I.mod.glob.keeps I.bk) hm h) hd
def iQ{E:Zn}{pins:Zq}{s:Shared}{U:St}{H:Hp}{x:Str}{u:Value}{pos:Pos}{Q:Zn}(I:Inv X pins U H s)(hg:Gl X x)(hm:X.mg x=none)(hv:bootBuiltins x=some u)(h:Q u s)(hn:x≠"__name__":=by decide)(hd:(x==("__debug__":Str))=false:=by decide):wpAny (model X.prog X.w) X.A (eval (.Name x pos) X.env) Q E s:=by obtain⟨mb,h1,h2⟩:=I.mod.blt;exact Calls.Name_function_global I.ok.kind hg (Calls.loadGlobal_builtin (by rw[I.ok.glob];exact I.mod.glob.keeps I.bk) hm (by rw[I.ok.blt];exact h1.keeps I.bk) ((h2 x hn).trans hv) h) hd
def Mt{x:Str}{v:V}{u:Value}{pos:Pos}(hg:Gl X x)(hm:X.mg x=some u)(r:RelV v u)(hd:(x==("__debug__":Str))=false:=by decide):PE X (.Name x pos) (tC v):=
 λ_ _ _ H _ I h=>vP I hg hm ⟨v,H,I,r,h⟩ hd
def Mm{x:Str}{v:V}{u:Value}{pos:Pos}(hg:Gl X x)(hm:X.mg x=none)(hv:bootBuiltins x=some u)(r:RelV v u)(hn:x≠"__name__":=by decide)(hd:(x==("__debug__":Str))=false:=by decide):PE X (.Name x pos) (tC v):=
 λ_ _ _ H _ I h=>iQ I hg hm hv ⟨v,H,I,r,h⟩ hn hd
variable{a b:Expr}{ta tb:TE}{pos:Pos}
variable{tA tB':TT}{rest:A03}
def UC (t u:TT):TT:=λU H Q=>t U H λc H1=>if c=true then u U H1 Q else Q false H1
def Vp (t u:TT):TT:=λU H Q=>t U H λc H1=>if c=true then Q true H1 else u U H1 Q
def Ua (t:TT):TT:=λU H Q=>t U H λc H1=>Q (!c) H1
def pw_and1(ha:PT X a tA):PW X (.BoolOp .And [a] pos) tA:=by
 intro wh pins s U H Q I h;refine isTrue_and (aH (ha pins s U H Q I h) λc s1 e=>?_);cases c with
 |true=>exact isTrue_and_nil e
 |false=>exact e
def pw_or1(ha:PT X a tA):PW X (.BoolOp .Or [a] pos) tA:=by
 intro wh pins s U H Q I h;refine isTrue_or (aH (ha pins s U H Q I h) λc s1 e=>?_);cases c with
 |false=>exact isTrue_or_nil e
 |true=>exact e
def pw_and(ha:PT X a tA)(hb:PW X (.BoolOp .And (b::rest) pos) tB'):PW X (.BoolOp .And (a::b::rest) pos) (UC tA tB'):=by
 intro wh pins s U H Q I h;refine isTrue_and (aH (ha pins s U H _ I h) λc s1 ⟨H1,I1,q1⟩=>?_);cases c with
 |true=>exact hb wh pins s1 U H1 Q I1 q1
 |false=>exact⟨H1,I1,q1⟩
def pw_or(ha:PT X a tA)(hb:PW X (.BoolOp .Or (b::rest) pos) tB'):PW X (.BoolOp .Or (a::b::rest) pos) (Vp tA tB'):=by
 intro wh pins s U H Q I h;refine isTrue_or (aH (ha pins s U H _ I h) λc s1 ⟨H1,I1,q1⟩=>?_);cases c with
 |true=>exact⟨H1,I1,q1⟩
 |false=>exact hb wh pins s1 U H1 Q I1 q1
def O9(ha:PT X a tA):PT X (.UnaryOp .Not a pos) (Ua tA):=by intro pins s U H Q I h;exact isTrue_not (ha pins s U H (λc H1=>Q (!c) H1) I h)
inductive EA(tb:TE)(U:St)(Q:VK) (x:V)(H1:Hp):Prop
 |mk:∀c,(x=.bl c)->(if c=true then tb U H1 Q else Q (.bl false) H1)->EA tb U Q x H1
def RV (ta tb:TE):TE:=λU H Q=>ta U H λx H1=>EA tb U Q x H1
inductive Li(tb:TE)(U:St)(Q:VK) (x:V)(H1:Hp):Prop
 |mk:∀c,(x=.bl c)->(if c=true then Q (.bl true) H1 else tb U H1 Q)->Li tb U Q x H1
def UD (ta tb:TE):TE:=λU H Q=>ta U H λx H1=>Li tb U Q x H1
def PD{op}{t:TE}(h:PE X a t):PE X (.BoolOp op [a] pos) t:=λpins s U H Q I hw=>BoolOp_one (h pins s U H Q I hw)
def Oo(ha:PE X a ta)(hb:PE X (.BoolOp .And (b::rest) pos) tb):PE X (.BoolOp .And (a::b::rest) pos) (RV ta tb):=by
 intro pins s U H Q I h;refine BoolOp_and (aH (ha pins s U H _ I h) λv s1 ⟨x,H1,I1,r1,q1⟩=>?_);obtain⟨c,rfl,q1⟩:=q1;cases r1;refine XG ?_;cases c with
 |true=>exact hb pins s1 U H1 Q I1 q1
 |false=>exact⟨.bl false,H1,I1,rfl,q1⟩
def Sd(ha:PE X a ta)(hb:PE X (.BoolOp .Or (b::rest) pos) tb):PE X (.BoolOp .Or (a::b::rest) pos) (UD ta tb):=by
 intro pins s U H Q I h;refine BoolOp_or (aH (ha pins s U H _ I h) λv s1 ⟨x,H1,I1,r1,q1⟩=>?_);obtain⟨c,rfl,q1⟩:=q1;cases r1;refine XG ?_;cases c with
 |false=>exact hb pins s1 U H1 Q I1 q1
 |true=>exact⟨.bl true,H1,I1,rfl,q1⟩
def UH (t:TT)(ta tb:TE):TE:=λU H Q=>t U H λc H1=>if c=true then ta U H1 Q else tb U H1 Q
def IK{c:Expr}(hc:PT X c tA)(ha:PE X a ta)(hb:PE X b tb):PE X (.IfExp c a b pos) (UH tA ta tb):=by
 intro pins s U H Q I h;refine wpAny_IfExp (aH (hc pins s U H _ I h) λd s1 ⟨H1,I1,q1⟩=>?_);cases d with
 |true=>exact ha pins s1 U H1 Q I1 q1
 |false=>exact hb pins s1 U H1 Q I1 q1
end
def bH (K:Zv)(H:Hp)(a:Addr)(xs:List V):Prop:=
 Rd H a (.lst xs) \/
  ∃(o:Obj)(its:Zx) (n:Nat),K.lookup a=some o/\o.cls=.type "list"/\o.dict=none/\o.data=.seq its n/\its.size<=sizeLine/\Vals xs its.toList
def bR (K:Zv)(H:Hp)(a:Addr)(xs:List V):Prop:=
 Rd H a (.tup xs) \/
  ∃(o:Obj)(its:Zx) (n:Nat),K.lookup a=some o/\o.cls=.type "tuple"/\o.data=.seq its n/\its.size<=sizeLine/\Vals xs its.toList
def Uz:Value->Option V
 |.none=>some .aW
 |.bool b=>some (.bl b)
 |.int i _=>some (.int i)
 |.str x _=>some (.str x)
 |.bytes b _=>some (.mP b)
 |.float b _=>some (.By b)
 |.ref a=>some (.ref a)
 |.type n=>some (.ty n)
 |_=>none
def RelV.abs{x:V}{u:Value}(r:RelV x u):Uz u=some x:=by
 cases x with
 |aW=>cases r;rfl
 |bl _=>cases r;rfl
 |int _=>obtain⟨t,rfl⟩:=r;rfl
 |str _=>obtain⟨t,rfl⟩:=r;rfl
 |mP _=>obtain⟨t,rfl⟩:=r;rfl
 |By _=>obtain⟨t,rfl⟩:=r;rfl
 |ref _=>cases r;rfl
 |ty _=>cases r;rfl
theorem RelV.inj{x y:V}{u:Value}(r:RelV x u)(q:RelV y u):x=y:=Option.some.inj (r.abs.symm.trans q.abs)
theorem Vals.inj{xs ys:List V}{us:A00}(h:Vals xs us)(h':Vals ys us):xs=ys:=by
 induction h generalizing ys with
 |nil=>cases h';rfl
 |cons r t ih=>cases h' with|cons r' t'=>rw[r.inj r',ih t']
section
variable{X:Cx}{pins:Zq}{U:St}{H:Hp}{s:Shared}{a:Addr}{xs ys:List V}
def bH.of{K:Zv}(h:H a=some (.lst xs)):bH K H a xs:=.inl (.inl h)
def bR.of{K:Zv}(h:H a=some (.tup xs)):bR K H a xs:=.inl (.inl h)
def Inv.list(I:Inv X pins U H s)(h:bH X.K H a xs):∃its:A00,Vals xs its/\PlainL s.heap a its.toArray/\xs.length<=sizeLine:=by rcases h with h|⟨o,its,n,hk,hc,hd,hs,hz,r⟩;{obtain⟨z,its,n,r,e⟩:=h.ok I.hok;exact⟨its,r,⟨_,n,e,rfl,rfl,rfl⟩,z⟩};refine⟨its.toList,r,⟨o,n,I.iA a o hk,hc,hd,by simpa using hs⟩,?_⟩;have e:=r.length;simp only[Wa]at e;lia
def Inv.tuple(I:Inv X pins U H s)(h:bR X.K H a xs):∃its:A00,Vals xs its/\IsTup s.heap a its.toArray/\xs.length<=sizeLine:=by rcases h with h|⟨o,its,n,hk,hc,hs,hz,r⟩;{obtain⟨z,its,r,p⟩:=h.ok I.hok;exact⟨its,r,p,z⟩};refine⟨its.toList,r,⟨o,I.iA a o hk,hc,n,by simpa using hs⟩,?_⟩;have e:=r.length;simp only[Wa]at e;lia
def Inv.nV(I:Inv X pins U H s)(h:bH X.K H a xs)(h':bH X.K H a ys):xs=ys:=by
 obtain⟨its,r,⟨o,n,e,_,_,d⟩,_⟩:=I.list h;obtain⟨its',r',⟨o',n',e',_,_,d'⟩,_⟩:=I.list h';rw[e]at e';cases e';rw[d]at d';injection d' with d1 _;have:its=its':=by simpa using congrArg Array.toList d1
 subst this;exact r.inj r'
def Inv.GS(I:Inv X pins U H s)(h:bR X.K H a xs)(h':bR X.K H a ys):xs=ys:=by
 obtain⟨its,r,⟨o,e,_,n,d⟩,_⟩:=I.tuple h;obtain⟨its',r',⟨o',e',_,n',d'⟩,_⟩:=I.tuple h';rw[e]at e';cases e';rw[d]at d';injection d' with d1 _;have:its=its':=by simpa using congrArg Array.toList d1
 subst this;exact r.inj r'
variable{st:Stmt}{rest:A04}{t u:TS}{e:Expr}{te:TE}{pos:Pos}
def Q6:TS:=λD U H=>D.nx U H
def UB (t u:TS):TS:=λD U H=>t { D with nx:=u D } U H
def MZ:oR X [] Q6:=λ_ _ U H _ I h=>YY ⟨U,H,I,h⟩
def z0(h1:PS X st t)(h2:oR X rest u):oR X (st::rest) (UB t u):=by
 intro pins s U H D I h;refine wpAny_execs_cons (aH (h1 pins s U H { D with nx:=u D } I h) λf s1 q=>?_);cases f with
 |next=>obtain⟨σ',H',I',q⟩:=q;exact h2 pins s1 σ' H' D I' q
 |ret v=>exact q
 |brk=>exact q
 |cont=>exact q
def Mx(h1:PS X st t):oR X [st] t:=by
 intro pins s U H D I h;refine wpAny_execs_cons (aH (h1 pins s U H D I h) λf s1 q=>?_);cases f with
 |next=>exact YY q
 |ret v=>exact q
 |brk=>exact q
 |cont=>exact q
def Inv.quiet{pins:Zq}{U:St}{H:Hp}{s:Shared}(I:Inv X pins U H s):interactive X.env=false:=by simp[interactive,I.ok.kind]
def RI (te:TE):TS:=λD U H=>te U H λ_ H1=>D.nx U H1
def M6(he:PE X e te)(hs:swapsWith e none pos.line X.env=pure false:=by rfl):PS X (.Expr e pos) (RI te):=by intro pins s U H D I h;exact wpAny_Expr_any (aH (he pins s U H _ I h) λv s1 ⟨x,H1,I1,r1,q1⟩=>⟨U,H1,I1,q1⟩) I.quiet hs
def Us (te:TE):TS:=λD U H=>te U H D.rt
def HK(he:PE X e te):PS X (.Return (some e) pos) (Us te):=by intro pins s U H D I h;exact wpAny_Return_some (aH (he pins s U H _ I h) λv s1 ⟨x,H1,I1,r1,q1⟩=>⟨x,U,H1,I1,r1,q1⟩)
def Uk (c:TT)(t u:TS):TS:=λD U H=>c U H λb H1=>if b=true then t D U H1 else u D U H1
def Rg{c:Expr}{a b:A04}{tc:TT}(hc:PT X c tc)(ha:oR X a t)(hb:oR X b u):PS X (.If c a b pos) (Uk tc t u):=by
 intro pins s U H D I h;refine wpAny_If (aH (hc pins s U H _ I h) λd s1 ⟨H1,I1,q1⟩=>?_);cases d with
 |true=>exact ha pins s1 U H1 D I1 q1
 |false=>exact hb pins s1 U H1 D I1 q1
abbrev TG:=V->St->Hp->(St->Hp->Prop)->Prop
abbrev rE:=List V->St->Hp->(St->Hp->Prop)->Prop
def PG (X:Cx)(target:Expr)(t:TG):Prop:=
 ∀(pins:Zq)(s:Shared)(U:St)(H:Hp) (v:V)(u:Value)(Q:St->Hp->Prop),Inv X pins U H s->RelV v u->t v U H Q->
  wpAny (model X.prog X.w) X.A (assign target X.env u) (λ_ s'=>∃σ' H',Inv X pins σ' H' s'/\Q σ' H') X.xe s
def GG (X:Cx)(ts:A03)(t:rE):Prop:=
 ∀(pins:Zq)(s:Shared)(U:St)(H:Hp)(vs:List V)(us:A00)(Q:St->Hp->Prop),Inv X pins U H s->Vals vs us->t vs U H Q->
  wpAny (model X.prog X.w) X.A (assignInOrder ((assignEach ts X.env).map (·.2)) us) (λ_ s'=>∃σ' H',Inv X pins σ' H' s'/\Q σ' H') X.xe s
abbrev vg:=V->V->V->Hp->(Hp->Prop)->Prop
def D4 (X:Cx)(t:vg):Prop:=
 ∀(pins:Zq)(s:Shared)(U:St)(H:Hp) (o i v:V)(ov iv u:Value)(Q:Hp->Prop),Inv X pins U H s->RelV o ov->RelV i iv->RelV v u->t o i v H Q->
  wpAny (model X.prog X.w) X.A (setItem ov iv u) (λ_ s'=>∃H',Inv X pins U H' s'/\Q H') X.xe s
abbrev yG:=V->V->Hp->VK->Prop
def Ke (X:Cx)(op:Operator)(t:yG):Prop:=
 ∀(pins:Zq)(s:Shared)(U:St)(H:Hp) (x y:V)(v u:Value)(Q:VK),Inv X pins U H s->RelV x v->RelV y u->t x y H Q->
  wpAny (model X.prog X.w) X.A (inplaceOp op v u) (EP X pins U Q) X.xe s
end
section
variable{X:Cx}{pos:Pos}
def lR (i:Nat):TG:=λv U H Q=>Q (U.set i (some v)) H
def uV{i:Nat}{x:Str}(hN:X.N.Nodup)(hi:X.N[i]?=some x)(hx:Loc X.env.scope x)(hf:X.fn x=true\/X.env.scope.names.lookup x=some .local:=by first|exact .inl rfl|exact .inr rfl|assumption):PG X (.Name x pos) (lR i):=by intro pins s U H v u Q I r h;exact ZG (rX I hN hi hx r (λs' I'=>⟨_,H,I',h⟩) hf)
def IG:rE:=λvs U H Q=>vs=[]/\Q U H
inductive EH(t:TG)(u:rE)(vs:List V)(U:St)(H:Hp)(Q:(St->Hp->Prop)):Prop
 |mk:∀v r,(vs=v::r)->(t v U H λσ' H'=>u r σ' H' Q)->EH t u vs U H Q
def CU (t:TG)(u:rE):rE:=λvs U H Q=>EH t u vs U H Q
def B0:GG X [] IG:=by intro pins s U H vs us Q I r h;obtain⟨e,h⟩:=h;subst e;cases r;exact assignInOrder_nil ⟨U,H,I,h⟩
def rZ{e:Expr}{es:A03}{t:TG}{u:rE}(h1:PG X e t)(h2:GG X es u)(hs:(assignEach (e::es) X.env).map (·.2)=assign e X.env::(assignEach es X.env).map (·.2):=by rfl):GG X (e::es) (CU t u):=by
 intro pins s U H vs us Q I r h;obtain⟨v,vr,e1,h⟩:=h;subst e1;cases r with
 |cons r rr=>rw[hs];refine assignInOrder_cons (aH (h1 pins s U H _ _ _ I r h) λ_ s1 ⟨σ1,H1,I1,q1⟩=>?_);exact h2 pins s1 σ1 H1 _ _ Q I1 rr q1
inductive KZ(K:Zv) (n:Nat)(t:rE) (v:V)(U:St)(H:Hp)(Q:(St->Hp->Prop)):Prop
 |mk:∀a xs,(v=.ref a)->(bR K H a xs)->(xs.length=n)->(t xs U H Q)->KZ K n t v U H Q
def cJ (K:Zv) (n:Nat)(t:rE):TG:=λv U H Q=>KZ K n t v U H Q
def Ai{es:A03}{k:Nat}{t:rE}{n:Nat}(hc:X.calm=true)(h:GG X es t)(hn:(assignEach es X.env).length=n:=by rfl)(hst:(assignEach es X.env).findIdx? (·.1)=none:=by rfl):PG X (.Tuple es k pos) (cJ X.K n t):=by intro pins s U H v u Q I r hw;obtain⟨a,xs,e1,hq,hl,hw⟩:=hw;subst e1;cases r;obtain⟨its,rv,ht,hz⟩:=I.tuple hq;refine assign_Tuple_tuple (I.ok.hd hc) ht (by simp[hn,<-hl,rv.length]) hst λh' hx=>?_;have I1:Inv X pins U H { s with heap:=h' }:=I.kept (t':=s.toks) λb o e=>hx b o (VO (VC e)) e;exact h pins _ U H xs _ Q I1 (by simpa using rv) hw
def oz (to ti:TE)(t:vg):TG:=λv U H Q=>to U H λo H1=>ti U H1 λi H2=>t o i v H2 λH3=>Q U H3
def Ox{o i:Expr}{to ti:TE}{t:vg}(ho:PE X o to)(hi:PE X i ti)(hs:D4 X t)
  (ha:∀v,assign (.Subscript o i pos) X.env v=(do
   let ov <-holding [v] (eval o X.env)
   let iv <-holding [v,ov] (eval i X.env)
   standAt pos
   holding [v,ov,iv] (setItem ov iv v)
   release [v,ov,iv] []):=by intro _;rfl):PG X (.Subscript o i pos) (oz to ti t):=by
 intro pins s U H v u Q I r h;rw[ha];refine V0 (W9 (aH (ho pins s U H _ I h) λov s1 ⟨x,H1,I1,r1,q1⟩=>?_))
 refine V0 (W9 (aH (hi pins s1 U H1 _ I1 q1) λiv s2 ⟨y,H2,I2,r2,q2⟩=>?_))
 refine V0 (XH (V0 (W9 (aH (hs pins s2 U H2 x y v ov iv u _ I2 r1 r2 r q2) λ_ s3 ⟨H3,I3,q3⟩=>?_))))
 exact wpAny_release ⟨U,H3,I3,q3⟩
def Dr (te:TE)(g:TG):TS:=λD U H=>te U H λx H1=>g x U H1 D.nx
def FY{tg e:Expr}{te:TE}{g:TG}(he:PE X e te)(hg:PG X tg g)(hs:swapsWithSole [tg] e pos.line X.env=pure false:=by rfl)(hw:swappedStores [tg] e X.env=pure none:=by rfl)(h1:(assignEach [tg] X.env).map (·.2)=[assign tg X.env]:=by rfl):PS X (.Assign [tg] e pos) (Dr te g):=by intro pins s U H D I h;refine wpAny_Assign_stores (aH (he pins s U H _ I h) λv s1 ⟨x,H1,I1,r1,q1⟩=>?_) hs hw;rw[h1];exact aH (hg pins s1 U H1 x v _ I1 r1 q1) λ_ s2 q=>q
def OY{i:Nat}{x:Str}{e:Expr}{te:TE}{pos':Pos}(hN:X.N.Nodup)(hi:X.N[i]?=some x)(hx:Loc X.env.scope x)(he:PE X e te)(hs:swapsWith e (some (.Name x pos')) pos.line X.env=pure false:=by rfl)(hf:X.fn x=true\/X.env.scope.names.lookup x=some .local:=by first|exact .inl rfl|exact .inr rfl|assumption) : PS X (.Assign [.Name x pos'] e pos) (Dr te (lR i)):=by intro pins s U H D I h;refine wpAny_Assign_Name (aH (he pins s U H _ I h) λv s1 ⟨y,H1,I1,r1,q1⟩=>?_) hs;exact rX I1 hN hi hx r1 (λs2 I2=>⟨_,H1,I2,q1⟩) hf
def Uw (i:Nat)(te:TE)(ti:yG):TS:=λD U H=>∃x,U[i]?=some (some x)/\te U H λy H1=>ti x y H1 λz H2=>D.nx (U.set i (some z)) H2
def NT{i:Nat}{x:Str}{e:Expr}{te:TE}{op:Operator}{ti:yG}{pos':Pos}(hN:X.N.Nodup)(hi:X.N[i]?=some x)(hx:Loc X.env.scope x)(he:PE X e te)(ho:Ke X op ti)(hf:X.fn x=true\/X.env.scope.names.lookup x=some .local:=by first|exact .inl rfl|exact .inr rfl|assumption) : PS X (.AugAssign (.Name x pos') op e pos) (Uw i te ti):=by
 intro pins s U H D I h;obtain⟨v,e1,h⟩:=h;obtain⟨m,hn,hl⟩:=I.loc;have vis:fX X.env.scope x:=by rcases hx with k|k;exact .inl k;exact .inr (.inl k)
 obtain⟨u,r,l⟩:=hl i x v hi e1 vis;refine wpAny_AugAssign_Name ?_;have go:wpAny (model X.prog X.w) X.A (eval e X.env) (λw s₂=>wpAny (model X.prog X.w) X.A (inplaceOp op u w) (λr s₃=>wpAny (model X.prog X.w) X.A (storeName X.env x r) (λ_=>SP X pins D .next) X.xe s₃) X.xe s₂) X.xe s:=by refine aH (he pins s U H _ I h) λw s1 ⟨y,H1,I1,r1,q1⟩=>?_;refine aH (ho pins s1 U H1 v y u w _ I1 r r1 q1) λz s2 ⟨zv,H2,I2,r2,q2⟩=>?_;exact rX I2 hN hi hx r2 (λs3 I3=>⟨_,H2,I3,q2⟩) hf
 rcases l with⟨hk,hm⟩|⟨hk,c,hc,hcell⟩;{exact wpAny_loadName_local I.ok.kind hk hn hm go};rcases hk with hk|hk;{exact wpAny_loadName_cell I.ok.kind hk hc hcell go};rcases hx with k|k;{have:X.env.scope.names.lookup x=some .free:=hk;rw[k]at this;cases this};have:X.env.scope.names.lookup x=some .free:=hk;rw[k]at this;cases this
def Sa (to ti te:TE)(tget:V->V->Hp->VK->Prop)(tip:yG)(tset:vg):TS:=λD U H=>to U H λo H1=>ti U H1 λi H2=>tget o i H2 λx H3=>te U H3 λy H4=>tip x y H4 λz H5=>tset o i z H5 λH6=>D.nx U H6
def Nv (X:Cx)(t:V->V->Hp->VK->Prop):Prop:=
 ∀(pins:Zq)(s:Shared)(U:St)(H:Hp) (o i:V)(ov iv:Value)(Q:VK),Inv X pins U H s->RelV o ov->RelV i iv->t o i H Q->
  wpAny (model X.prog X.w) X.A (getItem ov iv) (EP X pins U Q) X.xe s
def Mi{o i e:Expr}{to ti te:TE}{tget:V->V->Hp->VK->Prop}{tip:yG}{tset:vg}{op:Operator}{tpos:Pos}(ho:PE X o to)(hi:PE X i ti)(hg:Nv X tget)(he:PE X e te)(hp:Ke X op tip)(hs:D4 X tset)
  (ha:∀ov iv new,augStore i ov iv new=(do holding [new,ov,iv] (setItem ov iv new);release [new,ov,iv] [];pure .next):=by intros;rfl):PS X (.AugAssign (.Subscript o i tpos) op e pos) (Sa to ti te tget tip tset):=by
 intro pins s U H D I h;refine wpAny_AugAssign_SubscriptAny (aH (ho pins s U H _ I h) λov s1 ⟨x1,H1,I1,r1,q1⟩=>?_) ha
 refine aH (hi pins s1 U H1 _ I1 q1) λiv s2 ⟨x2,H2,I2,r2,q2⟩=>?_
 refine aH (hg pins s2 U H2 x1 x2 ov iv _ I2 r1 r2 q2) λold s3 ⟨x3,H3,I3,r3,q3⟩=>?_
 refine aH (he pins s3 U H3 _ I3 q3) λv s4 ⟨x4,H4,I4,r4,q4⟩=>?_
 refine aH (hp pins s4 U H4 x3 x4 old v _ I4 r3 r4 q4) λnew s5 ⟨x5,H5,I5,r5,q5⟩=>?_
 exact aH (hs pins s5 U H5 x1 x2 x5 ov iv new _ I5 r1 r2 r5 q5) λ_ s6 ⟨H6,I6,q6⟩=>⟨U,H6,I6,q6⟩
def UO (f:Int->Int->Int):yG:=λx y H Q=>∃i j,x=.int i/\y=.int j/\Q (.int (f i j)) H
def QA:Ke X .Add (UO λi j=>i+j):=by intro pins s U H x y v u Q I r1 r2 h;obtain⟨i,j,e1,e2,q⟩:=h;subst e1;subst e2;obtain⟨t,rfl⟩:=r1;obtain⟨t',rfl⟩:=r2;exact iadd_int ⟨.int _,H,I.tok _,⟨_,rfl⟩,q⟩
def Po (c:TT)(tb:TS):TS:=λD U H=>∃W:Nat->St->Hp->Prop,(∃m,W m U H)/\∀m U H,W m U H->
 c U H λb H1=>if b=true then ∃N:St->Hp->Prop,(∀σ' H',N σ' H'->∃m',m'<m/\W m' σ' H')/\tb { D with nx:=N,ct:=N,bk:=D.nx } U H1 else D.nx U H1
def Ja{c:Expr}{body:A04}{tc:TT}{tb:TS}(hp:PassesOwn (model X.prog X.w) X.A X.env X.xe)(hc:PT X c tc)(hb:oR X body tb):PS X (.While c body [] pos) (Po tc tb):=by
 intro pins s U H D I h;obtain⟨W,⟨m0,w0⟩,turn⟩:=h;refine wpAny_While (codeAny_whileLoop (λn s'=>∃σ' H',Inv X pins σ' H' s'/\W n σ' H') ?_ m0 ⟨U,H,I,w0⟩);rintro n s1⟨σ1,H1,I1,w1⟩;refine Xb hp (aH (hc pins s1 σ1 H1 _ I1 (turn n σ1 H1 w1)) λb s2 ⟨H2,I2,q2⟩=>?_);cases b with
 |true=>
  obtain⟨N,hN,q2⟩:=q2;rw[if_pos rfl];refine Xb hp (aH (hb pins s2 σ1 H2 _ I2 q2) λf s3 q3=>?_);cases f with
  |next=>obtain⟨σ3,H3,I3,n3⟩:=q3;obtain⟨m',hm,w3⟩:=hN σ3 H3 n3;exact⟨m',hm,σ3,H3,I3,w3⟩
  |cont=>obtain⟨σ3,H3,I3,n3⟩:=q3;obtain⟨m',hm,w3⟩:=hN σ3 H3 n3;exact⟨m',hm,σ3,H3,I3,w3⟩
  |brk=>exact q3
  |ret v=>exact q3
 |false=>rw[if_neg VQ];exact YY ⟨σ1,H2,I2,q2⟩
end
structure It where
 go:Nat->Hp->Prop
 mJ:Nat->Hp->V->Hp->Prop
 stop:Nat->Hp->Prop
def fN (X:Cx)(pins:Zq)(H:Hp)(b:Addr):Prop:=
 H b=none/\b≠X.env.locals/\b∉X.fs/\(b∈X.ex\/X.s₀.heap.objs.size<=b)/\(∀x c,X.env.cells.lookup x=some c->c≠b)/\∀p∈X.pn++pins,p.1≠b
def Inv.rV{X:Cx}{pins:Zq}{U:St}{H H':Hp}{s:Shared}{b:Addr}(I:Inv X pins U H s)(hb:s.heap.objs.size<=b)(hn:H' b=none):fN X pins H' b:=by refine⟨hn,Xc (Vt I.lt hb),I.OM hb,.inr (VX I.sz hb),λx c e z=>?_,λp hp z=>?_⟩;{obtain⟨v,q⟩:=I.cell x c e;exact absurd (Vt q.lt (by rw[z];exact hb)) (Vz _)};exact absurd (Vt (VC (I.pin p hp).1) (by rw[z];exact hb)) (Vz _)
structure Turn(P:Program)(w:World)(K:Zv)(tg:Expr)(J:It)(fp:A01)(it:Addr)(tn:Nat->Heap->Prop):Prop where
 mem:it∈fp
 obj:∀i h,tn i h->∀b∈fp,∃o,h.get? b=some o/\∀v,o.data≠.cell v
 keep:∀i h h',tn i h->(∀b∈fp,∀o,h.get? b=some o->h'.get? b=some o)->tn i h'
 item:∀(X:Cx),X.prog=P->X.w=w->X.K=K->X.calm=true->∀(i:Nat)(pins:Zq)(s:Shared)(U:St)(H:Hp)(E:Zn),Inv X pins U H s->(∀b∈fp,fN X pins H b)->tn i s.heap->J.go i H->
  wpAny (model P w) X.A (pyNext (.ref it)) (λr s1=>∃u,r=some u /\
   wpAny (model P w) X.A (letOwnedTupleGo tg (.ref it) u) (λ_ s2=>∃x H',Inv X pins U H' s2/\RelV x u/\J.mJ i H x H'/\tn (i+1) s2.heap/\∀b∈fp,H' b=none) E s1) E s
 done:∀(X:Cx),X.prog=P->X.w=w->X.K=K->X.calm=true->∀(i:Nat)(pins:Zq)(s:Shared)(U:St)(H:Hp)(E:Zn),Inv X pins U H s->(∀b∈fp,fN X pins H b)->tn i s.heap->J.stop i H->
  wpAny (model P w) X.A (pyNext (.ref it)) (λr s1=>r=none/\Inv X pins U H s1) E s
 self:∀(A:Around) (i:Nat)(s:Shared)(Q:Zn)(E:Zn),tn i s.heap->Q (.ref it) s->wpAny (model P w) A (pyIter (.ref it)) Q E s
abbrev TI:=St->Hp->(It->Hp->Prop)->Prop
def KS (X:Cx)(pins:Zq)(U:St)(tg:Expr)(R:It->Hp->Prop)(itv:Value)(s2:Shared):Prop:=
 ∃(it:Addr)(fp:A01)(tn:Nat->Heap->Prop)(J:It)(H':Hp),itv=.ref it/\Inv X pins U H' s2/\Turn X.prog X.w X.K tg J fp it tn/\tn 0 s2.heap/\(∀b∈fp,fN X pins H' b)/\R J H'
def PI (X:Cx)(tg iter:Expr)(wi:TI):Prop:=
 ∀(pins:Zq)(s:Shared)(U:St)(H:Hp)(R:It->Hp->Prop),Inv X pins U H s->wi U H R->
  wpAny (model X.prog X.w) X.A (eval iter X.env) (λv s1=>wpAny (model X.prog X.w) X.A (pyIter v) (KS X pins U tg R) X.xe s1) X.xe s
def DB{M:Model}{A:Around}{E:Zn}{s:Shared}{tg:Expr}{it:Addr}{u:Value}{o:Obj}{n:String}{vs:Zx}{Q:Unit->Shared->Prop}(ho:s.heap.get? it=some o)(hc:o.cls=.type n)(hd:o.data=.fields vs)(hn:["enumerate","zip","dict_itemiterator","dict_reverseitemiterator","odict_iterator","itertools.zip_longest","itertools.pairwise"].contains n=false)(hQ:Q () s):wpAny M A (letOwnedTupleGo tg (.ref it) u) Q E s:=by
 unfold letOwnedTupleGo;cases tg<;>first
  |exact V1 hQ
  | (cases u<;>first
    |exact V1 hQ
    | (refine V0 (wpAny_load ho ?_)
       rw[hc,hd];show wpAny M A (if(["enumerate","zip","dict_itemiterator","dict_reverseitemiterator","odict_iterator","itertools.zip_longest","itertools.pairwise"].contains n&&vs[0]? == some (rawInt _))=true then _ else _) Q E s
       rw[if_neg (by intro h;rw[hn,Bool.false_and]at h;cases h)]
       exact V1 hQ))
def Ka (K:Zv)(a:Addr):It:=
 ⟨λi H=>∃xs x,bH K H a xs/\xs[i]?=some x,λi H x H'=>H'=H/\∀xs,bH K H a xs->xs[i]?=some x,λi H=>∃xs,bH K H a xs/\xs.length<=i⟩
def KW (K:Zv)(a:Addr):It:=
 ⟨λi H=>∃xs x,bR K H a xs/\xs[i]?=some x,λi H x H'=>H'=H/\∀xs,bR K H a xs->xs[i]?=some x,λi H=>∃xs,bR K H a xs/\xs.length<=i⟩
def HS (lo:Int) (n:Nat):It:=⟨λi _=>i<n,λi H x H'=>H'=H/\x=.int (lo+i),λi _=>n<=i⟩
def G6{P:Program}{w:World}{K:Zv}{tg:Expr}(a it:Addr):Turn P w K tg (Ka K a) [it] it (λi h=>h.IsListIter it a i) where
 mem:=by simp
 obj:=λi h st b hb=>by
  have e:b=it:=by simpa using hb
  subst e;obtain⟨o,e,c,d⟩:=st;exact⟨o,e,λv z=>by rw[d]at z;cases z⟩
 keep:=λi h h' st k=>st.at λo e=>k it (by simp) o e
 item:=by
  intro X hP hw hK hc i pins s U H E I hf st hg;subst hP hw hK;obtain⟨xs,x,hq,hx⟩:=hg;obtain⟨its,rv,p,hz⟩:=I.list hq;obtain⟨u,hu,ru⟩:=rv.get hx;obtain⟨f0,f1,f2,f3,f4,f5⟩:=hf it (by simp)
  refine wpAny_pyNext_list_item st p.isList (x:=u) (by simpa using hu) λh' st' sb=>?_
  have I1:Inv X pins U H { s with heap:=h' }:=I.turned (t':=s.toks) (λb o hb e=>(sb.2 b hb).trans e) f0 f1 f3 f4 f5
  obtain⟨o,e,c,d⟩:=id st';exact⟨u,rfl,DB (s:={ s with heap:=h' }) e c d (by decide) ⟨x,H,I1,ru,⟨rfl,λys hy=>by rw[I.nV hy hq];exact hx⟩,st',λb hb=>(hf b hb).1⟩⟩
 done:=by
  intro X hP hw hK hc i pins s U H E I hf st hg;subst hP hw hK;obtain⟨xs,hq,hx⟩:=hg;obtain⟨its,rv,p,hz⟩:=I.list hq;obtain⟨f0,f1,f2,f3,f4,f5⟩:=hf it (by simp)
  have hl:=rv.length;exact wpAny_pyNext_list_end (I.ok.hd hc) st p.isList (by simp;lia) λh' eb=>⟨rfl,I.turned (t':=s.toks) (λb o hb e=>eb b o hb e) f0 f1 f3 f4 f5⟩
 self:=λ_ _ _ _ _ st h=>wpAny_pyIter_listiter st h
def Dt{P:Program}{w:World}{K:Zv}{tg:Expr}(a it:Addr):Turn P w K tg (KW K a) [it] it (λi h=>h.IsTupleIter it a i) where
 mem:=by simp
 obj:=λi h st b hb=>by
  have e:b=it:=by simpa using hb
  subst e;obtain⟨o,e,c,d⟩:=st;exact⟨o,e,λv z=>by rw[d]at z;cases z⟩
 keep:=λi h h' st k=>st.at λo e=>k it (by simp) o e
 item:=by
  intro X hP hw hK hc i pins s U H E I hf st hg;subst hP hw hK;obtain⟨xs,x,hq,hx⟩:=hg;obtain⟨its,rv,p,hz⟩:=I.tuple hq;obtain⟨u,hu,ru⟩:=rv.get hx;obtain⟨f0,f1,f2,f3,f4,f5⟩:=hf it (by simp)
  refine wpAny_pyNext_tuple_item st (show s.heap.IsTuple a its.toArray from p) (x:=u) (by simpa using hu) λh' st' sb=>?_
  have I1:Inv X pins U H { s with heap:=h' }:=I.turned (t':=s.toks) (λb o hb e=>(sb.2 b hb).trans e) f0 f1 f3 f4 f5
  obtain⟨o,e,c,d⟩:=id st';exact⟨u,rfl,DB (s:={ s with heap:=h' }) e c d (by decide) ⟨x,H,I1,ru,⟨rfl,λys hy=>by rw[I.GS hy hq];exact hx⟩,st',λb hb=>(hf b hb).1⟩⟩
 done:=by
  intro X hP hw hK hc i pins s U H E I hf st hg;subst hP hw hK;obtain⟨xs,hq,hx⟩:=hg;obtain⟨its,rv,p,hz⟩:=I.tuple hq;obtain⟨f0,f1,f2,f3,f4,f5⟩:=hf it (by simp)
  have hl:=rv.length;exact wpAny_pyNext_tuple_end (I.ok.hd hc) st (show s.heap.IsTuple a its.toArray from p) (by simp;lia) λh' eb=>⟨rfl,I.turned (t':=s.toks) (λb o hb e=>eb b o hb e) f0 f1 f3 f4 f5⟩
 self:=λ_ _ _ _ _ st h=>wpAny_pyIter_tupleiter st h
def Eo{P:Program}{w:World}{K:Zv}{tg:Expr}(it:Addr) (lo:Int) (n:Nat):Turn P w K tg (HS lo n) [it] it (λi h=>IsRangeIter h it (lo+(i:Nat)*1) ((n:Int)-(i:Nat)) 1) where
 mem:=by simp
 obj:=λi h st b hb=>by
  have e:b=it:=by simpa using hb
  subst e;exact⟨_,st,λv z=>by
   have z':Data.fields _=Data.cell v:=z;cases z'⟩
 keep:=λi h h' st k=>k it (by simp) _ st
 item:=by
  intro X hP hw hK hc i pins s U H E I hf st hg;subst hP hw hK;obtain⟨f0,f1,f2,f3,f4,f5⟩:=hf it (by simp)
  have W:=Walks.range (prog:=X.prog) (w:=X.w) (I.ok.hd hc) it lo 1 n;refine W.item i s _ _ hg st λv h' tk hv st' kk=>?_
  obtain⟨t,rfl⟩:=hv;have I1:Inv X pins U H { s with heap:=h',toks:=tk }:=I.turned (λb o hb e=>kk b o (by simpa using hb) e) f0 f1 f3 f4 f5
  refine⟨_,rfl,DB (s:={ s with heap:=h',toks:=tk }) (n:="range_iterator") st' rfl rfl (by decide) ⟨.int (lo+i),H,I1,⟨t,?_⟩,⟨rfl,rfl⟩,st',λb hb=>(hf b hb).1⟩⟩
  rw[XI]
 done:=by
  intro X hP hw hK hc i pins s U H E I hf st hg;subst hP hw hK;obtain⟨f0,f1,f2,f3,f4,f5⟩:=hf it (by simp)
  exact wpAny_pyNext_range_end (I.ok.hd hc) st (by have:n<=i:=hg;lia) λh' eb=>⟨rfl,I.turned (t':=s.toks) (λb o hb e=>eb b o hb e) f0 f1 f3 f4 f5⟩
 self:=λ_ _ _ _ _ st h=>wpAny_pyIter_rangeiter st h
section
variable{X:Cx}{tg:Expr}
def zF{pins:Zq}{U:St}{H:Hp}{s:Shared}{R:It->Hp->Prop}{E:Zn}{lo hi:Int}{t u v:Tok}{tk:Nat}(I:Inv X pins U H s)(h1:-(2^62)<=lo)(h2:lo<2^62)(h3:-(2^62)<=hi)(h4:hi<2^62)(q:R (HS lo (hi-lo).toNat) H):wpAny (model X.prog X.w) X.A (pyIter (.ref s.heap.objs.size)) (KS X pins U tg R) E { s with heap:=s.heap.push { cls:=.type "range",data:=.fields #[.int lo t,.int hi u,.int 1 v] },toks:=tk }:=by
 refine wpAny_pyIter_range (IsRange.new ..) (small_one h1 h2 h3 h4) ?_;have I1:Inv X pins U H { s with heap:=s.heap.push { cls:=.type "range",data:=.fields #[.int lo t,.int hi u,.int 1 v] },toks:=tk }:=I.kept λb o e=>VS _ e;refine⟨(s.heap.push { cls:=.type "range",data:=.fields #[.int lo t,.int hi u,.int 1 v] }).objs.size,[(s.heap.push { cls:=.type "range",data:=.fields #[.int lo t,.int hi u,.int 1 v] }).objs.size],_,_,H,rfl,
  I1.kept (t':=tk) λb o e=>VS _ e,Eo _ lo (hi-lo).toNat,?_,λb hb=>?_,q⟩
 .have e1:lo+((0:Nat):Int)*1=lo:=by simp
  have e2:(((hi-lo).toNat:Nat):Int)-((0:Nat):Int)=Builtin.Range.rangeSize lo hi 1:=by rw[rangeSize_one];split<;>lia
  show IsRangeIter _ _ (lo+((0:Nat):Int)*1) ((((hi-lo).toNat:Nat):Int)-((0:Nat):Int)) 1;rw[e1,e2];exact W0 _ rfl
 have e:b=(s.heap.push { cls:=.type "range",data:=.fields #[.int lo t,.int hi u,.int 1 v] }).objs.size:=by simpa using hb
 subst e;exact I1.rV (V4 _) (I1.hok.fresh (V4 _))
inductive Fq(R:(It->Hp->Prop))(vs:List V)(H1:Hp):Prop
 |mk:∀j:Int,(vs=[.int j])->(-(2^62)<=j)->(j<2^62)->(R (HS 0 j.toNat) H1)->Fq R vs H1
def R8 (ta:TA):TI:=λU H R=>ta U H λvs H1=>Fq R vs H1
inductive EI(R:(It->Hp->Prop))(vs:List V)(H1:Hp):Prop
 |mk:∀i j:Int,(vs=[.int i,.int j])->((-(2^62)<=i/\i<2^62/\-(2^62)<=j/\j<2^62))->(R (HS i (j-i).toNat) H1)->EI R vs H1
def Q9 (ta:TA):TI:=λU H R=>ta U H λvs H1=>EI R vs H1
def Fc{a:Expr}{ta:TA}{p pos:Pos}(hg:Gl X "range")(hm:X.mg "range"=none)(ha:PA X [a] ta)(hs:starEach [a] X.env=[(false,eval a X.env)]:=by rfl):PI X tg (.Call (.Name "range" p) [a] [] pos) (R8 ta):=by
 intro pins s U H R I h;refine Call_ (iQ I hg hm boot_range (Xp (aH (ha pos pins s U H _ I h) λus s1 ⟨vs,H1,I1,r1,q1⟩=>?_) hs rfl));obtain⟨j,e,q1,q2,q⟩:=q1;subst e;cases r1 with
 |cons r rr=>cases rr;obtain⟨t,rfl⟩:=r;exact call_range_1 (zF I1 (by lia) (by lia) q1 q2 (by simpa using q))
def HA{a b:Expr}{ta:TA}{p pos:Pos}(hg:Gl X "range")(hm:X.mg "range"=none)(ha:PA X [a,b] ta)(hs:starEach [a,b] X.env=[(false,eval a X.env),(false,eval b X.env)]:=by rfl)(hs2:starEach [b] X.env=[(false,eval b X.env)]:=by rfl) : PI X tg (.Call (.Name "range" p) [a,b] [] pos) (Q9 ta):=by
 intro pins s U H R I h;refine Call_ (iQ I hg hm boot_range (Xp (aH (ha pos pins s U H _ I h) λus s1 ⟨vs,H1,I1,r1,q1⟩=>?_) (by rw[hs,hs2]) (by rw[hs2];rfl)));obtain⟨i,j,e,⟨q1,q2,q3,q4⟩,q⟩:=q1;subst e;cases r1 with
 |cons r rr=>
  cases rr with
  |cons r' rr=>cases rr;obtain⟨t,rfl⟩:=r;obtain⟨t',rfl⟩:=r';exact call_range_2 (zF I1 q1 q2 q3 q4 q)
def Ux (wi:TI)(g:TG)(tb:TS):TS:=λD U H=>wi U H λJ H1=>∃W:Nat->Nat->St->Hp->Prop,(∃m,W 0 m U H1)/\∀i m U H,W i m U H->
 (J.stop i H/\D.nx U H)\/(J.go i H/\∃N:St->Hp->Prop,(∀σ' H',N σ' H'->∃m',m'<m/\W (i+1) m' σ' H')/\∀x H',J.mJ i H x H'->g x U H' λσ2 H2=>tb { D with nx:=N,ct:=N,bk:=D.nx } σ2 H2)
def jD (fp:A01)(h:Heap):Zq:=fp.filterMap λb=>(h.get? b).map λo=>(b,o)
def gu{fp:A01}{h:Heap}{b:Addr}{o:Obj}(hb:b∈fp)(e:h.get? b=some o):(b,o)∈jD fp h:=YZ.mpr ⟨b,hb,by rw[e];rfl⟩
def wF{fp:A01}{h:Heap}{p:Addr×Obj}(hp:p∈jD fp h):p.1∈fp/\h.get? p.1=some p.2:=by
 obtain⟨b,hb,e⟩:=YZ.mp hp;cases q:h.get? b with
 |none=>rw[q]at e;cases e
 |some o=>rw[q]at e;have e':(b,o)=p:=Option.some.inj e;subst e';exact⟨hb,q⟩
def Inv.pinned{pins:Zq}{U:St}{H:Hp}{s:Shared}{fp:A01}(I:Inv X pins U H s)(hf:∀b∈fp,fN X pins H b)(ho:∀b∈fp,∃o,s.heap.get? b=some o/\∀v,o.data≠.cell v):Inv X (pins++jD fp s.heap) U H s:=
 I.i9 λp hp=>(VU.mp hp).elim (λz=>I.pin p (W5 _ z)) λz=>by obtain⟨hb,e⟩:=wF z;obtain⟨f0,f1,f2,_⟩:=hf p.1 hb;obtain⟨o,e',d⟩:=ho p.1 hb;rw[e]at e';cases e';exact⟨e,f0,f1,f2,d⟩
def Inv.nN{pins pl:Zq}{U:St}{H:Hp}{s:Shared}(I:Inv X (pins++pl) U H s):Inv X pins U H s:=I.i9 λp hp=>I.pin p (W5 _ (YX _ hp))
def O8{iter:Expr}{body:A04}{wi:TI}{g:TG}{tb:TS}{pos:Pos}(hp:PassesOwn (model X.prog X.w) X.A X.env X.xe)(hc:X.calm=true)(hi:PI X tg iter wi)(hg:PG X tg g)(hb:oR X body tb)(hs:∀x,foldedSetIterable iter X.env x=pure x:=by intro _;rfl):PS X (.For tg iter body [] pos) (Ux wi g tb):=by
 intro pins s U H D I h;refine wpAny_For (aH (hi pins s U H _ I h) λv s1 h1=>aH h1 λitv s2 h2=>?_) hs
 obtain⟨it,fp,tn,J,H2,e,I2,T,st2,f2,W,⟨m0,w0⟩,turn⟩:=h2;subst e
 -- what stays true of the iterator's objects through the loop
 have stat:∀{H':Hp},(∀b∈fp,H' b=none)->∀b∈fp,fN X pins H' b:=λhn b hb=>⟨hn b hb,(f2 b hb).2⟩
 refine codeAny_forLoop_any (λn s'=>∃i σ' H',Inv X pins σ' H' s'/\tn i s'.heap/\(∀b∈fp,H' b=none)/\W i n σ' H') ?_ m0 ⟨0,U,H2,I2,st2,λb hb=>(f2 b hb).1,w0⟩
 rintro n s3⟨i,σ3,H3,I3,st3,fr3,w3⟩;rcases turn i n σ3 H3 w3 with⟨stop,qn⟩|⟨go,N,hN,step⟩
 .refine Xb hp (aH (T.done X rfl rfl rfl hc i pins s3 σ3 H3 X.xe I3 (stat fr3) st3 stop) λr s4 ⟨hr,I4⟩=>?_)
  subst hr;exact YY ⟨σ3,H3,I4,qn⟩
 .refine Xb hp (aH (T.item X rfl rfl rfl hc i pins s3 σ3 H3 X.xe I3 (stat fr3) st3 go) λr s4 ⟨u,hr,h4⟩=>?_)
  subst hr;refine Xb hp (aH h4 λ_ s5 ⟨x,H5,I5,r5,y5,st5,fr5⟩=>?_)
  have I5':=I5.pinned (stat fr5) (T.obj _ _ st5);refine Xb hp (aH (hg _ s5 σ3 H5 x u _ I5' r5 (step x H5 y5)) λ_ s6 ⟨σ6,H6,I6,q6⟩=>?_)
  refine Xb hp (aH (hb _ s6 σ6 H6 _ I6 q6) λf s7 q7=>?_)
  have again:∀{σ7:St}{H7:Hp},Inv X (pins++jD fp s5.heap) σ7 H7 s7->N σ7 H7->∃m,m<n/\∃i σ' H',Inv X pins σ' H' s7/\tn i s7.heap/\(∀b∈fp,H' b=none)/\W i m σ' H':=λ{σ7 H7} I7 n7=>by
   obtain⟨m',hm,w7⟩:=hN σ7 H7 n7;refine⟨m',hm,i+1,σ7,H7,I7.nN,T.keep _ _ _ st5 λb hb o e=>(I7.pin (b,o) (W5 _ (W5 _ (gu hb e)))).1,λb hb=>?_,w7⟩
   obtain⟨o,e,d⟩:=T.obj _ _ st5 b hb;exact(I7.pin (b,o) (W5 _ (W5 _ (gu hb e)))).2.1
  cases f with
  |next=>obtain⟨σ7,H7,I7,n7⟩:=q7;exact again I7 n7
  |cont=>obtain⟨σ7,H7,I7,n7⟩:=q7;exact again I7 n7
  |brk=>obtain⟨σ7,H7,I7,q7⟩:=q7;exact⟨σ7,H7,I7.nN,q7⟩
  |ret v=>obtain⟨x7,σ7,H7,I7,r7,q7⟩:=q7;exact⟨x7,σ7,H7,I7.nN,r7,q7⟩
end
abbrev R2:=V->V->Hp->VK->Prop
def bE (X:Cx)(f:Value->Value->Sem Value)(r:R2):Prop:=
 ∀(pins:Zq)(s:Shared)(U:St)(H:Hp) (x y:V)(v u:Value)(Q:VK),Inv X pins U H s->RelV x v->RelV y u->r x y H Q->
  wpAny (model X.prog X.w) X.A (f v u) (EP X pins U Q) X.xe s
def Ld (X:Cx)(f:Value->Sem Value)(r:V->Hp->VK->Prop):Prop:=
 ∀(pins:Zq)(s:Shared)(U:St)(H:Hp) (x:V)(v:Value)(Q:VK),Inv X pins U H s->RelV x v->r x H Q->
  wpAny (model X.prog X.w) X.A (f v) (EP X pins U Q) X.xe s
def b8 (X:Cx)(f:Value)(r:List V->Hp->VK->Prop):Prop:=
 ∀(pins:Zq)(s:Shared)(U:St)(H:Hp)(xs:List V)(us:A00)(Q:VK),Inv X pins U H s->Vals xs us->r xs H Q->
  wpAny (model X.prog X.w) X.A (call f us) (EP X pins U Q) X.xe s
def Ub (X:Cx)(r:V->Hp->(Bool->Hp->Prop)->Prop):Prop:=
 ∀(pins:Zq)(s:Shared)(U:St)(H:Hp) (x:V)(v:Value)(Q:Bool->Hp->Prop),Inv X pins U H s->RelV x v->r x H Q->
  wpAny (model X.prog X.w) X.A (truthy v) (TP X pins U Q) X.xe s
def NU (r:R2)(ta tb:TE):TE:=λU H Q=>ta U H λx H1=>tb U H1 λy H2=>r x y H2 Q
def U8 (r:V->Hp->VK->Prop)(ta:TE):TE:=λU H Q=>ta U H λx H1=>r x H1 Q
inductive S4(C:Int->Int->Prop)(g:Int->Int->V) (x:V) (y:V)(H:Hp)(Q:VK):Prop
 |mk:∀i j,(x=.int i)->(y=.int j)->(C i j)->(Q (g i j) H)->S4 C g x y H Q
def rI (C:Int->Int->Prop)(g:Int->Int->V):R2:=λx y H Q=>S4 C g x y H Q
inductive Pf(g:Int->Int->V) (x:V) (y:V)(H:Hp)(Q:VK):Prop
 |mk:∀i j,(x=.int i)->(y=.int j)->(Q (g i j) H)->Pf g x y H Q
def oZ (g:Int->Int->V):R2:=λx y H Q=>Pf g x y H Q
inductive SW(g:Int->V) (x:V)(H:Hp)(Q:VK):Prop
 |mk:∀i,(x=.int i)->(Q (g i) H)->SW g x H Q
def rU (g:Int->V):V->Hp->VK->Prop:=λx H Q=>SW g x H Q
section
variable{X:Cx}{a b c:Expr}{ta tb tc:TE}{pos:Pos}
def Jm(ha:PE X a ta)(hb:PE X b tb){pins:Zq}{s:Shared}{U:St}{H:Hp}{R:V->V->Hp->Prop}(I:Inv X pins U H s)(h:ta U H λx H1=>tb U H1 λy H2=>R x y H2){Q:Zn}{f:Value->Value->Sem Value}(hf:∀v u s2 x y H2,Inv X pins U H2 s2->RelV x v->RelV y u->R x y H2->wpAny (model X.prog X.w) X.A (f v u) Q X.xe s2) : wpAny (model X.prog X.w) X.A (eval a X.env) (λv s₁=>wpAny (model X.prog X.w) X.A (eval b X.env) (λu s₂=>wpAny (model X.prog X.w) X.A (f v u) Q X.xe s₂) X.xe s₁) X.xe s:=by refine aH (ha pins s U H _ I h) λv s1 ⟨x,H1,I1,r1,q1⟩=>?_;refine aH (hb pins s1 U H1 _ I1 q1) λu s2 ⟨y,H2,I2,r2,q2⟩=>?_;exact hf v u s2 x y H2 I2 r1 r2 q2
def RC{op:Operator}{r:R2}(ho:bE X (binaryOp op) r)(ha:PE X a ta)(hb:PE X b tb):PE X (.BinOp a op b pos) (NU r ta tb):=by intro pins s U H Q I h;exact wpAny_BinOp (Jm ha hb I h λv u s2 x y H2 I2 rx ry q=>ho pins s2 U H2 x y v u Q I2 rx ry q)
def Sl{op:UnaryOp}{r:V->Hp->VK->Prop}(ho:Ld X (unaryOp op) r)(ha:PE X a ta):PE X (.UnaryOp op a pos) (U8 r ta):=by intro pins s U H Q I h;exact UnaryOp_ (aH (ha pins s U H _ I h) λv s1 ⟨x,H1,I1,r1,q1⟩=>ho pins s1 U H1 x v Q I1 r1 q1)
def BH{f:Value->Value->Sem Value}{C:Int->Int->Prop}{g:Int->Int->Int}(rule:∀(i j:Int)(t u:Tok)(s:Shared)(Q:Zn)(E:Zn),C i j->Q (.int (g i j) s.toks) { s with toks:=s.toks+1 }->wpAny (model X.prog X.w) X.A (f (.int i t) (.int j u)) Q E s) : bE X f (rI C λi j=>.int (g i j)):=by intro pins s U H x y v u Q I rx ry h;obtain⟨i,j,rfl,rfl,hc,q⟩:=h;obtain⟨t,rfl⟩:=rx;obtain⟨t',rfl⟩:=ry;exact rule i j t t' s _ _ hc ⟨.int (g i j),H,I.tok _,⟨_,rfl⟩,q⟩
def PZ{f:Value->Value->Sem Value}{g:Int->Int->Int}(rule:∀(i j:Int)(t u:Tok)(s:Shared)(Q:Zn)(E:Zn),Q (.int (g i j) s.toks) { s with toks:=s.toks+1 }->wpAny (model X.prog X.w) X.A (f (.int i t) (.int j u)) Q E s) : bE X f (oZ λi j=>.int (g i j)):=by intro pins s U H x y v u Q I rx ry h;obtain⟨i,j,rfl,rfl,q⟩:=h;obtain⟨t,rfl⟩:=rx;obtain⟨t',rfl⟩:=ry;exact rule i j t t' s _ _ ⟨.int (g i j),H,I.tok _,⟨_,rfl⟩,q⟩
def Dq{f:Value->Value->Sem Value}{g:Zs}(rule:∀(i j:Int)(t u:Tok)(s:Shared)(Q:Zn)(E:Zn),Q (.bool (g i j)) s->wpAny (model X.prog X.w) X.A (f (.int i t) (.int j u)) Q E s) : bE X f (oZ λi j=>.bl (g i j)):=by intro pins s U H x y v u Q I rx ry h;obtain⟨i,j,rfl,rfl,q⟩:=h;obtain⟨t,rfl⟩:=rx;obtain⟨t',rfl⟩:=ry;exact rule i j t t' s _ _ ⟨.bl (g i j),H,I,rfl,q⟩
def Ah (i j:Int):Prop:=0<=j/\j<=1000000/\i.natAbs<2^64
def vG (i j:Int):Prop:=(-(2^64)<i/\i<2^64)\/(-(2^64)<j/\j<2^64)
def vG.ok{i j:Int}(h:vG i j):IntMulOk i j:=by rcases h with⟨h1,h2⟩|⟨h1,h2⟩;{exact .of_left (intBits_le_64 h1 h2)};exact .of_right (intBits_le_64 h1 h2)
def OV:bE X (binaryOp .Add) (oZ λi j=>.int (i+j)):=PZ λ_ _ _ _ _ _ _ q=>add_int q
def Oa:bE X (binaryOp .Sub) (oZ λi j=>.int (i-j)):=PZ λ_ _ _ _ _ _ _ q=>sub_int q
def Qn:bE X (binaryOp .Mult) (rI vG λi j=>.int (i*j)):=BH λ_ _ _ _ _ _ _ hc q=>mul_int q hc.ok
def OQ:bE X (binaryOp .Mod) (rI (λ_ j=>0<j) λi j=>.int (i%j)):=BH λi j _ _ _ _ _ hc q=>by have h1:(0:Int)<j:=hc;exact mod_int' (by lia) (by rw[Int.fmod_eq_emod_of_nonneg i (by lia)];exact q)
def PX:bE X (binaryOp .Pow) (rI Ah λi j=>.int (i^j.toNat)):=BH λ_ _ _ _ _ _ _ hc q=>pow_int_small hc.1 hc.2.1 hc.2.2 q
def Vd{f:Value->Sem Value}{g:Int->Int}(rule:∀(i:Int)(t:Tok)(s:Shared)(Q:Zn)(E:Zn),Q (.int (g i) s.toks) { s with toks:=s.toks+1 }->wpAny (model X.prog X.w) X.A (f (.int i t)) Q E s) : Ld X f (rU λi=>.int (g i)):=by intro pins s U H x v Q I rx h;obtain⟨i,rfl,q⟩:=h;obtain⟨t,rfl⟩:=rx;exact rule i t s _ _ ⟨.int (g i),H,I.tok _,⟨_,rfl⟩,q⟩
def Ng:Ld X (unaryOp .USub) (rU λi=>.int (-i)):=Vd λ_ _ _ _ _ q=>neg_int q
def JR:V->V->Bool
 |.aW,.aW=>true | .aW,.int _=>true | .int _,.aW=>true | .aW,.bl _=>true | .bl _,.aW=>true | .aW,.str _=>true | .str _,.aW=>true
 |.int _,.int _=>true | .bl _,.bl _=>true | .str _,.str _=>true | .mP _,.mP _=>true
 |.int _,.str _=>true | .str _,.int _=>true | .bl _,.str _=>true | .str _,.bl _=>true
 |_,_=>false
def SH:R2:=λx y H Q=>JR x y=true/\Q (.bl (decide (x=y))) H
def Tq:R2:=λx y H Q=>JR x y=true/\Q (.bl (!decide (x=y))) H
def Cy{i j:Int}:decide (V.int i=V.int j)=(i==j):=by rw[Wg];simp
def Ge{i j:Bool}:decide (V.bl i=V.bl j)=(i==j):=by rw[Wg];simp
def BW{i j:Str}:decide (V.str i=V.str j)=(i==j):=by rw[Wg];simp
def Bt{i j:Array UInt8}:decide (V.mP i=V.mP j)=(i.toList==j.toList):=by rw[Wg];cases i;cases j;simp
end
section
variable{X:Cx}{a b c:Expr}{ta tb tc:TE}{pos:Pos}
def aY{pins:Zq}{U:St}{H:Hp}{s:Shared}{Q:VK}{k k':Bool}(I:Inv X pins U H s)(q:Q (.bl k) H)(e:k=k'):EP X pins U Q (.bool k') s:=by subst e;exact⟨.bl k,H,I,rfl,q⟩
def Sv:bE X (compareOp .Eq) SH:=by
 intro pins s U H x y v u Q I rx ry h;obtain⟨hs,q⟩:=h;cases x with
 |aW=>
  cases rx;cases y with
  |aW=>cases ry;exact PySem.EqNone.eq_none_none (aY I q (by simp))
  |bl j=>cases ry;exact PySem.EqNone.eq_none_bool (aY I q (by simp))
  |int j=>obtain⟨t',rfl⟩:=ry;exact PySem.EqNone.eq_none_int (aY I q (by simp))
  |str j=>obtain⟨t',rfl⟩:=ry;exact PySem.EqNone.eq_none_str (aY I q (by simp))
  |_=>exact absurd (show false=true from hs) VQ
 |bl i=>
  cases rx;cases y with
  |aW=>cases ry;exact PySem.EqNone.eq_bool_none (aY I q (by simp))
  |bl j=>cases ry;exact eq_bool (aY I q Ge)
  |str j=>obtain⟨t',rfl⟩:=ry;exact PySem.EqMixed.eq_bool_str (aY I q (by simp))
  |_=>exact absurd (show false=true from hs) VQ
 |int i=>
  obtain⟨t,rfl⟩:=rx;cases y with
  |aW=>cases ry;exact PySem.EqNone.eq_int_none (aY I q (by simp))
  |int j=>obtain⟨t',rfl⟩:=ry;exact eq_int (aY I q Cy)
  |str j=>obtain⟨t',rfl⟩:=ry;exact PySem.EqMixed.eq_int_str (aY I q (by simp))
  |_=>exact absurd (show false=true from hs) VQ
 |str i=>
  obtain⟨t,rfl⟩:=rx;cases y with
  |aW=>cases ry;exact PySem.EqNone.eq_str_none (aY I q (by simp))
  |bl j=>cases ry;exact PySem.EqMixed.eq_str_bool (aY I q (by simp))
  |int j=>obtain⟨t',rfl⟩:=ry;exact PySem.EqMixed.eq_str_int (aY I q (by simp))
  |str j=>obtain⟨t',rfl⟩:=ry;exact eq_str (aY I q BW)
  |_=>exact absurd (show false=true from hs) VQ
 |mP i=>
  obtain⟨t,rfl⟩:=rx;cases y with
  |mP j=>obtain⟨t',rfl⟩:=ry;exact PySem.W.eq_bytes (aY I q Bt)
  |_=>exact absurd (show false=true from hs) VQ
 |_=>cases y<;>exact absurd (show false=true from hs) VQ
def RD:bE X (compareOp .NotEq) Tq:=by
 intro pins s U H x y v u Q I rx ry h;obtain⟨hs,q⟩:=h;cases x with
 |aW=>
  cases rx;cases y with
  |aW=>cases ry;exact PySem.EqNone.ne_none_none (aY I q (by simp))
  |bl j=>cases ry;exact PySem.EqNone.ne_none_bool (aY I q (by simp))
  |int j=>obtain⟨t',rfl⟩:=ry;exact PySem.EqNone.ne_none_int (aY I q (by simp))
  |str j=>obtain⟨t',rfl⟩:=ry;exact PySem.EqNone.ne_none_str (aY I q (by simp))
  |_=>exact absurd (show false=true from hs) VQ
 |bl i=>
  cases rx;cases y with
  |aW=>cases ry;exact PySem.EqNone.ne_bool_none (aY I q (by simp))
  |bl j=>cases ry;exact ne_bool (aY I q (congrArg not Ge))
  |str j=>obtain⟨t',rfl⟩:=ry;exact PySem.EqMixed.ne_bool_str (aY I q (by simp))
  |_=>exact absurd (show false=true from hs) VQ
 |int i=>
  obtain⟨t,rfl⟩:=rx;cases y with
  |aW=>cases ry;exact PySem.EqNone.ne_int_none (aY I q (by simp))
  |int j=>obtain⟨t',rfl⟩:=ry;exact ne_int (aY I q (congrArg not Cy))
  |str j=>obtain⟨t',rfl⟩:=ry;exact PySem.EqMixed.ne_int_str (aY I q (by simp))
  |_=>exact absurd (show false=true from hs) VQ
 |str i=>
  obtain⟨t,rfl⟩:=rx;cases y with
  |aW=>cases ry;exact PySem.EqNone.ne_str_none (aY I q (by simp))
  |bl j=>cases ry;exact PySem.EqMixed.ne_str_bool (aY I q (by simp))
  |int j=>obtain⟨t',rfl⟩:=ry;exact PySem.EqMixed.ne_str_int (aY I q (by simp))
  |str j=>obtain⟨t',rfl⟩:=ry;exact ne_str (aY I q (congrArg not BW))
  |_=>exact absurd (show false=true from hs) VQ
 |mP i=>
  obtain⟨t,rfl⟩:=rx;cases y with
  |mP j=>obtain⟨t',rfl⟩:=ry;exact PySem.W.ne_bytes (aY I q (congrArg not Bt))
  |_=>exact absurd (show false=true from hs) VQ
 |_=>cases y<;>exact absurd (show false=true from hs) VQ
def Er:bE X (compareOp .Lt) (oZ λi j=>.bl (decide (i<j))):=Dq λ_ _ _ _ _ _ _ q=>lt_int q
def Ln:bE X (compareOp .LtE) (oZ λi j=>.bl (decide (i<=j))):=Dq λ_ _ _ _ _ _ _ q=>le_int q
def Q5:bE X (compareOp .Gt) (oZ λi j=>.bl (decide (j<i))):=Dq λ_ _ _ _ _ _ _ q=>gt_int q
def RZ:bE X (compareOp .GtE) (oZ λi j=>.bl (decide (j<=i))):=Dq λ_ _ _ _ _ _ _ q=>ge_int q
def Nf:bE X (compareOp .Is) (λx y H Q=>y=.aW/\Q (.bl (decide (x=.aW))) H):=by
 intro pins s U H x y v u Q I rx ry h;obtain⟨rfl,q⟩:=h;cases ry;refine is_none_gen (aY I q ?_);cases x<;>first
  | (cases rx;rfl)
  | (obtain⟨t,rfl⟩:=rx;rfl)
def bE.or{f:Value->Value->Sem Value}{r r':R2}(h:bE X f r)(h':bE X f r'):bE X f (λx y H Q=>r x y H Q\/r' x y H Q):=by intro pins s U H x y v u Q I rx ry q;rcases q with q|q;{exact h pins s U H x y v u Q I rx ry q};exact h' pins s U H x y v u Q I rx ry q
def gK(b:Expr){op:CmpOp}(h:op≠.In:=by decide)(h2:op≠.NotIn:=by decide):behindInMarks op b=false:=by
 have e1:(op==CmpOp.In)=false:=by cases op<;>first|rfl|exact absurd rfl h
 have e2:(op==CmpOp.NotIn)=false:=by cases op<;>first|rfl|exact absurd rfl h2
 cases b<;>simp[behindInMarks,e1,e2]
def MK{op:CmpOp}{r:R2}(ho:bE X (compareOp op) r)(ha:PE X a ta)(hb:PE X b tb)(hm:behindInMarks op b=false):PE X (.Compare a [op] [b] pos) (NU r ta tb):=by intro pins s U H Q I h;exact wpAny_Compare1 (Jm ha hb I h λv u s2 x y H2 I2 rx ry q=>ho pins s2 U H2 x y v u Q I2 rx ry q) hm
inductive EV(Q:(Bool->Hp->Prop)) (x:V)(H':Hp):Prop
 |mk:∀k,(x=.bl k)->(Q k H')->EV Q x H'
def Rn (t:TE):TT:=λU H Q=>t U H λx H'=>EV Q x H'
def Pg (r r':R2)(ta tb tc:TE):TE:=λU H Q=>ta U H λx H1=>tb U H1 λy H2=>r x y H2 λz H3=>∃k,z=.bl k /\
 (if k=true then tc U H3 λw' H4=>r' y w' H4 Q else Q (.bl false) H3)
def Im{op op':CmpOp}{r r':R2}(ho:bE X (compareOp op) r)(ho':bE X (compareOp op') r')(ha:PE X a ta)(hb:PE X b tb)(hc:PE X c tc)(hm:lastMarks [op,op'] [b,c]=false:=by with_unfolding_all rfl):PT X (.Compare a [op,op'] [b,c] pos) (Rn (Pg r r' ta tb tc)):=by
 intro pins s U H Q I h;refine isTrue_chain (aH (ha pins s U H _ I h) λv s1 ⟨x,H1,I1,r1,q1⟩=>test_link (aH (hb pins s1 U H1 _ I1 q1) λu s2 ⟨y,H2,I2,r2,q2⟩=>
  aH (ho pins s2 U H2 x y v u _ I2 r1 r2 q2) λd s3 ⟨z,H3,I3,r3,k,e,q3⟩=>?_)) hm
 subst e;cases r3;refine XG ?_;cases k with
 |false=>obtain⟨k',e',q'⟩:=q3;cases e';exact ite_ff ⟨H3,I3,q'⟩
 |true=>refine ite_tt (test_last (aH (hc pins s3 U H3 _ I3 q3) λw' s4 ⟨z',H4,I4,r4,q4⟩=>aH (ho' pins s4 U H4 y z' u w' _ I4 r2 r4 q4) λd' s5 ⟨z2,H5,I5,r5,k2,e2,q5⟩=>?_));subst e2;cases r5;exact XG ⟨H5,I5,q5⟩
def qg (K:Zv) (x:V)(H:Hp)(k:Bool):Prop:=
 match x with
 |.aW=>k=false
 |.bl b=>k=b
 |.int i=>k=(i != 0)
 |.str y=>y.length<=sizeLine/\k=((y.length:Int) != 0)
 |.mP y=>y.size<=sizeLine/\k=((y.size:Int) != 0)
 |.ref p=>(∃xs,bH K H p xs/\k=!xs.isEmpty)\/(∃xs,bR K H p xs/\k=!xs.isEmpty)\/∃kvs,H p=some (.dK kvs)/\k=!kvs.isEmpty
 |_=>False
def Du{κ:Type}{kvs:List (κ×V)}{vs:List (κ×Value)}(r:KV kvs vs):(!vs.isEmpty)=!kvs.isEmpty:=by cases r<;>rfl
def tS{xs:List V}{its:A00}(r:Vals xs its):(!its.toArray.isEmpty)=!xs.isEmpty:=by cases r<;>simp
def mL:(sizeLine:Nat)<2^63:=by rw[sizeLine_eq];decide
def F8:Ub X (λx H Q=>∃k,qg X.K x H k/\Q k H):=by
 intro pins s U H x v Q I rx h;obtain⟨k,e,q⟩:=h;have hl:=mL;have hs:sizeLine=16777216:=sizeLine_eq;cases x with
 |aW=>cases rx;have e':k=false:=e;subst e';exact truthy_none ⟨H,I,q⟩
 |bl b=>cases rx;have e':k=b:=e;subst e';exact XG ⟨H,I,q⟩
 |int i=>obtain⟨t,rfl⟩:=rx;have e':k=(i != 0):=e;subst e';exact PySem.P.truthy_int ⟨H,I,q⟩
 |str y=>obtain⟨t,rfl⟩:=rx;obtain⟨hy,e'⟩:y.length<=sizeLine/\k=((y.length:Int) != 0):=e;subst e';exact PySem.P.truthy_str (by lia) ⟨H,I.tok _,q⟩
 |mP y=>obtain⟨t,rfl⟩:=rx;obtain⟨hy,e'⟩:y.size<=sizeLine/\k=((y.size:Int) != 0):=e;subst e';exact PySem.W.truthy_bytes (by lia) ⟨H,I.tok _,q⟩
 |ref p=>cases rx;have e':(∃xs,bH X.K H p xs/\k=!xs.isEmpty)\/(∃xs,bR X.K H p xs/\k=!xs.isEmpty)\/∃kvs,H p=some (.dK kvs)/\k=!kvs.isEmpty:=e;rcases e' with⟨xs,hx,e'⟩|⟨xs,hx,e'⟩|⟨kvs,hx,e'⟩;{subst e';obtain⟨its,r,pl,hz⟩:=I.list hx;have hlen:=r.length;exact wpAny_truthy_list pl.isList (by simp only[VM];lia) ⟨H,I.tok _,by rw[tS r];exact q⟩};{subst e';obtain⟨its,r,pl,hz⟩:=I.tuple hx;have hlen:=r.length;exact truthy_tuple pl (by simp only[VM];lia) ⟨H,I.tok _,by rw[tS r];exact q⟩};subst e';obtain⟨hz,hS,vs,r,m⟩:kvs.length<=sizeLine/\(p==sysModules)=false/\∃vs,KV kvs vs/\s.heap.DictOf (cX X.prog X.w) p vs:=I.hok p _ hx;have hlen:kvs.length=vs.length:=Paired.length r;exact wpAny_truthy_dict hS m (by lia) ⟨H,I.tok _,by rw[Du r];exact q⟩
 |_=>exact(show False from e).elim
def zj(ha:PE X a ta)(he:∀whole,isTrue a X.env whole=(do let v <-whole;standAt a.pos;holding [v] (truthy v))) :
  PT X a (λU H Q=>ta U H λx H'=>∃k,qg X.K x H' k/\Q k H'):=by
 intro pins s U H Q I h;exact isTrue_plain (aH (ha pins s U H _ I h) λv s1 ⟨x,H1,I1,r1,q1⟩=>F8 pins s1 U H1 x v Q I1 r1 q1) (he _)
def D9:bE X (binaryOp .Add) (λx y H Q=>∃i j,x=.str i/\y=.str j/\i.length+j.length<=sizeLine/\Q (.str (i++j)) H):=by intro pins s U H x y v u Q I rx ry h;obtain⟨i,j,rfl,rfl,hz,q⟩:=h;obtain⟨t,rfl⟩:=rx;obtain⟨t',rfl⟩:=ry;exact add_str (λt' tk=>⟨.str (i++j),H,I.tok _,⟨_,rfl⟩,q⟩) hz
def vals1{x:V}{us:A00}(r:Vals [x] us):∃u,us=[u]/\RelV x u:=by
 cases r with
 |cons r1 r2=>cases r2;exact⟨_,rfl,r1⟩
def vals2{x y:V}{us:A00}(r:Vals [x,y] us):∃u w',us=[u,w']/\RelV x u/\RelV y w':=by
 cases r with
 |cons r1 r2=>
  cases r2 with
  |cons r3 r4=>cases r4;exact⟨_,_,rfl,r1,r3⟩
def F7(hc:X.calm=true):b8 X (.builtin "min") (λxs H Q=>∃i j,xs=[.int i,.int j]/\Q (.int (if j<i then j else i)) H):=by intro pins s U H xs us Q I r h;obtain⟨i,j,rfl,q⟩:=h;obtain⟨u,w',rfl,⟨t,rfl⟩,⟨t',rfl⟩⟩:=vals2 r;refine min_two_ints (I.ok.hd hc) λh' tk k=>⟨_,H,I.kept k,?_,q⟩;by_cases hj:j<i;{rw[if_pos hj,if_pos hj];exact⟨_,rfl⟩};rw[if_neg hj,if_neg hj];exact⟨_,rfl⟩
def Gb:b8 X (.type "int") (λxs H Q=>(∃i,xs=[.int i]/\Q (.int i) H)\/∃k,xs=[.bl k]/\Q (.int (if k then 1 else 0)) H):=by intro pins s U H xs us Q I r h;rcases h with⟨i,rfl,q⟩|⟨k,rfl,q⟩;{obtain⟨u,rfl,t,rfl⟩:=vals1 r;exact call_int_int ⟨.int i,H,I,⟨_,rfl⟩,q⟩};obtain⟨u,rfl,r1⟩:=vals1 r;cases r1;exact call_int_bool ⟨.int (if k then 1 else 0),H,I.tok _,⟨_,rfl⟩,q⟩
end
structure Jr(h:Heap)(x dx C:Addr)(mA:Zp):Prop where
 obj:h.get? x=some (PySem.W.instObj C dx)
 ns:h.Ns1 dx mA
 ne:dx≠x
def FT{h:Heap}{dx:Addr}{mA:Zp}(n:h.Ns1 dx mA):∃od,h.get? dx=some od/\∀name,PySem.W.lookIn name od=some (mA name):=by
 obtain⟨o,es,ep,ho,hd,hk,_,hm⟩:=n;refine⟨o,ho,λname=>?_⟩;have e:=hm name;unfold nsFind findBy at e;rw[<-ZH]at e;unfold PySem.W.lookIn;rw[hd];dsimp only;split;{rename_i y q;rw[q]at e;exact congrArg some e};rename_i q;rw[q]at e;have a:es.toList.any (·.refKey)=false:=by rw[List.any_eq_false];intro y hy;obtain⟨z,t,hkey⟩:=hk y (YA.mp hy);simp[DictEntry.refKey,hkey]
 have a':¬es.toList.any (·.refKey)=true:=by rw[a];exact VQ
 rw[if_neg a'];exact congrArg some e
def Jr.look{h:Heap}{x dx C:Addr}{mA:Zp}(I:Jr h x dx C mA):∃od,PySem.W.InstAt h x (PySem.W.instObj C dx) C (some od)/\∀name,PySem.W.lookIn name od=some (mA name):=
 let⟨od,ho,hl⟩:=FT I.ns
 ⟨od,⟨I.obj,rfl,rfl,ho⟩,hl⟩
def jG.some_of{v:V}{o:Zw}(r:jG (some v) o):∃u,o=some u/\RelV v u:=by
 cases o with
 |none=>exact(show False from r).elim
 |some u=>exact⟨u,rfl,r⟩
section
variable{P:Program}{w:World}{H H':Hp}{h h':Heap}{a C dx:Addr}{fs fs':List (Str×V)}
def nG(hok:dg P w H h)(e:H a=some (.ins C dx fs)):∃mA,Jr h a dx C mA/\(∀f,jG (fs.lookup f) (mA f))/\PySem.Within mA (fs.map (·.1))/\fs.length<=1000/\H dx=some (.own a):=by obtain⟨d,z,ne,ob,mA,n,r,q⟩:=(show bC P w H h a (.ins C dx fs)from hok a _ e);exact⟨mA,⟨ob,n,ne⟩,r,q,z,d⟩
end
structure QN(K:Zv)(C:Addr):Prop where
 pg:PySem.W.plainGet K C Str.empty=true
 hd:PySem.W.hasDictIn K C=true
 po:PySem.W.plainOver K C=true
 sa:PySem.W.findIn K (.ref C) "__setattr__"=some (some (.builtin "object.__setattr__"))
def QN.get{K:Zv}{C:Addr}(c:QN K C) (f:Str):PySem.W.plainGet K C f=true:=c.pg
section
variable{X:Cx}{pins:Zq}{U:St}{H:Hp}{s:Shared}{A:Around}{E:Zn}{Q:Zn}{c:Value}{b:Bool}
inductive gG(K:Zv)(H:Hp):V->Value->Prop where
 |aW:gG K H .aW (.type "NoneType")
 |bl (x:Bool):gG K H (.bl x) (.type "bool")
 |int (i:Int):gG K H (.int i) (.type "int")
 |str (x:Str):gG K H (.str x) (.type "str")
 |By (x:UInt64):gG K H (.By x) (.type "float")
 |lst {a:Addr}{xs:List V}(e:H a=some (.lst xs)):gG K H (.ref a) (.type "list")
 |cZ {a:Addr}{o:Obj}{xs:List V}(e:H a=some (.cZ o (.lst xs))):gG K H (.ref a) (.type "list")
 |kl {a:Addr}{its:Zx}{n:Nat}(e:K.lookup a=some { cls:=.type "list",data:=.seq its n }):gG K H (.ref a) (.type "list")
 |tup {a:Addr}{xs:List V}(e:H a=some (.tup xs)):gG K H (.ref a) (.type "tuple")
 |dK {a:Addr}{kvs:List (Key×V)}(e:H a=some (.dK kvs)):gG K H (.ref a) (.type "dict")
 |dT {a:Addr}{kvs:List (List Key×V)}(e:H a=some (.dT kvs)):gG K H (.ref a) (.type "dict")
 |ins {a C dx:Addr}{fs:List (Str×V)}(e:H a=some (.ins C dx fs))(cl:QN K C)(ha:PySem.W.findIn K (.ref C) "__class__"=some (some (.builtin "object.__class__")))
   (hn:PySem.W.specialIn K (.builtin "object.__class__") "__get__"=some (some (.builtin "getset_descriptor.__get__")))(htk:PySem.W.takesIn K (.builtin "object.__class__")=some true)
   (hm:PySem.W.mroIn K C (.type "object")=some true):gG K H (.ref a) (.ref C)
def ES{x:V}{u t:Value}(I:Inv X pins U H s)(rx:RelV x u)(ty:gG X.K H x t)(e:PySem.W.kitOne X.K t c=some b)(h:∀tk,Q (.bool b) { s with toks:=tk }) : wpAny (model X.prog X.w) A (call (.builtin "isinstance") [u,c]) Q E s:=by
 cases ty with
 |aW=>cases (show u=Value.none from rx);exact Wh PySem.W.kitx_none I.iA Wt e (λz=>nomatch z) h
 |bl y=>cases (show u=Value.bool y from rx);exact Wh PySem.W.kitx_bool I.iA Wt e (λz=>nomatch z) h
 |int i=>obtain⟨t,q⟩:=(show ∃t,u=Value.int i t from rx);cases q;exact Wh PySem.W.kitx_int I.iA Wt e (λz=>nomatch z) h
 |str y=>obtain⟨t,q⟩:=(show ∃t,u=Value.str y t from rx);cases q;exact Wh PySem.W.kitx_str I.iA Wt e (λz=>nomatch z) h
 |By y=>obtain⟨t,q⟩:=(show ∃t,u=Value.float y t from rx);cases q;exact Wh PySem.W.kitx_float I.iA Wt e (λz=>nomatch z) h
 |@lst a xs ea=>cases (show u=Value.ref a from rx);obtain⟨_,_,n,_,h1⟩:=(show bC X.prog X.w H s.heap a (.lst xs)from I.hok a _ ea);exact Wh ZI I.iA ⟨_,h1,rfl⟩ e (λz=>nomatch z) h
 |@cZ a ob xs ea=>cases (show u=Value.ref a from rx);obtain⟨_,_,_,n,_,h1⟩:=(show bC X.prog X.w H s.heap a (.cZ ob (.lst xs))from I.hok a _ ea);exact Wh ZI I.iA ⟨_,h1,rfl⟩ e (λz=>nomatch z) h
 |@kl a its n ea=>cases (show u=Value.ref a from rx);exact Wh ZI I.iA ⟨_,I.iA a _ ea,rfl⟩ e (λz=>nomatch z) h
 |@tup a xs ea=>cases (show u=Value.ref a from rx);obtain⟨_,_,_,p⟩:=(show bC X.prog X.w H s.heap a (.tup xs)from I.hok a _ ea);obtain⟨o,h1,h2,_⟩:=p;exact Wh PySem.W.kitx_tuple I.iA ⟨o,h1,h2⟩ e (λz=>nomatch z) h
 |@dK a kvs ea=>cases (show u=Value.ref a from rx);obtain⟨_,_,vs,_,p⟩:=(show bC X.prog X.w H s.heap a (.dK kvs)from I.hok a _ ea);obtain⟨o,es,ep,h1,h2,_⟩:=p;exact Wh PySem.W.kitx_dict I.iA ⟨o,h1,h2.1⟩ e (λz=>nomatch z) h
 |@dT a kvs ea=>cases (show u=Value.ref a from rx);obtain⟨_,_,xs,_,o,es,ep,h1,h2,_⟩:=(show bC X.prog X.w H s.heap a (.dT kvs)from I.hok a _ ea);exact Wh PySem.W.kitx_dict I.iA ⟨o,h1,h2.1⟩ e (λz=>nomatch z) h
 |@ins a C dx fs ea cl ha hn htk hm=>cases (show u=Value.ref a from rx);obtain⟨mA,O,_⟩:=nG I.hok ea;obtain⟨od,J,_⟩:=O.look;exact Wh (PySem.W.kitx_own (cl.get _) cl.hd ha hn htk hm) I.iA J e (λz=>nomatch z) h
end
structure dM(k:Nat)(A:Around):Prop where
 hd:A.handled=none
 dp:A.depth+3*k+5<recursionLimit
 un:A.units+16*k+200<cLine
def dM.mono{j k:Nat}{A:Around}(r:dM k A)(h:j<=k):dM j A:=⟨r.hd,by have:=r.dp;lia,by have:=r.un;lia⟩
theorem dM.deeper{k:Nat}{A:Around}(r:dM (k+1) A)(env:Env):dM k (A.deeper env):=
 ⟨r.hd,by have:=r.dp;show A.depth+1+3*k+5<_;lia,by have:=r.un;show A.units+3+16*k+200<_;lia⟩
theorem dM.depth{k:Nat}{A:Around}(r:dM k A):A.depth<recursionLimit:=by have:=r.dp;lia
theorem dM.units{k:Nat}{A:Around}(r:dM k A):A.units+64<cLine:=by have:=r.un;lia
def N7:TA:=λ_ H Q=>Q [] H
def RP (ta:TE)(tr:TA):TA:=λU H Q=>ta U H λx H1=>tr U H1 λxs H2=>Q (x::xs) H2
section
variable{X:Cx}{e:Expr}{es:A03}{te:TE}{t:TA}{pos:Pos}
def nk:PA X [] N7:=λ_ _ _ _ H Q I h=>Calls.spliced_nil ⟨[],H,I,.nil,h⟩
def iu(ha:PE X e te)(hr:PA X es t)(hs:starEach (e::es) X.env=(false,eval e X.env)::starEach es X.env:=by rfl):PA X (e::es) (RP te t):=by intro pos pins s U H Q I h;rw[hs];show wpAny _ _ (spliced ((false,eval e X.env)::backTo pos (starEach es X.env))) _ _ s;refine Calls.spliced_cons (aH (ha pins s U H _ I h) λu s1 ⟨x,H1,I1,r1,q1⟩=>?_);exact aH (hr pos pins s1 U H1 _ I1 q1) λus s2 ⟨xs,H2,I2,r2,q2⟩=>⟨x::xs,H2,I2,.cons r1 r2,q2⟩
def TH (t:TA):TE:=λU H Q=>t U H λxs H1=>xs.length<=sizeLine/\∀p,H1 p=none->Q (.ref p) (upd H1 p (.tup xs))
def TR (t:TA):TE:=λU H Q=>t U H λxs H1=>xs.length<=sizeLine/\∀p,H1 p=none->Q (.ref p) (upd H1 p (.lst xs))
def O0{x1}(h:PA X es t):PE X (.Tuple es x1 pos) (TH t):=by intro pins s U H Q I hq;refine wpAny_Tuple_spliced (aH (h pos pins s U H _ I hq) λus s1 ⟨xs,H1,I1,r,z,q⟩=>⟨by rw[<-r.length];exact z,?_⟩);have hf:H1 s1.heap.objs.size=none:=I1.hok.fresh (V4 _);refine⟨.ref s1.heap.objs.size,upd H1 s1.heap.objs.size (.tup xs),I1.laid (t':=s1.toks) (λb u e=>VS _ e) (V4 _) ?_,rfl,q _ hf⟩;exact⟨z,us,r,⟨_,W0 _ rfl,rfl,_,rfl⟩⟩
def Nt(h:PA X es t):PE X (.List es pos) (TR t):=by intro pins s U H Q I hq;refine wpAny_List_spliced (aH (h pos pins s U H _ I hq) λus s1 ⟨xs,H1,I1,r,z,q⟩=>⟨by rw[<-r.length];exact z,?_⟩);have hf:H1 s1.heap.objs.size=none:=I1.hok.fresh (V4 _);refine⟨.ref s1.heap.objs.size,upd H1 s1.heap.objs.size (.lst xs),I1.laid (t':=s1.toks) (λb u e=>VS _ e) (V4 _) ?_,rfl,q _ hf⟩;exact⟨z,us,0,r,W0 _ rfl⟩
abbrev Sp:=List V->Hp->VK->XK->Prop
abbrev lA:=List Env->Hp->Shared->XK->Value->Shared->Prop
end
structure CT(P:Program)(w:World)(K:Zv)(mg:Zp)(base:Heap)(A:Around)(outer:List Env)(s:Shared)(H:Hp):Prop where
 frames:A.frames=some outer
 mod:Mod K mg base
 bs:∀b o,base.get? b=some o->s.heap.get? b=some o/\H b=none
 BV:base.objs.size<=s.heap.objs.size
 l8:s.heap.FunFrames base outer
 HB:∀b∈frs outer,H b=none
 hok:dg P w H s.heap
 bare:AllBare s.gens
def CE (outer:List Env)(P:Program)(w:World)(H:Hp)(s:Shared)(Q:VK)(u:Value)(s':Shared):Prop:=
 ∃v H',s'.os=s.os/\AllBare s'.gens/\Un (frs outer) [] H H' s.heap s'.heap/\dg P w H' s'.heap/\RelV v u/\Q v H'
def CR (CX:lA)(outer:List Env)(P:Program)(w:World)(H:Hp)(s:Shared)(Q:VK)(E:XK)(r:Result)(s':Shared):Prop:=
 match r with
 |.ok (.ret u)=>CE outer P w H s Q u s'
 |.ok _=>False
 |.error e=>CX outer H s E e s'
structure gA(P:Program)(w:World)(K:Zv)(mg:Zp)(base:Heap)(CX:lA) (k:Nat)(f:Addr)(fd:FuncData)(ps:A07)(sp:Sp):Prop where
 len:∀vs H Q E,sp vs H Q E->vs.length=ps.length
 run:∀(A:Around)(outer:List Env)(s:Shared)(H:Hp)(args:Args)(us:A00)(vs:List V)(Q:VK)(E:XK),dM k A->CT P w K mg base A outer s H->BindsTo s fd args (ps.zip us)->Vals vs us->sp vs H Q E->
  codeAny (model P w) A (.call (.ref f) args) (CR CX outer P w H s Q E) s
def gA.imp{P:Program}{w:World}{K:Zv}{mg:Zp}{base:Heap}{CX:lA}{k:Nat}{f:Addr}{fd:FuncData}{ps:A07}{sp sp':Sp}(F:gA P w K mg base CX k f fd ps sp)(h:∀vs H Q E,sp' vs H Q E->sp vs H Q E):gA P w K mg base CX k f fd ps sp':=
 ⟨λvs H Q E q=>F.len vs H Q E (h _ _ _ _ q),λA outer s H args us vs Q E hr he hb hv hs=>F.run A outer s H args us vs Q E hr he hb hv (h _ _ _ _ hs)⟩
section
variable{X:Cx}{pins:Zq}{U:St}{H:Hp}{s s':Shared}
def Inv.TZ(I:Inv X pins U H s):CT X.prog X.w X.K X.mg X.base X.A X.stack s H:=
 ⟨I.ok.frames,I.ok.mod,I.bs,VX I.ok.BV I.sz,I.stack,I.u9,I.hok,I.bare⟩
def Inv.after{Q:VK}{u:Value}(I:Inv X pins U H s)(h:CE X.stack X.prog X.w H s Q u s'):EP X pins U Q u s':=by obtain⟨v,H',os,bare,un,hok,r,q⟩:=h;obtain⟨hh,g,d,t,os'⟩:=s';obtain rfl:os'=s.os:=os;exact⟨v,H',I.call (h':=hh) (g':=g) (d':=d) (t':=t) (ch:=[]) un hok bare (λb z=>absurd z (by simp)),r,q⟩
def Rc (sp:Sp)(dvs:List V)(E:XK)(t:TA):TE:=λU H Q=>t U H λvs H1=>sp (vs++dvs) H1 Q E
def Binds (K:Zv)(fd:FuncData)(ps:A07)(ds:A00):Prop:=
 ∀(s:Shared)(us:A00),K.In s.heap->(us++ds).length=ps.length->BindsTo s fd ⟨us,[]⟩ (ps.zip (us++ds))
def Binds.all{K:Zv}{fd:FuncData}{ps:A07}(h:∀us:A00,us.length=ps.length->bindArgs fd ⟨us,[]⟩=pure (ps.zip us)):Binds K fd ps []:=λs us _ hl=>by rw[WO]at hl⊢;exact .of_eq (h us hl)
def Passes (CX:lA)(X:Cx)(E:XK):Prop:=∀(pins:Zq)(U:St)(H:Hp)(s:Shared)(e:Value)(s':Shared),Inv X pins U H s->CX X.stack H s E e s'->X.xe e s'
variable{CX:lA}{k:Nat}{f C:Addr}{fd:FuncData}{ps:A07}{sp:Sp}{dvs:List V}{ds:A00}{E:XK}{x m:Str}{p pos apos:Pos}{e o:Expr}{es:A03}{ta:TE}{t:TA}
def Of{pins:Zq}{U:St}{H:Hp}{s:Shared}{Q:VK}{us:A00}{vs:List V}(F:gA X.prog X.w X.K X.mg X.base CX k f fd ps sp)(hr:dM k X.A)(hb:Binds X.K fd ps ds)(hd:Vals dvs ds)(hx:Passes CX X E)(I:Inv X pins U H s)(r:Vals vs us)(h:sp (vs++dvs) H Q E):wpAny (model X.prog X.w) X.A (call (.ref f) us) (EP X pins U Q) X.xe s:=by
 have r2:Vals (vs++dvs) (us++ds):=r.append hd;have hl:(us++ds).length=ps.length:=by rw[<-r2.length];exact F.len _ _ _ _ h
 refine wpAny_call (YB (F.run X.A X.stack s H ⟨us,[]⟩ (us++ds) (vs++dvs) Q E hr I.TZ (hb s us I.iA hl) r2 h) λr s' hq=>?_);cases r with
 |error e=>exact hx pins U H s e s' I hq
 |ok fl=>
  cases fl with
  |ret u=>exact I.after hq
  |next=>exact False.elim hq
  |brk=>exact False.elim hq
  |cont=>exact False.elim hq
def Cb(F:gA X.prog X.w X.K X.mg X.base CX k f fd ps sp)(hr:dM k X.A)(hg:Gl X x)(hm:X.mg x=some (.ref f))(hk:PySem.W.keepIn X.K (.ref f)=true)(hb:Binds X.K fd ps ds)(hd:Vals dvs ds)(hx:Passes CX X E)(ha:PA X (e::es) t)(hdb:(x==("__debug__":Str))=false:=by decide)(he:starEach (e::es) X.env=(false,eval e X.env)::starEach es X.env:=by rfl)(hpl:(backTo pos (starEach es X.env)).any (·.1)=false:=by rfl) : PE X (.Call (.Name x p) (e::es) [] pos) (Rc sp dvs E t):=by intro pins s U H Q I h;refine Yb (vP I hg hm ?_ hdb);refine PySem.W.callWith_K (h₀:=X.base) I.ok.mod.BZ hk (aH (ha pos pins s U H _ I h) λus s1 ⟨vs,H1,I1,r,q⟩=>⟨I1.iA,?_⟩) he hpl;exact Of F hr hb hd hx I1 r q
end
structure aM(N P:A07)(sc:Scope):Prop where
 kind:sc.kind=.function
 co:sc.isCoroutine=false
 gen:sc.isGenerator=false
 nd:N.Nodup
 pre:N.take P.length=P
 par:∀x∈P,sc.names.lookup x=some .local\/sc.names.lookup x=some .cell
 Pc:∀y∈sc.names,y.2≠.free
theorem w9{kindOf:Str->Option NameKind}{x:Str}:∀{binds:List (Str×Value)}{m:Zp},(∀v,(x,v)∉binds)->bindL kindOf binds m x=m x
 |[],_,_=>rfl
 | (n,v)::r,m,h=>by
  unfold bindL;rw[w9 λw hw=>h w (V8 _ hw)];split
  .have:x≠n:=by rintro rfl;exact h v V3
   simp[this]
  rfl
theorem wK{kindOf:Str->Option NameKind}{x:Str}:∀{binds:List (Str×Value)}{m:Zp},(∀v,(x,v)∉binds)->bindC kindOf binds m x=m x
 |[],_,_=>rfl
 | (n,v)::r,m,h=>by
  unfold bindC;rw[wK λw hw=>h w (V8 _ hw)];split;{rfl};have:x≠n:=by rintro rfl;exact h v V3
  simp[this]
theorem wI{kindOf:Str->Option NameKind}{x:Str}{v:Value}:∀{P:A07}{vs:A00}{i:Nat}{m:Zp},P.Nodup->P[i]?=some x->vs[i]?=some v->kindOf x=some .local-> bindL kindOf (P.zip vs) m x=some v
 |[],_,_,_,_,h,_,_=>by simp at h
 |_::_,[],_,_,_,_,h,_=>by simp at h
 |p::P,w::vs,0,m,nd,h1,h2,hk=>by simp at h1 h2;subst h1;subst h2;show bindL kindOf ((p,w)::P.zip vs) m p=_;unfold bindL;rw[w9 λv hv=>(WB.mp nd).1 (Yc hv).1,if_pos hk];simp
 |p::P,w::vs,i+1,m,nd,h1,h2,hk=>by show bindL kindOf ((p,w)::P.zip vs) m x=_;unfold bindL;exact wI (i:=i) (WB.mp nd).2 (by simpa using h1) (by simpa using h2) hk
theorem wg{kindOf:Str->Option NameKind}{x:Str}{v:Value}:∀{P:A07}{vs:A00}{i:Nat}{m:Zp},P.Nodup->P[i]?=some x->vs[i]?=some v->kindOf x≠some .local-> bindC kindOf (P.zip vs) m x=some v
 |[],_,_,_,_,h,_,_=>by simp at h
 |_::_,[],_,_,_,_,h,_=>by simp at h
 |p::P,w::vs,0,m,nd,h1,h2,hk=>by simp at h1 h2;subst h1;subst h2;show bindC kindOf ((p,w)::P.zip vs) m p=_;unfold bindC;rw[wK λv hv=>(WB.mp nd).1 (Yc hv).1,if_neg hk];simp
 |p::P,w::vs,i+1,m,nd,h1,h2,hk=>by show bindC kindOf ((p,w)::P.zip vs) m x=_;unfold bindC;exact wg (i:=i) (WB.mp nd).2 (by simpa using h1) (by simpa using h2) hk
def start (N:A07)(vs:List V):St:=vs.map some++List.replicate (N.length-vs.length) none
def gH (CX:lA)(P:Program)(w:World)(K:Zv)(mg:Zp)(base:Heap)(N:A07) (qual:Str)(scope:Scope)(f:Addr)(cd:Value)(A:Around)(outer:List Env)(s:Shared)(H:Hp)(E:XK):Cx where
 prog:=P
 w:=w
 K:=K
 mg:=mg
 base:=base
 A:=A.deeper (envOfC qual scope s.heap.objs.size f cd)
 N:=N
 s₀:=s
 H₀:=H
 env:=envOfC qual scope s.heap.objs.size f cd
 outer:=outer
 stack:=envOfC qual scope s.heap.objs.size f cd::outer
 ex:=[]
 calm:=true
 fn:=λ_=>true
 pn:=[]
 xe:=λe s'=>wpAny (model P w) (A.deeper (envOfC qual scope s.heap.objs.size f cd)) (leaving (envOfC qual scope s.heap.objs.size f cd) e) (λ_ s''=>CX outer H s E e s'') (λe' s''=>CX outer H s E e' s'') s'
def Af{sc:Scope}{n:Nat}{x:Str}(h:sc.names.lookup x=some .cell):∃c,(cellsFrom n sc.names []).lookup x=some c:=by have q:=PySem.W.cellsFrom_some sc.names n [] (.inl h);exact Option.isSome_iff_exists.mp q
def HQ{CX:lA}{P:Program}{w:World}{K:Zv}{mg:Zp}{base:Heap}{N ps:A07}{qual:Str}{scope:Scope}{f:Addr}{cd:Value}{A:Around}{outer:List Env}{s s1:Shared}{H:Hp}{E:XK}{us:A00}{vs:List V}(S:aM N ps scope)(hd:A.handled=none)(e0:CT P w K mg base A outer s H)(hl:vs.length=ps.length)(r:Vals vs us)(x:InCallC s s.heap.objs.size (bindL (envOfC qual scope s.heap.objs.size f cd).kindOf (ps.zip us) λ_=>none) (cellsFrom (s.heap.objs.size+1) scope.names []) (bindC (envOfC qual scope s.heap.objs.size f cd).kindOf (ps.zip us) λ_=>none) s1) : Inv (gH CX P w K mg base N qual scope f cd A outer s H E) [] (start N vs) H s1:=by
 have hpl:ps.length<=N.length:=by have:=congrArg List.length S.pre;rw[WI]at this;lia
 obtain⟨h1,tk,rfl,hk⟩:=x.done;have noA:∀b:Addr,b∉(gH CX P w K mg base N qual scope f cd A outer s H E).ex:=λb z=>absurd (show b∈([]:A01)from z) (by simp);refine⟨⟨e0.mod,S.kind,rfl,rfl,V4 _,λy z c h1 h2=>?_,λy hy=>?_,λy c _ h=>?_,λ_=>hd,Around.frames_deeper e0.frames,.inr ⟨rfl,rfl⟩,λb z=>absurd z (noA b),e0.bs,e0.BV,λb _ _=>noA b,λb z=>absurd z (noA b),e0.l8,e0.HB⟩,
  rfl,e0.bare,Un.kept hk,⟨_,x.toInCall.ns,λi y v h1 h2 h3=>?_⟩,λy c h=>⟨_,x.cell y c h⟩,e0.hok.fresh (V4 _),λy c h=>?_,λp hp=>absurd (show p∈([]:Zq)from hp) (by simp),e0.hok.kept hk,?_⟩
 .exact name_of_addr x.apart (YC h1) (YC h2)
 .have hy:scope.names.lookup y=some .cell\/scope.names.lookup y=some .free:=hy;rcases hy with hy|hy;{exact Af hy};exact absurd rfl (S.Pc _ (YC hy))
 .exact YW (x.above y c (YC h))
 .have hi:i<vs.length:=by unfold start at h2;by_cases hi:i<vs.length;{exact hi};rw[Xd (by simpa using hi)]at h2;rw[Yd]at h2;split at h2<;>cases h2
  have ha:vs[i]?=some v:=by
   unfold start at h2;rw[XJ (by simpa using hi),VA]at h2;cases e:vs[i]? with
   |none=>rw[e]at h2;cases h2
   |some a=>rw[e]at h2;cases h2;rfl
  obtain⟨u,hu,rv⟩:=r.get ha;have hp:ps[i]?=some y:=by rw[<-S.pre,Ye (by lia)];exact h1
  have ndP:ps.Nodup:=by rw[<-S.pre];exact S.nd.sublist (ZJ _ _)
  refine⟨u,rv,?_⟩;rcases S.par y (VV hp)with k|k;{exact .inl ⟨k,wI ndP hp hu k⟩};obtain⟨c,e⟩:=Af (n:=s.heap.objs.size+1) k;refine .inr ⟨.inl k,c,e,?_⟩;have q:=x.cell y c e;rw[wg ndP hp hu (by show scope.names.lookup y≠_;rw[k];decide)]at q;exact q
 .exact e0.hok.fresh (YW (x.above y c (YC h)))
 unfold start;show _=N.length;rw[VI,V2,Wb];lia
def Rf{CX:lA}{P:Program}{w:World}{K:Zv}{mg:Zp}{base:Heap}{k:Nat}{f:Addr}{name qual:Str}{params:Arguments}{body:A04}{scope:Scope}{dV kV doc pm cdv ct oc:Value}{an od:Zz}{osl:Zm}{N ps:A07}{sp:Sp}(lk:K.lookup f=some ⟨oc,od,.func (PySem.W.fnOf name qual params body scope dV kV doc pm an cdv ct),osl⟩)(hcd:PySem.W.codeIn K cdv qual=true)(S:aM N ps scope)(len:∀vs H Q E,sp vs H Q E->vs.length=ps.length)(hbody:∀(A:Around)(outer:List Env)(s:Shared)(H:Hp)(vs:List V)(Q:VK)(E:XK),dM k (A.deeper (envOfC qual scope s.heap.objs.size f cdv))->sp vs H Q E-> ∃t,oR (gH CX P w K mg base N qual scope f cdv A outer s H E) body t/\t { nx:=λ_ H'=>Q .aW H',rt:=Q } (start N vs) H) : gA P w K mg base CX (k+1) f (PySem.W.fnOf name qual params body scope dV kV doc pm an cdv ct) ps sp:=by
 refine⟨len,λA outer s H args us vs Q E hr e0 hb r hsp=>?_⟩;have hl:=len _ _ _ _ hsp;have KX:K.In s.heap:=e0.mod.BZ.keeps λb o e=>(e0.bs b o e).1;have lim:s.heap.NoLimit:=e0.mod.nolimit.keeps λb o e=>(e0.bs b o e).1;have hkind:∀y∈ps.zip us,scope.names.lookup y.1=some .local\/(scope.names.lookup y.1=some .cell/\((cellsFrom (s.heap.objs.size+1) scope.names []).lookup y.1).isSome=true):=λ⟨n,v⟩ hy=>by rcases S.par n (Yc hy).1 with q|q;{exact .inl q};exact .inr ⟨q,PySem.W.cellsFrom_some _ _ _ (.inl q)⟩
 refine codeAny_call_function hr.depth (KX _ _ lk) rfl S.co S.gen rfl (PySem.W.codeRec_of KX hcd) (hb _ _ _ _ ?_);refine wpAny_newFunctionEnv_cells S.kind hkind λenv he s1 x=>?_;subst he;refine⟨lim.keeps x.toInCall.keep,codeAny_func ?_⟩;obtain⟨t,ht,hq⟩:=hbody A outer s H vs Q E (hr.deeper _) hsp;have I:Inv (gH CX P w K mg base N qual scope f cdv A outer s H E) [] (start N vs) H s1:=HQ S hr.hd e0 hl r x;refine Vw (ht [] s1 (start N vs) H _ I hq) (λfl s' hs=>?_) λe s' hs=>hs;have fin:∀{σ':St}{H':Hp}{v:V}{u:Value},Inv (gH CX P w K mg base N qual scope f cdv A outer s H E) [] σ' H' s'->RelV v u->Q v H'->CE outer P w H s Q u s':=
  λ{σ' H' v u} J rv q=>⟨v,H',J.os,J.bare,J.base,J.hok,rv,q⟩
 cases fl with
 |ret u=>obtain⟨v,σ',H',J,rv,q⟩:=hs;exact fin J rv q
 |next=>obtain⟨σ',H',J,q⟩:=hs;exact fin (v:=V.aW) (u:=Value.none) J rfl q
 |brk=>obtain⟨_,_,_,q⟩:=hs;exact False.elim q
 |cont=>obtain⟨_,_,_,q⟩:=hs;exact False.elim q
variable{X:Cx}{x:Str}{p pos:Pos}{e:Expr}{es:A03}{t:TA}{id T:String}{r:List V->Hp->VK->Prop}
def Ql (r:List V->Hp->VK->Prop)(t:TA):TE:=λU H Q=>t U H λvs H1=>r vs H1 Q
def Ad(hc:b8 X (.builtin id) r)(hg:Gl X x)(hm:X.mg x=none)(hv:bootBuiltins x=some (.builtin id))(ha:PA X (e::es) t)(hn:x≠"__name__":=by decide)(hdb:(x==("__debug__":Str))=false:=by decide)(he:starEach (e::es) X.env=(false,eval e X.env)::starEach es X.env:=by rfl)(hpl:(backTo pos (starEach es X.env)).any (·.1)=false:=by rfl):PE X (.Call (.Name x p) (e::es) [] pos) (Ql r t):=by intro pins s U H Q I h;refine Yb (iQ I hg hm hv ?_ hn hdb);exact PyProof.Rows.callWith_builtin1 (aH (ha pos pins s U H _ I h) λus s1 ⟨vs,H1,I1,r1,q1⟩=>hc pins s1 U H1 vs us Q I1 r1 q1) he hpl
def lS(hc:b8 X (.type T) r)(hg:Gl X x)(hm:X.mg x=none)(hv:bootBuiltins x=some (.type T))(ha:PA X (e::es) t)(hn:x≠"__name__":=by decide)(hdb:(x==("__debug__":Str))=false:=by decide)(he:starEach (e::es) X.env=(false,eval e X.env)::starEach es X.env:=by rfl)(hpl:(backTo pos (starEach es X.env)).any (·.1)=false:=by rfl):PE X (.Call (.Name x p) (e::es) [] pos) (Ql r t):=by intro pins s U H Q I h;refine Yb (iQ I hg hm hv ?_ hn hdb);exact Xp (aH (ha pos pins s U H _ I h) λus s1 ⟨vs,H1,I1,r1,q1⟩=>hc pins s1 U H1 vs us Q I1 r1 q1) he hpl
def CW(hc:b8 X (.type T) r)(hg:Gl X x)(hm:X.mg x=none)(hv:bootBuiltins x=some (.type T))(hn:x≠"__name__":=by decide)(hdb:(x==("__debug__":Str))=false:=by decide) : PE X (.Call (.Name x p) [] [] pos) (Ql r N7):=by intro pins s U H Q I h;refine Yb (iQ I hg hm hv ?_ hn hdb);exact PyProof.Rows.callWith_type0 (hc pins s U H [] [] Q I .nil h)
end L2
namespace HT
open PySem PyProof.Rows
variable{prog:Program}{w:World}{A:Around}{E:Zn}{s:Shared}
def LY{t b:Addr}{vs ws:A00}{Q:Zn}(ht:IsTup s.heap t vs.toArray)(hb:IsTup s.heap b ws.toArray)(hv:vs≠[])(h1:ws=[]->Q (.ref t) s)(h2:ws≠[]->Q (.ref s.heap.objs.size) { s with heap:=s.heap.push { cls:=.type "tuple",data:=.seq (vs++ws).toArray } })(hsz:vs.length+ws.length<=sizeLine):wpAny (model prog w) A (binaryOp .Add (.ref t) (.ref b)) Q E s:=by
 obtain⟨⟨cls,dd,data,sl⟩,ho,hc,n,hd⟩:=id ht;obtain⟨⟨cls2,dd2,data2,sl2⟩,ho2,hc2,n2,hd2⟩:=id hb;simp only at hc hd hc2 hd2;subst hc hd hc2 hd2;have e:vs.toArray++ws.toArray=(vs++ws).toArray:=by simp
 by_cases hw:ws=[]
 .exact concat_meets ⟨_,ho,rfl⟩ ⟨_,ho2,rfl⟩ noFill_tuple_add seq_tuple_add PySem.F.slot_tuple_add PySem.F.entry_tuple_add (PySem.F.args_tuple_add_2 _ _)
   (tuple_addW1 t b vs.toArray ws.toArray n n2 dd dd2 sl sl2 (by simpa using hv) (by simp[hw])) ⟨ho,ho2,h1 hw⟩
 refine concat_meets ⟨_,ho,rfl⟩ ⟨_,ho2,rfl⟩ noFill_tuple_add seq_tuple_add PySem.F.slot_tuple_add PySem.F.entry_tuple_add (PySem.F.args_tuple_add_2 _ _)
  (tuple_addW2 t b vs.toArray ws.toArray n n2 dd dd2 sl sl2 (by simpa using hv) (by simpa using hw) (by rw[VM,VM];exact hsz)) ⟨ho,ho2,?_⟩
 rw[e];exact h2 hw
def aK (n d:Nat):Option Int->Nat
 |none=>d
 |some v=>if v<0 then(v+(n:Int)).toNat else min v.toNat n
def mY(n d k:Nat):aK n d (some (k:Int))=min k n:=by show(if(k:Int)<0 then((k:Int)+(n:Int)).toNat else min (k:Int).toNat n)=min k n;rw[if_neg (by lia),Yg]
def Pd(n d:Nat)(hd:d<=n)(o:Option Int):aK n d o<=n:=by
 cases o with
 |none=>exact hd
 |some v=>show(if v<0 then(v+(n:Int)).toNat else min v.toNat n)<=n;by_cases hv:v<0;{rw[if_pos hv];lia};rw[if_neg hv];exact ZK _ _
def BF(v:Int) (n d:Nat):(if v<0 then max (v+(n:Int)) 0 else min v (n:Int))=((aK n d (some v):Nat):Int):=by show(if v<0 then max (v+(n:Int)) 0 else min v (n:Int))=(((if v<0 then(v+(n:Int)).toNat else min v.toNat n):Nat):Int);by_cases hv:v<0;{simp only[if_pos hv];lia};simp only[if_neg hv];lia
def Es(lo hi:Option Int) (n:Nat):Builtin.Slice.sliceAdjust lo hi 1 (n:Int)=(((aK n 0 lo:Nat):Int),((aK n n hi:Nat):Int)):=by
 have h1:¬((1:Int)<0):=by lia
 unfold Builtin.Slice.sliceAdjust;simp only[h1,WC];refine WD ?_ ?_
 .cases lo with
  |none=>rfl
  |some v=>exact BF v n 0
 cases hi with
 |none=>rfl
 |some v=>exact BF v n n
def CZ(i j:Nat):Builtin.Slice.slicePlaces (i:Int) (j:Int) 1=j-i:=by
 unfold Builtin.Slice.slicePlaces;have h1:(1:Int)>0:=by lia
 simp only[h1,if_true,Int.ediv_one];split<;>lia
def ud{v:Value}{o:Option Int}{Q:Option Int->Shared->Prop}(p:IsPart v o)(h:Q o s):wpAny (model prog w) A (Builtin.Slice.slicePartIndex v) Q E s:=by
 cases p with
 |none=>exact slicePart_none h
 |int i t=>exact slicePart_int h
def k9{sl:Addr}{vl vu:Value}{lo hi:Option Int}{n:Nat}{Q:Int×Int×Nat->Shared->Prop}(hs:s.heap.IsSliceOf sl vl vu .none)(pl:IsPart vl lo)(pu:IsPart vu hi)(h:Q (((aK n 0 lo:Nat):Int),1,aK n n hi-aK n 0 lo) s):wpAny (model prog w) A (Builtin.Slice.sliceApplied (.ref sl) (pure (n:Int))) Q E s:=by obtain⟨os,hos,hcs,hds⟩:=id hs;unfold Builtin.Slice.sliceApplied Builtin.Slice.sliceFields;refine V0 (V0 (XM hos hds (x:=vl) rfl (V0 (XM hos hds (x:=vu) rfl (V0 (XM hos hds (x:=.none) rfl (V1 ?_)))))));refine V0 (slicePart_none ?_);show wpAny _ _ (if((1:Int)==0)=true then _ else _) _ _ s;rw[if_neg (by decide)];refine V0 (ud pl (V0 (ud pu (V0 (V1 ?_)))));show wpAny _ _ (match Builtin.Slice.sliceAdjust lo hi 1 (n:Int)with|(lo,hi)=>pure (lo,(1:Int),Builtin.Slice.slicePlaces lo hi 1)) _ _ s;rw[Es lo hi n];show wpAny _ _ (pure (((aK n 0 lo:Nat):Int),(1:Int),Builtin.Slice.slicePlaces ((aK n 0 lo:Nat):Int) ((aK n n hi:Nat):Int) 1)) _ _ s;rw[CZ];exact V1 h
def Ir(xs:Zx) (i k:Nat):((List.range k).filterMap λ(m:Nat)=>xs[((i:Int)+(m:Int)*1).toNat]?).toArray=((xs.toList.drop i).take k).toArray:=by
 have e:(λ(m:Nat)=>xs[((i:Int)+(m:Int)*1).toNat]?)=λm=>xs[i+m]?:=by
  funext m;have:((i:Int)+(m:Int)*1).toNat=i+m:=by lia
  rw[this]
 rw[e];have:=pick_run xs i k;rw[List.filterMap_map]at this;have e2:((λx=>xs[x]?)∘λx=>i+x)=λm=>xs[i+m]?:=rfl;rw[e2]at this;rw[this]
def qS{t sl:Addr}{items:Zx}{vl vu:Value}{lo hi:Option Int}{Q:Zn}(ht:IsTup s.heap t items)(hs:s.heap.IsSliceOf sl vl vu .none)(pl:IsPart vl lo)(pu:IsPart vu hi)(hw:¬(aK items.size 0 lo=0/\aK items.size items.size hi=items.size))(h:Q (.ref s.heap.objs.size) { s with heap:=s.heap.push { cls:=.type "tuple",data:=.seq ((items.toList.drop (aK items.size 0 lo)).take (aK items.size items.size hi-aK items.size 0 lo)).toArray } })(hsz:items.size<=sizeLine):wpAny (model prog w) A (getItem (.ref t) (.ref sl)) Q E s:=by
 have htake:sizeOk (.seq ((items.toList.drop (aK items.size 0 lo)).take (aK items.size items.size hi-aK items.size 0 lo)).toArray):=by show((items.toList.drop (aK items.size 0 lo)).take (aK items.size items.size hi-aK items.size 0 lo)).toArray.size<=sizeLine;rw[VM,WI,Wk,Wa];exact VX (ZK _ _) (VX (Nat.sub_le _ _) hsz)
 have hj:aK items.size items.size hi<=items.size:=Pd _ _ (V4 _) hi;obtain⟨os,hos,hcs,hds⟩:=id hs;have hTs:s.TypeIs (.ref sl) "slice":=⟨os,hos,hcs⟩;unfold getItem;try with_reducible refine W9 ?_
 first|refine V0 (V1 ?_)|skip
 refine V0 (wpAny_sequenceKey ht.typeIs (by decide) ?_);refine V0 (Yh (name:=Str.ofString "__getitem__") ht.typeIs Yi
  (Wu Yi ht.typeIs entry_tuple_getitem ?_ (args_tuple_getitem _ _)))
 show wpAny _ _ (Builtin.Tuple.tupleItemsOf (.ref t)>>=_) _ _ s;refine V0 (tupleItemsOf_ ht ?_);refine V0 (Xq hTs ?_);rw[if_pos (by decide)];refine V0 (k9 hs pl pu ?_);have hno:¬((((aK items.size 0 lo:Nat):Int)==0&&(1:Int)==1&&(aK items.size items.size hi-aK items.size 0 lo)==items.size)=true):=by intro q;rw[VB,VB]at q;have q1:((aK items.size 0 lo:Nat):Int)=0:=Xe q.1.1;have q2:aK items.size items.size hi-aK items.size 0 lo=items.size:=Xe q.2;exact hw ⟨by lia,by lia⟩
 show wpAny _ _ (if(((aK items.size 0 lo:Nat):Int)==0&&(1:Int)==1&&(aK items.size items.size hi-aK items.size 0 lo)==items.size)=true then _ else _) _ _ s;rw[if_neg hno,Ir];first
  |exact V0 (m:=Builtin.Tuple.tupleExact _) (Wl (V1 ⟨_,rfl,V1 h⟩) htake)
  |exact V0 (m:=Builtin.Tuple.tupleExact _) (Wl (V0 (V1 (V1 ⟨_,rfl,V1 h⟩))) htake)
  |exact V0 (V0 (m:=Builtin.Tuple.tupleExact _) (Wl (V1 (V1 ⟨_,rfl,V1 h⟩)) htake))
  |exact V0 (V0 (m:=Builtin.Tuple.tupleExact _) (Wl (V1 ⟨_,rfl,V1 h⟩) htake))
end HT
namespace L2
open PySem PySem.Spec PyProof.Rows
abbrev TO:=St->Hp->(Option Int->Hp->Prop)->Prop
def PO (X:Cx)(e:Option Expr)(t:TO):Prop:=
 ∀(pins:Zq)(s:Shared)(U:St)(H:Hp)(Q:Option Int->Hp->Prop),Inv X pins U H s->t U H Q->
  wpAny (model X.prog X.w) X.A (evalPart e X.env) (λu s'=>∃o H',Inv X pins U H' s'/\IsPart u o/\Q o H') X.xe s
def LB:TO:=λ_ H Q=>Q none H
def RB (t:TE):TO:=λU H Q=>t U H λx H1=>∃i,x=.int i/\Q (some i) H1
section
variable{X:Cx}{e:Expr}{te:TE}{lo hi:Option Expr}{tl th:TO}{pos p2:Pos}
def Co:PO X none LB:=by intro pins s U H Q I h;rw[evalPart_none];exact V1 ⟨none,H,I,.none,h⟩
def CD(h:PE X e te):PO X (some e) (RB te):=by intro pins s U H Q I hw;rw[evalPart_some];refine aH (h pins s U H _ I hw) λu s1 ⟨x,H1,I1,r1,q1⟩=>?_;obtain⟨i,rfl,q⟩:=q1;obtain⟨t,rfl⟩:=r1;exact⟨some i,H1,I1,.int i t,q⟩
def GI (X:Cx)(r:V->Option Int->Option Int->Hp->VK->Prop):Prop:=
 ∀(pins:Zq)(s:Shared)(U:St)(H:Hp) (x:V)(v vl vu:Value)(lo hi:Option Int)(sl:Addr)(Q:VK),Inv X pins U H s->RelV x v->s.heap.IsSliceOf sl vl vu .none->IsPart vl lo->IsPart vu hi->r x lo hi H Q->
  ∃T id,typeLookup (.type T) "__getitem__"=pure (some (.builtin id))/\s.TypeIs v T/\wpAny (model X.prog X.w) X.A (getItem v (.ref sl)) (EP X pins U Q) X.xe s
def Ve (r:V->Option Int->Option Int->Hp->VK->Prop)(te:TE)(tl th:TO):TE:=λU H Q=>te U H λx H1=>tl U H1 λl H2=>th U H2 λu H3=>r x l u H3 Q
def zB{r:V->Option Int->Option Int->Hp->VK->Prop}(hr:GI X r)(he:PE X e te)(hl:PO X lo tl)(hu:PO X hi th):PE X (.Subscript e (.Slice lo hi none p2) pos) (Ve r te tl th):=by intro pins s U H Q I h;refine Subscript_ (aH (he pins s U H _ I h) λv s1 ⟨x,H1,I1,r1,q1⟩=>?_);refine wpAny_Slice (aH (hl pins s1 U H1 _ I1 q1) λvl s2 ⟨l,H2,I2,pl,q2⟩=>aH (hu pins s2 U H2 _ I2 q2) λvu s3 ⟨u,H3,I3,pu,q3⟩=>?_);rw[evalPart_none];refine V1 ?_;have I4:Inv X pins U H3 { s3 with heap:=s3.heap.push { cls:=.type "slice",data:=.fields #[vl,vu,.none] } }:=I3.kept (t':=s3.toks) λb ob q=>VS _ q;obtain⟨T,id,hT,ht,hg⟩:=hr pins { s3 with heap:=s3.heap.push { cls:=.type "slice",data:=.fields #[vl,vu,.none] } } U H3 x v vl vu l u s3.heap.objs.size Q I4 r1 (Heap.IsSliceOf.new ..) pl pu q3;show wpAny (model X.prog X.w) X.A (subscriptTail e (.Slice lo hi none p2) v (.ref s3.heap.objs.size)) (EP X pins U Q) X.xe { s3 with heap:=s3.heap.push { cls:=.type "slice",data:=.fields #[vl,vu,.none] } };exact tail_any (ops:=[.ref s3.heap.objs.size,v]) ht hT hg (by with_unfolding_all rfl)
def nQ (xs:List V)(lo hi:Option Int):List V:=(xs.drop (HT.aK xs.length 0 lo)).take (HT.aK xs.length xs.length hi-HT.aK xs.length 0 lo)
def rM(xs:List V)(lo hi:Option Int):(nQ xs lo hi).length<=xs.length:=by unfold nQ;rw[WI,Wk];exact VX (ZK _ _) (Nat.sub_le _ _)
def Ue (K:Zv):V->Option Int->Option Int->Hp->VK->Prop:=λx lo hi H Q=>∃a xs,x=.ref a/\bR K H a xs /\
 ¬(HT.aK xs.length 0 lo=0/\HT.aK xs.length xs.length hi=xs.length)/\∀p,H p=none->Q (.ref p) (upd H p (.tup (nQ xs lo hi)))
def QL:GI X (Ue X.K):=by
 intro pins s U H x v vl vu lo hi sl Q I rx hs pl pu h;obtain⟨a,xs,rfl,hx,hw,q⟩:=h;cases rx;obtain⟨its,r,ht,hz⟩:=I.tuple hx;have hlen:its.toArray.size=xs.length:=by rw[VM];exact r.length.symm
 refine⟨"tuple",_,Zf,ht.typeIs,?_⟩;refine HT.qS ht hs pl pu (by rw[hlen];exact hw) ?_ (by rw[hlen];exact hz);rw[hlen];refine⟨.ref s.heap.objs.size,_,I.laid (t':=s.toks) (o:=.tup (nQ xs lo hi)) (λb ob q=>VS _ q) (V4 _) ?_,rfl,q _ (I.hok.fresh (V4 _))⟩;exact⟨VX (rM xs lo hi) hz,_,(r.drop (HT.aK xs.length 0 lo)).take (HT.aK xs.length xs.length hi-HT.aK xs.length 0 lo),IsTup.new _ _⟩
def KJ (K:Zv):R2:=λx y H Q=>∃a b xs ys,x=.ref a/\y=.ref b/\bR K H a xs/\bR K H b ys/\xs≠[]/\xs.length+ys.length<=sizeLine /\
 (ys=[]->Q (.ref a) H)/\(ys≠[]->∀p,H p=none->Q (.ref p) (upd H p (.tup (xs++ys))))
def Vals.vA{xs:List V}{us:A00}(r:Vals xs us):us=[]↔xs=[]:=by
 cases r with
 |nil=>simp
 |cons _ _=>simp
def LO:bE X (binaryOp .Add) (KJ X.K):=by intro pins s U H x y v u Q I rx ry h;obtain⟨a,b,xs,ys,rfl,rfl,ha,hb,hx,hz,q1,q2⟩:=h;cases rx;cases ry;obtain⟨its,r1,p1,_⟩:=I.tuple ha;obtain⟨its2,r2,p2,_⟩:=I.tuple hb;refine HT.LY p1 p2 (λz=>hx (r1.vA.mp z)) (λz=>⟨.ref a,H,I,rfl,q1 (r2.vA.mp z)⟩) (λz=>?_) (by rw[<-r1.length,<-r2.length];exact hz);refine⟨.ref s.heap.objs.size,_,I.laid (t':=s.toks) (o:=.tup (xs++ys)) (λb ob q=>VS _ q) (V4 _) ?_,rfl,q2 (λw=>z (r2.vA.mpr w)) _ (I.hok.fresh (V4 _))⟩;exact⟨by rw[VI];exact hz,_,r1.append r2,IsTup.new _ _⟩
def lQ (n:Nat) (i:Int):Option Nat:=if 0<=i then(if i<n then some i.toNat else none)else if-(n:Int)<=i then some (i+n).toNat else none
def dS {α:Type}(xs:List α) (i:Int):Option α:=(lQ xs.length i).bind λj=>xs[j]?
def CJ{n:Nat}{i:Int}{j:Nat}(h:lQ n i=some j):seqIndex? i n=some j/\j<n/\-(n:Int)<=i/\i<n:=by unfold lQ at h;by_cases h0:0<=i;{rw[if_pos h0]at h;by_cases h1:i<n;{rw[if_pos h1]at h;have e:i.toNat=j:=Option.some.inj h;exact⟨by rw[seqIndex_of h0 h1,e],by lia,by lia,h1⟩};rw[if_neg h1]at h;cases h};rw[if_neg h0]at h;by_cases h1:-(n:Int)<=i;{rw[if_pos h1]at h;have e:(i+n).toNat=j:=Option.some.inj h;exact⟨by rw[seqIndex_neg (by lia) h1,e],by lia,h1,by lia⟩};rw[if_neg h1]at h;cases h
def vz{α:Type}{xs:List α}{i:Int}{v:α}(h:dS xs i=some v):∃j,seqIndex? i xs.length=some j/\xs[j]?=some v/\j<xs.length/\-(xs.length:Int)<=i/\i<xs.length:=by
 unfold dS at h;cases e:lQ xs.length i with
 |none=>rw[e]at h;cases h
 |some j=>rw[e]at h;obtain⟨h1,h2,h3,h4⟩:=CJ e;exact⟨j,h1,h,h2,h3,h4⟩
def kg (b:Expr):Prop:=∀o i,subscripted b false o i=operate [o,i] (getItem o i)
def m7 (X:Cx)(r:R2):Prop:=
 ∀(value slice:Expr)(pins:Zq)(s:Shared)(U:St)(H:Hp) (x y:V)(v u:Value)(Q:VK),Inv X pins U H s->RelV x v->RelV y u->r x y H Q->
  subscripted slice false v u=operate [v,u] (getItem v u)->wpAny (model X.prog X.w) X.A (subscriptTail value slice v u) (EP X pins U Q) X.xe s
def EZ (X:Cx)(id:String)(r:V->List V->Hp->VK->Prop):Prop:=
 ∀(pins:Zq)(s:Shared)(U:St)(H:Hp) (x:V)(xs:List V)(v:Value)(us:A00)(Q:VK),Inv X pins U H s->RelV x v->Vals xs us->r x xs H Q->
  wpAny (model X.prog X.w) X.A (call (.builtin id) (v::us)) (EP X pins U Q) X.xe s
end
section
variable{X:Cx}{a b:Expr}{ta tb:TE}{pos:Pos}
def m7.or{r r':R2}(h:m7 X r)(h':m7 X r'):m7 X (λx y H Q=>r x y H Q\/r' x y H Q):=by intro value slice pins s U H x y v u Q I rx ry q hs;rcases q with q|q;{exact h value slice pins s U H x y v u Q I rx ry q hs};exact h' value slice pins s U H x y v u Q I rx ry q hs
def DF{r:R2}(hr:m7 X r)(ha:PE X a ta)(hb:PE X b tb)(hs:kg b):PE X (.Subscript a b pos) (NU r ta tb):=by intro pins s U H Q I h;exact Subscript_ (Jm ha hb I h λv u s2 x y H2 I2 rx ry q=>hr a b pins s2 U H2 x y v u Q I2 rx ry q (hs _ _))
inductive Lq(K:Zv) (x:V) (y:V)(H:Hp)(Q:VK):Prop
 |mk:∀p xs i v,(x=.ref p)->(y=.int i)->(bH K H p xs)->(dS xs i=some v)->(Q v H)->Lq K x y H Q
def Nr (K:Zv):R2:=λx y H Q=>Lq K x y H Q
inductive KG(K:Zv) (x:V) (y:V)(H:Hp)(Q:VK):Prop
 |mk:∀p xs i v,(x=.ref p)->(y=.int i)->(bR K H p xs)->(dS xs i=some v)->(Q v H)->KG K x y H Q
def OR (K:Zv):R2:=λx y H Q=>KG K x y H Q
inductive KY(x:V) (y:V)(H:Hp)(Q:VK):Prop
 |mk:∀z i c,(x=.str z)->(y=.int i)->(z.length<=sizeLine)->(dS z.cps.toList i=some c)->(Q (.str ⟨#[c]⟩) H)->KY x y H Q
def P0:R2:=λx y H Q=>KY x y H Q
def MY:m7 X (Nr X.K):=by
 intro value slice pins s U H x y v u Q I rx ry h hs;obtain⟨p,xs,i,z,rfl,rfl,hq,he,q⟩:=h;cases rx;obtain⟨t,rfl⟩:=ry;obtain⟨its,r,pl,hz⟩:=I.list hq;obtain⟨j,h1,h2,h3,h4,h5⟩:=vz he;obtain⟨w,ew,rw'⟩:=r.get h2;have hl:=r.length;have hn:=mL;have fin:EP X pins U Q w s:=⟨z,H,I,rw',q⟩;by_cases h0:0<=i
 .have hj:i.toNat=j:=by rw[seqIndex_of h0 h5]at h1;exact Option.some.inj h1
  exact item_listR pl.isList h0 (by lia) (by rw[hj];simpa using ew) fin hs
 have hj:(i+(its.toArray.size:Int)).toNat=j:=by rw[seqIndex_neg (by lia) h4]at h1;rw[VM,<-hl];exact Option.some.inj h1
 exact subscriptTail_builtinR (x:=w) pl.isList.typeIs slot_list_getitem.lookup
  (wpAny_getItem_list_neg (Q:=λr s'=>r=w/\EP X pins U Q r s') pl.isList (by lia) (by rw[VM]<;>lia) (by lia) (by rw[hj];simpa using ew) ⟨rfl,fin⟩) hs
def NY:m7 X (OR X.K):=by
 intro value slice pins s U H x y v u Q I rx ry h hs;obtain⟨p,xs,i,z,rfl,rfl,hq,he,q⟩:=h;cases rx;obtain⟨t,rfl⟩:=ry;obtain⟨its,r,pl,hz⟩:=I.tuple hq;obtain⟨j,h1,h2,h3,h4,h5⟩:=vz he;obtain⟨w,ew,rw'⟩:=r.get h2;have hl:=r.length;have hn:=mL;have fin:EP X pins U Q w s:=⟨z,H,I,rw',q⟩;exact subscriptTail_builtinR (x:=w) pl.typeIs slot_tuple_getitem.lookup
  (getItem_tuple (j:=j) (Q:=λr s'=>r=w/\EP X pins U Q r s') pl (by lia) (by lia) (by rw[VM,<-hl];exact h1) (by simpa using ew) ⟨rfl,fin⟩) hs
def NI:m7 X P0:=by
 intro value slice pins s U H x y v u Q I rx ry h hs;obtain⟨z,i,c,rfl,rfl,hz,he,q⟩:=h;obtain⟨t,rfl⟩:=rx;obtain⟨t',rfl⟩:=ry;obtain⟨j,h1,h2,h3,h4,h5⟩:=vz he;have hl:z.cps.toList.length=z.length:=by simp[Str.length]
 rw[hl]at h1 h4 h5;have hn:=mL;exact tail_any (typeIs_str s z t) slot_str_getitem.lookup (getItem_str (c:=c) (by
  have e1:decide (i < -(2^63:Int))=false:=Vv (by lia)
  have e2:decide (i >= 2^63)=false:=Vv (by lia)
  rw[e1,e2,Bool.or_false]) (by rw[h1];simpa using h2) ⟨.str ⟨#[c]⟩,H,I.tok _,⟨_,rfl⟩,q⟩) hs
def OO (K:Zv):R2:=λx y H Q=>Nr K x y H Q\/OR K x y H Q\/P0 x y H Q
def Et:m7 X (OO X.K):=MY.or (NY.or NI)
def Dz(its:A00) (n j:Nat)(u:Value):Obj.mapSeq (·.setIfInBounds j u) { cls:=.type "list",data:=.seq its.toArray n }={ cls:=.type "list",data:=.seq (its.set j u).toArray n }:=by simp[Obj.mapSeq]
theorem Inv.lst{pins:Zq}{U:St}{H:Hp}{s:Shared}{p:Addr}{xs:List V}(I:Inv X pins U H s)(h:H p=some (.lst xs)) : ∃(its:A00) (n:Nat),Vals xs its/\s.heap.get? p=some { cls:=.type "list",data:=.seq its.toArray n }/\xs.length<=sizeLine:=by obtain⟨z,its,n,r,e⟩:=I.hok p _ h;exact⟨its,n,r,e,z⟩
def Inv.Nk{pins:Zq}{U:St}{H:Hp}{s:Shared}{p:Addr}{xs ys:List V}{its its':A00}{n n':Nat}{f:Obj->Obj}(I:Inv X pins U H s)(h:H p=some (.lst xs))(ho:s.heap.get? p=some { cls:=.type "list",data:=.seq its.toArray n })(hf:f { cls:=.type "list",data:=.seq its.toArray n }={ cls:=.type "list",data:=.seq its'.toArray n' })(r:Vals ys its')(hz:ys.length<=sizeLine) (t:Nat) : Inv X pins U (upd H p (.lst ys)) { s with heap:=s.heap.update p f,toks:=t }:=by
 have e:(s.heap.update p f).get? p=some { cls:=.type "list",data:=.seq its'.toArray n' }:=by rw[XN f ho (by rw[hf]<;>rfl),hf]
 refine I.write (x:=p) (e:=p) (by rw[h];trivial) (.inl rfl) (λb u hb q=>(Wm _ _ (Ne.symm hb)).trans q) ⟨_,e⟩ ?_;exact⟨hz,its',n',r,e⟩
inductive HY(o:V) (i:V) (v:V)(H:Hp)(Q:(Hp->Prop)):Prop
 |mk:∀p xs k j,(o=.ref p)->(i=.int k)->(H p=some (.lst xs))->(lQ xs.length k=some j)->(Q (upd H p (.lst (xs.set j v))))->HY o i v H Q
def Kq:V->V->V->Hp->(Hp->Prop)->Prop:=λo i v H Q=>HY o i v H Q
def set_list:D4 X Kq:=by
 intro pins s U H o i v ov iv u Q I ro ri rv h;obtain⟨p,xs,k,j,rfl,rfl,hp,hj,q⟩:=h;cases ro;obtain⟨t,rfl⟩:=ri;obtain⟨its,n,r,ho,hz⟩:=I.lst hp;obtain⟨h1,h2,h3,h4⟩:=CJ hj;have hl:=r.length;have hn:=mL;have I':Inv X pins U (upd H p (.lst (xs.set j v))) { s with heap:=s.heap.update p (Obj.mapSeq (·.setIfInBounds j u)) }:=
  I.Nk hp ho (Dz its n j u) (r.set rv j) (by rw[VY];exact hz) s.toks
 by_cases h0:0<=k
 .have hk:k.toNat=j:=by rw[seqIndex_of h0 h4]at h1;exact Option.some.inj h1
  exact PySem.W.ki_setAt ho h0 (by lia) (by rw[VM,<-hl];exact h4) (by rw[hk];exact⟨_,I',q⟩)
 have hk:(k+(its.toArray.size:Int)).toNat=j:=by rw[seqIndex_neg (by lia) h3]at h1;rw[VM,<-hl];exact Option.some.inj h1
 exact PySem.W.ki_setBack ho (by lia) (by rw[VM,<-hl];exact h3) (by lia) (by rw[hk];exact⟨_,I',q⟩)
def Ao(lo hi:Option Int) (n:Nat):(sliceBounds lo hi none n).1=((HT.aK n 0 lo:Nat):Int)/\(sliceBounds lo hi none n).2.1=((HT.aK n n hi:Nat):Int)/\(sliceBounds lo hi none n).2.2=1:=by
 have one:∀i:Int,(sliceBounds (some i) none none n).1=((HT.aK n 0 (some i):Nat):Int):=λi=>by simp only[sliceBounds,HT.aK,Option.getD_none,show(1:Int)>0 by decide,if_true];by_cases h:i<0;{simp only[h,if_true]<;>lia};simp only[h,WC]<;>lia
 refine⟨?_,?_,rfl⟩
 .cases lo with
  |none=>simp[sliceBounds,HT.aK]
  |some i=>exact one i
 cases hi with
 |none=>simp[sliceBounds,HT.aK]
 |some i=>exact one i
def xC(its:A00)(lo hi:Option Int):slicePick its.toArray lo hi none=((its.drop (HT.aK its.length 0 lo)).take (HT.aK its.length its.length hi-HT.aK its.length 0 lo)).toArray:=by obtain⟨h1,h2,h3⟩:=Ao lo hi its.toArray.size;unfold slicePick;rw[h1,h2,h3];simp only[sliceRange_one,pick_run,VM]<;>rfl
inductive J1(K:Zv) (x:V)(lo:Option Int)(hi:Option Int)(H:Hp)(Q:VK):Prop
 |mk:∀a xs,(x=.ref a)->(bH K H a xs)->(∀p,H p=none->Q (.ref p) (upd H p (.lst (nQ xs lo hi))))->J1 K x lo hi H Q
def NW (K:Zv):V->Option Int->Option Int->Hp->VK->Prop:=λx lo hi H Q=>J1 K x lo hi H Q
def LI:GI X (NW X.K):=by intro pins s U H x v vl vu lo hi sl Q I rx hs pl pu h;obtain⟨a,xs,rfl,hx,q⟩:=h;cases rx;obtain⟨its,r,ht,hz⟩:=I.list hx;have hlen:=r.length;refine⟨"list",_,slot_list_getitem.lookup,ht.isList.typeIs,?_⟩;refine wpAny_getItem_list_slice ht.isList hs pl pu .none (by simp) ?_ (by rw[VM]<;>lia);rw[xC,<-hlen];refine⟨.ref s.heap.objs.size,_,I.laid (t':=s.toks) (o:=.lst (nQ xs lo hi)) (λb ob q=>VS _ q) (V4 _) ?_,rfl,q _ (I.hok.fresh (V4 _))⟩;exact⟨VX (rM xs lo hi) hz,_,0,(r.drop (HT.aK xs.length 0 lo)).take (HT.aK xs.length xs.length hi-HT.aK xs.length 0 lo),W0 _ rfl⟩
def zQ:b8 X (.builtin "len") (λxs H Q=>∃p ys,xs=[.ref p]/\(bH X.K H p ys\/bR X.K H p ys)/\Q (.int ys.length) H):=by intro pins s U H xs us Q I r h;obtain⟨p,ys,rfl,hq,q⟩:=h;obtain⟨u,rfl,rx⟩:=vals1 r;cases rx;have hn:=mL;rcases hq with hq|hq;{obtain⟨its,r',pl,hz⟩:=I.list hq;have hlen:=r'.length;exact Calls.call_len_list pl.isList (by simp only[VM]<;>lia) ⟨.int ys.length,H,I.tok _,⟨s.toks+1,by rw[VM,hlen]⟩,q⟩};obtain⟨its,r',pl,hz⟩:=I.tuple hq;have hlen:=r'.length;exact len_tuple pl (by simp only[VM]<;>lia) ⟨.int ys.length,H,I.tok _,⟨s.toks+1,by rw[VM,hlen]⟩,q⟩
def b8.or{f:Value}{r r':List V->Hp->VK->Prop}(h:b8 X f r)(h':b8 X f r'):b8 X f (λxs H Q=>r xs H Q\/r' xs H Q):=by intro pins s U H xs us Q I rs q;rcases q with q|q;{exact h pins s U H xs us Q I rs q};exact h' pins s U H xs us Q I rs q
def Aq:b8 X (.type "list") (λxs H Q=>∃p ys,xs=[.ref p]/\(bH X.K H p ys\/bR X.K H p ys)/\∀l,H l=none->Q (.ref l) (upd H l (.lst ys))):=by
 intro pins s U H xs us Q I r h;obtain⟨p,ys,rfl,hq,q⟩:=h;obtain⟨u,rfl,rx⟩:=vals1 r;cases rx;have fin:∀(its:A00),Vals ys its->ys.length<=sizeLine->∀(h':Heap) (c':Nat),(∀b o',s.heap.get? b=some o'->h'.get? b=some o')->
   h'.get? s.heap.objs.size=some { cls:=.type "list",dict:=none,data:=.seq its.toArray c',slots:=#[] }->EP X pins U Q (.ref s.heap.objs.size) { s with heap:=h' }:=λits r' hz h' c' kp e=>
  ⟨.ref s.heap.objs.size,_,I.laid (t':=s.toks) kp (V4 _) (show bC X.prog X.w _ h' _ (.lst ys)from⟨hz,its,c',r',e⟩),rfl,q _ (I.hok.fresh (V4 _))⟩
 rcases hq with hq|hq;{obtain⟨its,r',pl,hz⟩:=I.list hq;have hlen:=r'.length;obtain⟨o,ho,hc,n,hd⟩:=pl.isList;exact call_list_seq p (.inl rfl) ho hc hd (λh' c' kp e=>fin its r' hz h' c' kp e) (by simp only[VM]<;>lia)};obtain⟨its,r',pl,hz⟩:=I.tuple hq;have hlen:=r'.length;obtain⟨o,ho,hc,n,hd⟩:=pl;exact call_list_seq p (.inr rfl) ho hc hd (λh' c' kp e=>fin its r' hz h' c' kp e) (by simp only[VM]<;>lia)
def oO:b8 X (.type "tuple") (λxs H Q=>∃p ys,xs=[.ref p]/\((bH X.K H p ys/\∀l,H l=none->Q (.ref l) (upd H l (.tup ys)))\/(bR X.K H p ys/\Q (.ref p) H))):=by
 intro pins s U H xs us Q I r h;obtain⟨p,ys,rfl,h⟩:=h;obtain⟨u,rfl,rx⟩:=vals1 r;cases rx;rcases h with⟨hq,q⟩|⟨hq,q⟩
 .obtain⟨its,r',pl,hz⟩:=I.list hq;have hlen:=r'.length;refine call_tuple_list pl.isList (λh' kp=>?_) (by simp only[VM]<;>lia);have I1:Inv X pins U H { s with heap:=h' }:=I.kept (t':=s.toks) kp;have I2:Inv X pins U (upd H h'.objs.size (.tup ys)) { s with heap:=h'.push { cls:=.type "tuple",data:=.seq its.toArray } }:=
   I1.laid (t':=s.toks) (λb o e=>VS _ e) (V4 _) (show bC X.prog X.w _ _ _ (.tup ys)from⟨hz,its,r',IsTup.new _ _⟩)
  exact⟨.ref h'.objs.size,_,I2,rfl,q _ (I1.hok.fresh (V4 _))⟩
 obtain⟨its,r',pl,hz⟩:=I.tuple hq;exact call_tuple_same pl ⟨.ref p,H,I,rfl,q⟩
def Ni (K:Zv)(T:String) (x:V)(H:Hp):Prop:=match x with
 |.str _=>T="str"
 |.int _=>T="int"
 |.ref p=>(T="list"/\∃xs,bH K H p xs)\/(T="tuple"/\∃o,K.lookup p=some o/\o.cls=.type "tuple"/\o.dict=none) \/
   (T="dict"/\((∃kvs,H p=some (.dK kvs))\/∃kvs,H p=some (.dT kvs)))\/(T="set"/\∃S n,H p=some (.set S n))
 |_=>False
def Hx{pins:Zq}{U:St}{H:Hp}{s:Shared}{T:String}{x:V}{v:Value}(I:Inv X pins U H s)(r:RelV x v)(ty:Ni X.K T x H) : s.TypeIs v T/\∀a,v=.ref a->∃ob,s.heap.get? a=some ob/\ob.dict=none:=by
 cases x with
 |str z=>obtain⟨t,rfl⟩:=r;cases (show T="str" from ty);exact⟨typeIs_str s z t,λ_ e=>nomatch e⟩
 |int i=>obtain⟨t,rfl⟩:=r;cases (show T="int" from ty);exact⟨typeIs_int s i t,λ_ e=>nomatch e⟩
 |ref p=>
  cases r;rcases ty with⟨rfl,xs,hq⟩|⟨rfl,o,hk,hc,hd⟩|⟨rfl,hk⟩|⟨rfl,S,n,hk⟩;{obtain⟨its,_,pl,_⟩:=I.list hq;refine⟨pl.isList.typeIs,λa e=>?_⟩;cases e;obtain⟨o,n,e,c,hd,_⟩:=pl;exact⟨o,e,hd⟩};{refine⟨⟨o,I.iA p o hk,hc⟩,λa e=>?_⟩;cases e;exact⟨o,I.iA _ o hk,hd⟩}
  .have z:∃o,s.heap.get? p=some o/\o.ExactDict:=by rcases hk with⟨kvs,hk⟩|⟨kvs,hk⟩;{obtain⟨_,_,_,_,o,_,_,e,ex,_⟩:=I.hok p _ hk;exact⟨o,e,ex⟩};obtain⟨_,_,_,_,o,_,_,e,ex,_⟩:=I.hok p _ hk;exact⟨o,e,ex⟩
   obtain⟨o,e,ex⟩:=z;refine⟨⟨o,e,ex.1⟩,λa e2=>?_⟩;cases e2;exact⟨o,e,ex.2.1⟩
  obtain⟨o,_,_,_,e,ex,_⟩:=I.hok p _ hk;refine⟨⟨o,e,ex.1⟩,λa e2=>?_⟩;cases e2;exact⟨o,e,ex.2.1⟩
 |_=>exact False.elim ty
def Uo (K:Zv)(T:String)(r:V->List V->Hp->VK->Prop)(to:TE):TE:=λU H Q=>to U H λx H1=>Ni K T x H1/\r x [] H1 Q
def UU (K:Zv)(T:String)(r:V->List V->Hp->VK->Prop)(to:TE)(t:TA):TE:=λU H Q=>to U H λx H1=>Ni K T x H1/\t U H1 λxs H2=>r x xs H2 Q
variable{o e:Expr}{es:A03}{to:TE}{t:TA}{name:Str}{apos cpos:Pos}{T id:String}{r:V->List V->Hp->VK->Prop}
def M9(pa:PlainAttrs T)(slot:Slot T name id)(hty:typeOf (.builtin id)=pure (.type "method_descriptor"))(hm:EZ X id r)(ho:PE X o to)(hbase:attributeBase o name X.env (eval o X.env)=eval o X.env:=by rfl)(hline:(apos.endLine==cpos.line)=true:=by rfl):PE X (.Call (.Attribute o name apos) [] [] cpos) (Uo X.K T r to):=by intro pins s U H Q I h;refine wpAny_Call_method0_late hbase hline (aH (ho pins s U H _ I h) λv s1 ⟨x,H1,I1,r1,ty,q1⟩=>?_);obtain⟨h1,h2⟩:=Hx I1 r1 ty;exact⟨T,id,pa,slot,hty,h1,h2,Yj rfl (PySem.evalArgs_none (hm pins s1 U H1 x [] v [] Q I1 r1 .nil q1))⟩
def xT(pa:PlainAttrs T)(slot:Slot T name id)(hty:typeOf (.builtin id)=pure (.type "method_descriptor"))(hm:EZ X id r)(ho:PE X o to)(ha:PA X (e::es) t)(hbase:attributeBase o name X.env (eval o X.env)=eval o X.env:=by rfl)(hfew:((backTo cpos (starEach (e::es) X.env)).all (λx=>!x.1)&&(backToKw cpos (keywordEach [] X.env)).all (λx=>x.1.isSome) && decide ((e::es).length+([]:List Keyword).length+(if([]:List Keyword).isEmpty then 0 else 1)<30))=true:=by rfl)(hline:(apos.endLine==cpos.line)=true:=by rfl)(hs:starEach (e::es) X.env=(false,eval e X.env)::starEach es X.env:=by rfl)(hplain:(backTo cpos (starEach es X.env)).any (·.1)=false:=by rfl) : PE X (.Call (.Attribute o name apos) (e::es) [] cpos) (UU X.K T r to t):=by intro pins s U H Q I h;refine wpAny_Call_method_late hbase hfew hline rfl (aH (ho pins s U H _ I h) λv s1 ⟨x,H1,I1,r1,ty,q1⟩=>?_);obtain⟨h1,h2⟩:=Hx I1 r1 ty;refine⟨T,id,pa,slot,hty,h1,h2,?_⟩;have hA:=ha cpos pins s1 U H1 _ I1 q1;rw[hs]at hA⊢;refine Yj (by show(false||(backTo cpos (starEach es X.env)).any (·.1))=false;rw[hplain]<;>rfl) (ZL ?_);exact aH hA λus s2 ⟨vs,H2,I2,r2,q2⟩=>hm pins s2 U H2 x vs v us Q I2 r1 r2 q2
end
def tL (X:Cx)(id:String)(r:V->List V->Hp->VK->Prop):Prop:=
 ∀(pins:Zq)(s:Shared)(U:St)(H:Hp) (x:V)(xs:List V)(v:Value)(us:A00)(Q:VK),Inv X pins U H s->RelV x v->Vals xs us->r x xs H Q->
  wpAny (model X.prog X.w) X.A (call (.builtin id) (v::us)) (EP X pins U Q) X.xe s
def Vals.one{x:V}{us:A00}(h:Vals [x] us):∃u,us=[u]/\RelV x u:=by cases h with|cons r t=>cases t;exact⟨_,rfl,r⟩
def Vals.two{x y:V}{us:A00}(h:Vals [x,y] us):∃u v,us=[u,v]/\RelV x u/\RelV y v:=by cases h with|cons r t=>cases t with|cons q t=>cases t;exact⟨_,_,rfl,r,q⟩
def Vals.zero:∀{us:A00},Vals [] us->us=[]
 |_,.nil=>rfl
theorem Vals.reverse{xs:List V}{us:A00}(h:Vals xs us):Vals xs.reverse us.reverse:=by
 induction h with
 |nil=>exact .nil
 |cons r t ih=>rw[Yk,Yk];exact Vals.append ih (.cons r .nil)
theorem Vals.rep{xs:List V}{us:A00}(h:Vals xs us):∀k:Nat,Vals (List.replicate k xs).flatten (List.replicate k us).flatten
 |0=>.nil
 |k+1=>by rw[Xf,Xf,Xr,Xr];exact Vals.append h (Vals.rep h k)
theorem foldl_rep(its:A00):∀(k:Nat)(acc:A00), List.foldl (λx1 x2=>x1++x2) acc.toArray (List.replicate k its.toArray)=(acc++(List.replicate k its).flatten).toArray
 |0,acc=>by simp
 |k+1,acc=>by
  have e:acc.toArray++its.toArray=(acc++its).toArray:=by simp
  have e2:(acc++its)++(List.replicate k its).flatten=acc++(List.replicate (k+1) its).flatten:=by rw[Xf,Xr,Wv]
  rw[<-e2,<-foldl_rep its k (acc++its),<-e,Xf,List.foldl_cons]
section
variable{X:Cx}{pins:Zq}{U:St}{H:Hp}{s:Shared}{l b:Addr}{xs ys zs:List V}
def Inv.zU{its its':A00}{n:Nat}{f:Zx->Zx}{t':Nat}(I:Inv X pins U H s)(hH:H l=some (.lst xs))(e:s.heap.get? l=some { cls:=.type "list",data:=.seq its.toArray n })(hf:f its.toArray=its'.toArray)(hv:Vals ys its')(hz:ys.length<=sizeLine) : Inv X pins U (upd H l (.lst ys)) { s with heap:=s.heap.update l (Obj.mapSeq f),toks:=t' }:=by have q:=PySem.IsL.update e f;rw[hf]at q;refine I.write (x:=l) (e:=l) (by rw[hH];exact trivial) (.inl rfl) (λb' u hb hu=>(Wm s.heap (Obj.mapSeq f) (Ne.symm hb)).trans hu) ⟨_,q⟩ ?_;exact⟨hz,its',_,hv,q⟩
def Inv.ON{its:A00}{t':Nat}(I:Inv X pins U H s)(hv:Vals ys its)(hz:ys.length<=sizeLine) : Inv X pins U (upd H s.heap.objs.size (.lst ys)) { s with heap:=s.heap.push { cls:=.type "list",data:=.seq its.toArray },toks:=t' }:=
 I.laid (λ_ _ q=>VS _ q) (V4 _) ⟨hz,its,0,hv,W0 _ rfl⟩
theorem Inv.fresh(I:Inv X pins U H s):H s.heap.objs.size=none:=I.hok.fresh (V4 _)
def Inv.yx(I:Inv X pins U H s)(hH:H l=some (.lst xs)):xs.length<=sizeLine/\∃(its:A00) (n:Nat),Vals xs its/\xs.length=its.length/\s.heap.get? l=some { cls:=.type "list",data:=.seq its.toArray n }:=by obtain⟨z,its,n,r,e⟩:=I.hok l _ hH;exact⟨z,its,n,r,r.length,e⟩
def su{n:Nat}(h:n<=sizeLine):Builtin.List.listTooLong n=false:=by unfold Builtin.List.listTooLong;exact Vv (by lia)
end
section
variable{X:Cx}
def AO:V->List V->Hp->VK->Prop:=λx vs H Q=>∃l xs y,x=.ref l/\vs=[y]/\H l=some (.lst xs)/\xs.length<sizeLine/\Q .aW (upd H l (.lst (xs++[y])))
def dF:tL X "list.append" AO:=by intro pins s U H x vs v us Q I rx rv h;obtain⟨l,xs,y,rfl,rfl,hH,hz,q⟩:=h;cases rx;obtain⟨u,rfl,ru⟩:=rv.one;obtain⟨z,its,n,r,hl,e⟩:=I.yx hH;refine XO F.slot_list_append ⟨_,e,rfl⟩ F.entry_list_append (F.args_list_append_2 _ _) (PySem.list_append l its.toArray n u (by rw[VM];lia)) ⟨e,?_⟩;refine⟨.aW,_,I.zU (its':=its++[u]) hH e (by simp) (r.append (.cons ru .nil)) ?_,rfl,q⟩;rw[VI,YD];lia
inductive wm(x:V)(vs:List V)(H:Hp)(Q:VK):Prop
 |mk:∀l xs,(x=.ref l)->(vs=[])->(H l=some (.lst xs))->(Q .aW (upd H l (.lst xs.reverse)))->wm x vs H Q
def zG:V->List V->Hp->VK->Prop:=λx vs H Q=>wm x vs H Q
def DX:tL X "list.reverse" zG:=by intro pins s U H x vs v us Q I rx rv h;obtain⟨l,xs,rfl,rfl,hH,q⟩:=h;cases rx;have hus:=rv.zero;subst hus;obtain⟨z,its,n,r,hl,e⟩:=I.yx hH;refine XO F.slot_list_reverse ⟨_,e,rfl⟩ F.entry_list_reverse (F.args_list_reverse_1 _) (AutoSeq1.list_reverse_list_0 l its.toArray n (by rw[VM];lia)) ⟨e,?_⟩;refine⟨.aW,_,I.zU (its':=its.reverse) hH e (by simp) r.reverse ?_,rfl,q⟩;rw[List.length_reverse];lia
def len_rep{α:Type}(xs:List α) (k:Nat):(List.replicate k xs).flatten.length=k*xs.length:=by
 induction k with
 |zero=>simp
 |succ k ih=>rw[Xf,Xr,VI,ih,Nat.succ_mul,Nat.add_comm]
end
variable{κ:Type}[DecidableEq κ]
def cI (kvs:List (κ×V))(k:κ):Option V:=(kvs.find? λkv=>decide (kv.1=k)).map (·.2)
def putK (kvs:List (κ×V))(k:κ) (v:V):List (κ×V):=
 if(kvs.any λkv=>decide (kv.1=k))=true then kvs.map (λkv=>if kv.1=k then(kv.1,v)else kv)else kvs++[(k,v)]
def sI{p:κ×V}{r:List (κ×V)}{k:κ}(e:p.1=k):cI (p::r) k=some p.2:=by simp[cI,XQ,e]
def rW{p:κ×V}{r:List (κ×V)}{k:κ}(e:¬p.1=k):cI (p::r) k=cI r k:=by simp[cI,XQ,e]
theorem sD(k:κ):∀kvs:List (κ×V),(kvs.any λkv=>decide (kv.1=k))=(cI kvs k).isSome
 |[]=>rfl
 |p::r=>by rw[Xg];by_cases e:p.1=k;{simp only[sI e,Vu e,Bool.true_or,Option.isSome_some]};rw[rW e,Vv e,Bool.false_or];exact sD k r
def qU(kvs:List (κ×V))(k:κ) (v:V):(putK kvs k v).length<=kvs.length+1:=by unfold putK;split;{rw[V2];lia};rw[VI,VR,WJ];lia
def jG.fW{o:Option V}{u:Zw}(r:jG o u):o.isSome=u.isSome:=by
 cases o with
 |none=>cases u with
  |none=>rfl
  |some _=>exact(show False from r).elim
 |some _=>cases u with
  |none=>exact(show False from r).elim
  |some _=>rfl
def KV.val{kvs:List (κ×V)}{vs:List (κ×Value)}(r:KV kvs vs)(k:κ):jG (cI kvs k) (valueAt vs k):=by
 unfold KV at r;induction r with
 |nil=>exact Wt
 |@cons p q ps qs h t ih=>
  obtain⟨h1,h2⟩:=h;by_cases e:p.1=k
  .have e':q.1=k:=h1.symm.trans e;have b:valueAt (q::qs) k=some q.2:=by simp[valueAt,XQ,e']
   rw[sI e,b];exact h2
  have e':¬q.1=k:=λz=>e (h1.trans z);have b:valueAt (q::qs) k=valueAt qs k:=by simp[valueAt,XQ,e']
  rw[rW e,b];exact ih
theorem KV.any{kvs:List (κ×V)}{vs:List (κ×Value)}(r:KV kvs vs)(k:κ):(kvs.any λkv=>decide (kv.1=k))=vs.any λkv=>decide (kv.1=k):=by
 unfold KV at r;induction r with
 |nil=>rfl
 |cons h t ih=>rw[Xg,Xg,ih,h.1]
def KV.repl{kvs:List (κ×V)}{vs:List (κ×Value)}(r:KV kvs vs)(k:κ){y:V}{u:Value}(ry:RelV y u) : KV (kvs.map λkv=>if kv.1=k then(kv.1,y)else kv) (vs.map λkv=>if kv.1=k then(kv.1,u)else kv):=by
 unfold KV at r⊢;induction r with
 |nil=>exact .nil
 |@cons p q ps qs h t ih=>rw[VP,VP];refine .cons ?_ ih;obtain⟨h1,h2⟩:=h;by_cases e:p.1=k;{rw[if_pos e,if_pos (h1.symm.trans e)];exact⟨h1,ry⟩};rw[if_neg e,if_neg (λz=>e (h1.trans z))];exact⟨h1,h2⟩
def KV.put{kvs:List (κ×V)}{vs:List (κ×Value)}(r:KV kvs vs)(k:κ){y:V}{u:Value}(ry:RelV y u):KV (putK kvs k y) (stored vs k u):=by unfold putK stored;rw[r.any k];by_cases e:(vs.any λkv=>decide (kv.1=k))=true;{rw[if_pos e,if_pos e];exact r.repl k ry};rw[if_neg e,if_neg e];exact Paired.snoc r ⟨rfl,ry⟩
theorem KV.length{kvs:List (κ×V)}{vs:List (κ×Value)}(r:KV kvs vs):kvs.length=vs.length:=Paired.length r
def t9{P:Program}{w:World}{k:Key}{u:Value}(r:RelV (kV k) u):(cX P w).is k u=true:=by
 cases k with
 |inl i=>obtain⟨t,e⟩:=(show ∃t,u=Value.int i t from r);subst e;exact AF P w i t
 |inr x=>obtain⟨t,e⟩:=(show ∃t,u=Value.str x t from r);subst e;exact AM P w x t
theorem wC{P:Program}{w:World}:∀{ks:List Key}{us:A00},Vals (ks.map kV) us->ItemsAre (cX P w) ks us
 |[],_,r=>by rw[List.map_nil]at r;cases r;exact .nil
 |k::ks,_,r=>by
  rw[VP]at r;cases r with
  |cons h t=>exact .cons (t9 h) (wC t)
abbrev KT (H:Hp):List (List Key×V)->List (List Key×Addr×Value)->Prop:=Paired λp q=>p.1=q.1/\H q.2.1=some (.tup (p.1.map kV))/\RelV p.2 q.2.2
def KT.val{H:Hp}{kvs:List (List Key×V)}{xs:List (List Key×Addr×Value)}(r:KT H kvs xs)(k:List Key):jG (cI kvs k) ((atKey xs k).map (·.2)):=by
 induction r with
 |nil=>exact Wt
 |@cons p q ps qs h t ih=>
  obtain⟨h1,_,h2⟩:=h;by_cases e:p.1=k
  .have e':q.1=k:=h1.symm.trans e;have b:atKey (q::qs) k=some q.2:=by simp[atKey,XQ,e']
   rw[sI e,b];exact h2
  have e':¬q.1=k:=λz=>e (h1.trans z);have b:atKey (q::qs) k=atKey qs k:=by simp[atKey,XQ,e']
  rw[rW e,b];exact ih
def KT.repl{H:Hp}{kvs:List (List Key×V)}{xs:List (List Key×Addr×Value)}(r:KT H kvs xs)(k:List Key){y:V}{u:Value}(ry:RelV y u) : KT H (kvs.map λkv=>if kv.1=k then(kv.1,y)else kv) (xs.map (putAt k u)):=by
 induction r with
 |nil=>exact .nil
 |@cons p q ps qs h t ih=>rw[VP,VP];refine .cons ?_ ih;obtain⟨h1,h2,h3⟩:=h;unfold putAt;by_cases e:p.1=k;{rw[if_pos e,if_pos (h1.symm.trans e)];exact⟨h1,h2,ry⟩};rw[if_neg e,if_neg (λz=>e (h1.trans z))];exact⟨h1,h2,h3⟩
def KT.put{H:Hp}{kvs:List (List Key×V)}{xs:List (List Key×Addr×Value)}(r:KT H kvs xs)(k:List Key){b:Addr}{y:V}{u:Value}(hb:H b=some (.tup (k.map kV)))(ry:RelV y u) : KT H (putK kvs k y) (storedH xs k b u):=by
 have e:(kvs.any λkv=>decide (kv.1=k))=(atKey xs k).isSome:=by rw[sD,(r.val k).fW,Xs]
 unfold putK storedH;rw[e];by_cases q:(atKey xs k).isSome=true;{rw[if_pos q,if_pos q];exact r.repl k ry};rw[if_neg q,if_neg q];exact Paired.snoc r ⟨rfl,hb,ry⟩
def KT.keeps{H H':Hp}{kvs:List (List Key×V)}{xs:List (List Key×Addr×Value)}(r:KT H kvs xs)(ht:∀b ys,H b=some (.tup ys)->H' b=some (.tup ys)):KT H' kvs xs:=
 Paired.IX r λ_ _ z=>⟨z.1,ht _ _ z.2.1,z.2.2⟩
variable{P:Program}{w:World}{H:Hp}{h:Heap}{a:Addr}
def Lm{u:HO}(ok:dg P w H h)(e:Rd H a u):bC P w H h a u:=e.ok ok
def qy{kvs:List (Key×V)}(ok:dg P w H h)(e:Rd H a (.dK kvs)):kvs.length<=sizeLine/\(a==sysModules)=false/\∃vs,KV kvs vs/\h.DictOf (cX P w) a vs:=
 show bC P w H h a (.dK kvs)from Lm ok e
def Su{kvs:List (Key×V)}(ok:dg P w H h)(e:H a=some (.dK kvs)):kvs.length<=sizeLine/\(a==sysModules)=false/\∃vs,KV kvs vs/\h.DictOf (cX P w) a vs:=qy ok (.inl e)
def mX{ks:List Key}(ok:dg P w H h)(e:H a=some (.tup (ks.map kV))):(tupleKind (cX P w)).is h ks a:=by obtain⟨_,its,r,o,h1,h2,n,h3⟩:=(show bC P w H h a (.tup (ks.map kV))from ok a _ e);exact⟨o,its.toArray,n,h1,h2,h3,by simpa using wC r⟩
def tH{kvs:List (List Key×V)}(ok:dg P w H h)(e:Rd H a (.dT kvs)):kvs.length<=sizeLine/\(a==sysModules)=false /\ ∃xs,KT H kvs xs/\h.DictOfH (tupleKind (cX P w)) a xs:=by
 obtain⟨z,y,xs,r,o,es,ep,h1,h2,h3,h4,h5⟩:=(show bC P w H h a (.dT kvs)from Lm ok e);refine⟨z,y,xs,r,o,es,ep,h1,h2,h3,h4,λx hx=>?_,h5⟩;have all:∀{l:List (List Key×V)}{m:List (List Key×Addr×Value)},KT H l m->∀x∈m,(tupleKind (cX P w)).is h x.1 x.2.1:=by
  intro l m q;induction q with
  |nil=>intro x hx;exact nomatch hx
  |@cons p q ps qs hq t ih=>intro x hx;rcases VF.mp hx with e|hx;{subst e;exact mX ok (by rw[<-hq.1];exact hq.2.1)};exact ih x hx
 exact all r x hx
def Kv{kvs:List (List Key×V)}(ok:dg P w H h)(e:H a=some (.dT kvs)):kvs.length<=sizeLine/\(a==sysModules)=false /\ ∃xs,KT H kvs xs/\h.DictOfH (tupleKind (cX P w)) a xs:=tH ok (.inl e)
def iB (H:Hp)(a:Addr) (y:V)(r:Option V):Prop:=
 (∃kvs k,Rd H a (.dK kvs)/\y=kV k/\r=cI kvs k)\/∃kvs k b,Rd H a (.dT kvs)/\y=.ref b/\H b=some (.tup (k.map kV))/\r=cI kvs k
def p9 (H:Hp)(a:Addr) (y v:V)(H':Hp):Prop:=
 (∃kvs k,H a=some (.dK kvs)/\y=kV k/\kvs.length<sizeLine/\H'=upd H a (.dK (putK kvs k v))) \/
 ∃kvs k b,H a=some (.dT kvs)/\y=.ref b/\H b=some (.tup (k.map kV))/\kvs.length<sizeLine/\H'=upd H a (.dT (putK kvs k v))
theorem iB.k{H:Hp}{a:Addr}{kvs:List (Key×V)}{k:Key}(e:H a=some (.dK kvs)):iB H a (kV k) (cI kvs k):=.inl ⟨kvs,k,.inl e,rfl,rfl⟩
def iB.t{H:Hp}{a b:Addr}{kvs:List (List Key×V)}{k:List Key}(e:H a=some (.dT kvs))(eb:H b=some (.tup (k.map kV))):iB H a (.ref b) (cI kvs k):=.inr ⟨kvs,k,b,.inl e,rfl,eb,rfl⟩
theorem p9.k{H:Hp}{a:Addr}{kvs:List (Key×V)}{k:Key}{v:V}(e:H a=some (.dK kvs))(hl:kvs.length<sizeLine):p9 H a (kV k) v (upd H a (.dK (putK kvs k v))):=.inl ⟨kvs,k,e,rfl,hl,rfl⟩
def p9.t{H:Hp}{a b:Addr}{kvs:List (List Key×V)}{k:List Key}{v:V}(e:H a=some (.dT kvs))(eb:H b=some (.tup (k.map kV)))(hl:kvs.length<sizeLine) : p9 H a (.ref b) v (upd H a (.dT (putK kvs k v))):=.inr ⟨kvs,k,b,e,rfl,eb,hl,rfl⟩
variable{X:Cx}{pins:Zq}{U:St}{s:Shared}{y v:V}{u r:Value}{o:Option V}{A:Around}{E:Zn}
def Inv.big(I:Inv X pins U H s):sysModules<s.heap.objs.size:=by have h:mainGlobals<s.heap.objs.size:=(I.mod.glob.keeps I.bk).lt;exact Nat.lt_trans (by decide) h
def Hq{Q:Zn}(hu:A.units+1<cLine)(I:Inv X pins U H s)(g:iB H a y (some v))(ry:RelV y u)(h:∀w' s',Inv X pins U H s'->RelV v w'->Q w' s') : wpAny (model X.prog X.w) A (getItem (.ref a) u) Q E s:=by rcases g with⟨kvs,k,e,ey,l⟩|⟨kvs,k,b,e,ey,eb,l⟩;{subst ey;obtain⟨z,hd,vs,rel,dd⟩:=qy I.hok e;obtain⟨w',hw,rw'⟩:=jG.some_of (v:=v) (o:=valueAt vs k) (by rw[l];exact rel.val k);exact wpAny_getItem_of (t9 ry) dd.mapOf hw (h w' _ (I.tok _) rw')};subst ey;cases (show u=Value.ref b from ry);obtain⟨z,hd,xs,rel,dd⟩:=tH I.hok e;obtain⟨w',hw,rw'⟩:=jG.some_of (v:=v) (o:=(atKey xs k).map (·.2)) (by rw[l];exact rel.val k);obtain⟨p,hp,hp2⟩:=X5.mp hw;refine wpAny_getItem_heap (YE hu) (mX I.hok eb) dd hp ?_;rw[hp2];exact h w' _ (I.tok _) rw'
def Ui{Q:Zn}(hu:A.units+1<cLine)(I:Inv X pins U H s)(g:iB H a y o)(ry:RelV y u)(h:∀s',Inv X pins U H s'->Q (.bool o.isSome) s') : wpAny (model X.prog X.w) A (compareOp .In u (.ref a)) Q E s:=by rcases g with⟨kvs,k,e,ey,l⟩|⟨kvs,k,b,e,ey,eb,l⟩;{subst ey;obtain⟨z,hd,vs,rel,dd⟩:=qy I.hok e;refine wpAny_in_of (t9 ry) hd dd.mapOf ?_;rw[<-(rel.val k).fW,<-l];exact h _ (I.tok _)};subst ey;cases (show u=Value.ref b from ry);obtain⟨z,hd,xs,rel,dd⟩:=tH I.hok e;refine wpAny_in_heap (YE hu) (mX I.hok eb) hd dd ?_;have q:=(rel.val k).fW;rw[Xs]at q;rw[<-q,<-l];exact h _ (I.tok _)
def MI{Q:Zn}(hu:A.units+1<cLine)(I:Inv X pins U H s)(g:iB H a y o)(ry:RelV y u)(h:∀s',Inv X pins U H s'->Q (.bool (!o.isSome)) s') : wpAny (model X.prog X.w) A (compareOp .NotIn u (.ref a)) Q E s:=by rcases g with⟨kvs,k,e,ey,l⟩|⟨kvs,k,b,e,ey,eb,l⟩;{subst ey;obtain⟨z,hd,vs,rel,dd⟩:=qy I.hok e;refine wpAny_notIn_of (t9 ry) hd dd.mapOf ?_;rw[<-(rel.val k).fW,<-l];exact h _ (I.tok _)};subst ey;cases (show u=Value.ref b from ry);obtain⟨z,hd,xs,rel,dd⟩:=tH I.hok e;refine wpAny_notIn_heap (YE hu) (mX I.hok eb) hd dd ?_;have q:=(rel.val k).fW;rw[Xs]at q;rw[<-q,<-l];exact h _ (I.tok _)
def uX{h':Heap}{t':Nat}{ob:HO}(I:Inv X pins U H s)(mu:Hs (H a))(hs:Heap.SameBut a s.heap h')(he:∃q,h'.get? a=some q)(new:bC X.prog X.w (upd H a ob) h' a ob) : Inv X pins U (upd H a ob) { s with heap:=h',toks:=t' }:=
 I.write (x:=a) (e:=a) mu (.inl rfl) (λb q hb z=>(hs.2 b hb).trans z) he new
def NL{P:Program}{w:World}{H':Hp}{h':Heap}{kvs:List (Key×V)}{vs:List (Key×Value)}(z:kvs.length<=sizeLine)(hd:(a==sysModules)=false)(rel:KV kvs vs)(dd:h'.DictOf (cX P w) a vs) : bC P w H' h' a (.dK kvs):=⟨z,hd,vs,rel,dd⟩
def FH{H':Hp}{Q:Unit->Shared->Prop}(hu:A.units+1<cLine)(I:Inv X pins U H s)(g:p9 H a y v H')(ry:RelV y u)(rv:RelV v r)(h:∀s',Inv X pins U H' s'->Q () s') : wpAny (model X.prog X.w) A (setItem (.ref a) u r) Q E s:=by
 rcases g with⟨kvs,k,e,ey,l,eH⟩|⟨kvs,k,b,e,ey,eb,l,eH⟩
 .subst ey eH;obtain⟨z,hd,vs,rel,dd⟩:=Su I.hok e;have hz:vs.length<=sizeLine:=by rw[<-rel.length];exact z
  have hl:(putK kvs k v).length<=sizeLine:=by have:=qU kvs k v;lia
  refine wpAny_setItem_pairs (hsz:=hz) (t9 ry) dd λh' dd' hs=>h _ ?_;have he:∃q,h'.get? a=some q:=let⟨q,_,_,hq,_⟩:=dd';⟨q,hq⟩;exact uX I (by rw[e];exact Wt) hs he (NL hl hd (rel.put k rv) dd')
 subst ey eH;cases (show u=Value.ref b from ry);obtain⟨z,hd,xs,rel,dd⟩:=Kv I.hok e;have hz:xs.length<=sizeLine:=by rw[<-Paired.length rel];exact z
 have hl:(putK kvs k v).length<=sizeLine:=by have:=qU kvs k v;lia
 refine wpAny_setItem_heap (hsz:=hz) (YE hu) (mX I.hok eb) dd λh' dd' hs=>h _ ?_;obtain⟨q,es,ep,hq,h2,h3,h4,_,h5⟩:=dd';refine uX I (by rw[e];exact Wt) hs ⟨q,hq⟩ ⟨hl,hd,_,(rel.put k eb rv).keeps λc ys ec=>?_,q,es,ep,hq,h2,h3,h4,h5⟩;rw[ai (K7 ec e (λz=>nomatch z))];exact ec
variable{kvs:List (Key×V)}{k:Key}
def Sy{Q:Zn}(I:Inv X pins U H s)(e:Rd H a (.dK kvs))(h:∀t s',Inv X pins U H s'->Q (.int kvs.length t) s'):wpAny (model X.prog X.w) A (call (.builtin "len") [.ref a]) Q E s:=by obtain⟨z,hd,vs,rel,dd⟩:=qy I.hok e;refine call_len_dict hd dd (by rw[<-rel.length];rw[sizeLine_eq]at z;lia) ?_;rw[<-rel.length];exact h _ _ (I.tok _)
def AN{X:Cx}{pins:Zq}{U:St}{H:Hp}{s:Shared}{a:Addr}{y:V}{o:Option V}(I:Inv X pins U H s)(g:iB H a y o):s.TypeIs (.ref a) "dict":=by rcases g with⟨kvs,k,e,_,_⟩|⟨kvs,k,b,e,_,_,_⟩;{obtain⟨_,_,vs,_,dd⟩:=qy I.hok e;exact dd.typeIs};obtain⟨_,_,xs,_,dd⟩:=tH I.hok e;exact dd.typeIs
def Ji{P:Program}{w:World}{H:Hp}(h:Heap)(hb:sysModules<h.objs.size):bC P w H (h.push { cls:=.type "dict",data:=.dict #[] }) h.objs.size (.dK []):=
 ⟨W3 _,beq_eq_false_iff_ne.mpr (Ne.symm (VO hb)),[],.nil,Heap.DictOf.new h⟩
def Iz{P:Program}{w:World}{H:Hp}(h:Heap)(hb:sysModules<h.objs.size):bC P w H (h.push { cls:=.type "dict",data:=.dict #[] }) h.objs.size (.dT []):=
 ⟨W3 _,beq_eq_false_iff_ne.mpr (Ne.symm (VO hb)),[],.nil,_,#[],0,W0 _ rfl,⟨rfl,rfl,rfl⟩,rfl,rfl,WU⟩
def FU:TE:=λ_ H Q=>∀p,H p=none->Q (.ref p) (upd H p (.dK []))
def GA:TE:=λ_ H Q=>∀p,H p=none->Q (.ref p) (upd H p (.dT []))
variable{pos:Pos}
def Jh:PE X (.Dict [] [] pos) FU:=λpins s U H Q I h=>
 wpAny_Dict_empty ⟨.ref s.heap.objs.size,_,I.laid (a:=s.heap.objs.size) (o:=.dK []) (t':=s.toks) (λ_ _ q=>VS _ q) (V4 _) (Ji s.heap I.big),rfl,h _ (I.hok.fresh (V4 _))⟩
def JD:PE X (.Dict [] [] pos) GA:=λpins s U H Q I h=>
 wpAny_Dict_empty ⟨.ref s.heap.objs.size,_,I.laid (a:=s.heap.objs.size) (o:=.dT []) (t':=s.toks) (λ_ _ q=>VS _ q) (V4 _) (Iz s.heap I.big),rfl,h _ (I.hok.fresh (V4 _))⟩
end L2
namespace Tp
open PySem PySem.W PySem.Calls PyProof.Rows
def uM{P:Params}{h:Heap}:∀(ns:A06)(vs:A00),WellAll P h vs (ns.map WData.int)->IntsAre vs ns:=by
 intro ns;induction ns with
 |nil=>intro vs w;rw[List.map_nil]at w;cases w;exact .nil
 |cons n ns ih=>
  intro vs w;rw[VP]at w;cases w with
  |cons a b=>cases a;exact .cons _ _ (ih _ b)
def Fy{l:OpenLaw}{n:Nat}(hn:l.most=some n){P:Params}{h:Heap}{args:List WData}{vals:A00}(hpre:l.row.toRowW.claim.pre args=true)(hwl:WellAll P h vals args) : ∃a vs ns,vals=[Value.ref a]/\args=[WData.list (ns.map WData.int)]/\h.get? a=some { cls:=.type "list",data:=.seq vs.toArray }/\IntsAre vs ns/\ns.length<=n:=by
 have hsh:WShape.hasAll [] args [.list .int]=true:=(pre_splitW hpre).1;have hc:l.pre.holds [] { args:=args }=true:=(pre_splitW hpre).2;obtain⟨d,r,rfl,h1,h2⟩:=hasAllW_cons hsh;obtain rfl:=hasAllW_nil h2;obtain⟨xs,rfl,h3⟩:=hasW_list h1;obtain⟨ns,rfl⟩:=items_int h3;have hlen:ns.length<=n:=by
  unfold OpenLaw.pre at hc;have h4:(WTm.not (.lt (.lit (.int (n:Int))) (.len (.arg 0)))).holds [] { args:=[.list (ns.map .int)] }=true:=by have h4:=(holds_andW hc).1;rw[hn]at h4;exact h4
  have h5:=condW_of h4 (w_not (w_lt w_lit (w_len_list (w_arg rfl))));rw[V2]at h5;refine Nat.le_of_not_lt λq=>?_;have q':(n:Int)<((ns.length:Nat):Int):=by lia
  first
   | (rw[Vu q']at h5;exact absurd h5 (by decide))
   | (simp at h5;lia)
 cases hwl with
 |cons w1 w2=>
  cases w2;cases w1 with
  |list ho hall=>exact⟨_,_,ns,rfl,rfl,ho,uM ns _ hall,hlen⟩
def Ih(l:OpenLaw)(args:List WData):l.row.toRowW.claim.post args (.bool true) args=true:=
 postW_of (r:=l.row.toRowW) (X:=(true==true))
  (show WShape.has [] (.bool true) .bool=true by first|rfl|decide|simp[WShape.has,WShape.arms,WShape.armsAll])
  (show(WTm.eq .res (.lit (.bool true))).value [] { args:=args,res:=some (.bool true),after:=args }=some (.bool (true==true))from w_eq_bool (w_res rfl) w_lit) rfl
def AB{l:OpenLaw}{n:Nat}{q:Program}{loose:A07}{XP:(Zp)->Heap->Prop}{YP:World->Heap->Prop}{d:DefRec}(hn:l.most=some n)(hdf:d.params.defaults=[])(call:∀(w:World)(s₀ s₁:Shared)(mg mb:Zp)(fa:Addr)(o:Obj)(pm cd doc:Value)(a:Addr)(vs:A00)(ns:A06), Ground q loose [] XP w s₀ mg mb s₁.heap->YP w s₁.heap-> s₁.heap.get? fa=some o->o.data=.func (docDef d.name d.params d.body d.scope pm cd doc)->s₁.heap.CodeRec cd d.name->mg d.name=some (.ref fa)-> s₁.heap.get? a=some { cls:=.type "list",data:=.seq vs.toArray }->IntsAre vs ns->ns.length<=n->s₁.gens=#[]-> codeAny (model l.prog w) callerA (.call (.ref fa) ⟨[.ref a],[]⟩) (λr s'=>r=.ok (.ret (.bool true))/\OldK s₁.heap s'.heap/\s'.os=s₁.os/\AllBare s'.gens) s₁) : WalkO q loose XP YP l.row.toRowW d [] (λf vs=>PySem.call f vs):=by intro w s₀ s₁ mg mb G AAB fa o pm cd doc dV kV ho hd hcd hD hmg hg args vals as hpre hlay hrd hwl hlo;obtain rfl:dV=.none:=Dflts.none hD hdf;obtain rfl:kV=.none:=Dflts.noKw hD;obtain⟨a,vs,ns,rfl,rfl,hobj,hints,hlen⟩:=Fy hn hpre hwl;refine enter_call (YB (call w s₀ s₁ mg mb fa o pm cd doc a vs ns G AAB ho (fd_plain hd) hcd hmg hobj hints hlen hg) λr s' hq=>?_);obtain⟨rfl,h2,h3,h4⟩:=hq;exact⟨.inl ⟨.bool true,.bool true,[],rfl,λ_=>rfl,.bool true,Ih l _,λ_=>⟨List.Pairwise.nil,λ_ hm=>(nomatch hm)⟩⟩,h2,h3,h4⟩
end Tp
namespace L2
open PySem PySem.Spec PyProof.Rows
theorem wQ:∀{vs:A00}{ns:A06},IntsAre vs ns->Vals (ns.map V.int) vs
 |_,_,.nil=>.nil
 |_,_,.cons n t h=>.cons ⟨t,rfl⟩ (wQ h)
def Jp (H:Hp):Prop:=∀b,H b=none\/∃o xs,H b=some (.cZ o (.lst xs))
def ki (s:Stmt):Arguments:=match s with
 |.FunctionDef _ a _ _ _ _ _ _ _ _=>a
 |_=>{ posonlyargs:=[],args:=[],vararg:=none,kwonlyargs:=[],kw_defaults:=[],kwarg:=none,defaults:=[] }
def ir (s:Stmt):A04:=match s with
 |.FunctionDef _ _ b _ _ _ _ _ _ _=>b
 |_=>[]
def au (s:Stmt):Scope:=match s with
 |.FunctionDef _ _ _ _ _ _ sc _ _ _=>sc
 |_=>{ kind:=.function,names:=[],isGenerator:=false,isCoroutine:=false }
abbrev E0:XK:=λ_ _ _=>False
structure uF(K:Zv) (x qual:Str)(st:Stmt)(f:Addr)(fd:FuncData):Prop where
 ex:∃(oc:Value)(od:Zz)(kV doc pm:Value)(an:Zz)(cdv ct:Value)(osl:Zm),
  fd=PySem.W.fnOf x qual (ki st) (ir st) (au st) .none kV doc pm an cdv ct/\K.lookup f=some ⟨oc,od,.func fd,osl⟩/\PySem.W.codeIn K cdv qual=true
 kp:PySem.W.keepIn K (.ref f)=true
variable{P:Program}{w:World}{K:Zv}{mg:Zp}{base:Heap}
def uF.binds{x qual:Str}{st:Stmt}{f:Addr}{fd:FuncData}{ps:A07}(F:uF K x qual st f fd)(h:∀(kV doc pm:Value)(an:Zz)(cdv ct:Value)(us:A00),us.length=ps.length->bindArgs (PySem.W.fnOf x qual (ki st) (ir st) (au st) .none kV doc pm an cdv ct) ⟨us,[]⟩=pure (ps.zip us)):Binds K fd ps []:=by obtain⟨oc,od,kV,doc,pm,an,cdv,ct,osl,rfl,lk,hcd⟩:=F.ex;exact .all (h kV doc pm an cdv ct)
def QV{x qual:Str}{st:Stmt}{f:Addr}{oc:Value}{od an:Zz}{osl:Zm}{kV doc pm cdv ct:Value}(l:K.lookup f=some ⟨oc,od,.func (PySem.W.fnOf x qual (ki st) (ir st) (au st) .none kV doc pm an cdv ct),osl⟩)(c:PySem.W.codeIn K cdv qual=true)(k:PySem.W.keepIn K (.ref f)=true):uF K x qual st f (PySem.W.fnOf x qual (ki st) (ir st) (au st) .none kV doc pm an cdv ct):=⟨⟨oc,od,kV,doc,pm,an,cdv,ct,osl,rfl,l,c⟩,k⟩
variable{X:Cx}
def EL:b8 X (.builtin "len") (λxs H Q=>∃a kvs,xs=[V.ref a]/\H a=some (.dK kvs)/\Q (.int kvs.length) H):=by intro pins s U H xs us Q I r h;obtain⟨a,kvs,rfl,ha,q⟩:=h;obtain⟨u,rfl,ru⟩:=vals1 r;cases ru;exact Sy I (.inl ha) λt s' I'=>⟨.int kvs.length,H,I',⟨t,rfl⟩,q⟩
def nP{A B:Prop}(h:B):if false=true then A else B:=by rw[if_neg VQ];exact h
def nJ{A B:Prop}(h:A):if true=true then A else B:=by rw[if_pos rfl];exact h
def ah (H H':Hp):Prop:=∀b o,H b=some o->H' b=some o
def ah.refl(H:Hp):ah H H:=λ_ _ h=>h
def ah.trans{H H1 H2:Hp}(a:ah H H1)(b:ah H1 H2):ah H H2:=λc o h=>b c o (a c o h)
def ah.free{H H':Hp}(e:ah H H'){l:Addr}(h:H' l=Option.none):H l=Option.none:=by
 cases q:H l with
 |none=>rfl
 |some o=>rw[e l o q]at h;cases h
def dR (cells:List (Str×Addr)):List (Str×NameKind)->List (Str×Addr)->List (Str×Addr)
 |[],acc=>acc
 | (n,k)::r,acc=>dR cells r (if(k==NameKind.free)=true then(n,(cells.lookup n).getD 0)::acc else acc)
theorem rL{c:Addr}:∀(names:List (Str×NameKind))(acc:List (Str×Addr)),(dR cells names acc).lookup y=some c->((y,NameKind.free)∈names/\(cells.lookup y).getD 0=c)\/acc.lookup y=some c
 |[],_,h=>.inr h
 | (n,k)::r,acc,h=>by
  rcases rL r _ h with⟨a,b⟩|z;{exact .inl ⟨V8 _ a,b⟩};clear h;by_cases e:(k==NameKind.free)=true
  .rw[if_pos e]at z;rw[WV]at z;cases q:(y==n)with
   |true=>
    rw[q]at z;have ek:k=NameKind.free:=by simpa using e
    have en:y=n:=by simpa using q
    subst ek en;exact .inl ⟨V3,Option.some.inj z⟩
   |false=>rw[q]at z;exact .inr z
  rw[if_neg e]at z;exact .inr z
theorem jX:∀(names:List (Str×NameKind))(acc:List (Str×Addr)),((y,NameKind.free)∈names\/∃c,acc.lookup y=some c)->∃c,(dR cells names acc).lookup y=some c
 |[],_,h=>by rcases h with h|h;{cases h};exact h
 | (n,k)::r,acc,h=>by
  refine jX r _ ?_;rcases h with h|⟨c,h⟩;{rcases VF.mp h with e|h;{cases e;refine .inr ⟨(cells.lookup y).getD 0,?_⟩;rw[if_pos (by decide),WV,beq_self_eq_true]};exact .inl h};by_cases e:(k==NameKind.free)=true
  .rw[if_pos e,WV];cases q:(y==n)with
   |true=>exact .inr ⟨_,rfl⟩
   |false=>exact .inr ⟨c,h⟩
  rw[if_neg e];exact .inr ⟨c,h⟩
def ug(h:∀n,(n,NameKind.free)∈scope.names->∃c,env.cells.lookup n=some c):closureFor scope env=pure (dR env.cells scope.names []):=by
 have key:∀(names:List (Str×NameKind))(cs:List (Str×Addr)),(∀n,(n,NameKind.free)∈names->∃c,env.cells.lookup n=some c)->
   (forIn names cs λ(x:Str×NameKind)(r:List (Str×Addr))=>(if(x.2==NameKind.free)=true then(cellOf env x.1>>=λa=>pure (ForInStep.yield ((x.1,a)::r)))else pure (ForInStep.yield r):Sem _))=pure (dR env.cells names cs):=by
  intro names
  induction names with
  |nil=>intro cs _;rfl
  |cons p r ih=>
   intro cs hp;obtain⟨n,k⟩:=p;rw[List.forIn_cons];by_cases e:(k==NameKind.free)=true
   .have ek:k=NameKind.free:=by simpa using e
    obtain⟨c,hc⟩:=hp n (by rw[ek];exact V3);rw[if_pos e];have e2:cellOf env n=pure c:=by unfold cellOf;rw[hc]
    show((cellOf env n>>=λa=>pure (ForInStep.yield ((n,a)::cs)))>>=_)=_;rw[e2];show(forIn r ((n,c)::cs) _:Sem _)=_;rw[ih _ λn' h'=>hp n' (V8 _ h')];show _=pure (dR env.cells r (if(k==NameKind.free)=true then(n,(env.cells.lookup n).getD 0)::cs else cs));rw[if_pos e,hc];rfl
   rw[if_neg e];show(forIn r cs _:Sem _)=_;rw[ih _ λn' h'=>hp n' (V8 _ h')];show _=pure (dR env.cells r (if(k==NameKind.free)=true then(n,(env.cells.lookup n).getD 0)::cs else cs));rw[if_neg e]
 unfold closureFor;have e:=key scope.names [] h;show((forIn scope.names [] λ(x:Str×NameKind)(r:List (Str×Addr))=>(if(x.2==NameKind.free)=true then(cellOf env x.1>>=λa=>pure (ForInStep.yield ((x.1,a)::r)))else pure (ForInStep.yield r):Sem _))>>=λr=>pure r)=_;rw[e];rfl
theorem iZ{α:Type}{y:Str}{k:α}:∀{l:List (Str×α)},l.lookup y=some k->(y,k)∈l
 |[],h=>by cases h
 | (n,j)::r,h=>by
  rw[WV]at h;cases q:(y==n)with
  |true=>
   rw[q]at h;have en:y=n:=by simpa using q
   cases h;rw[en];exact V3
  |false=>rw[q]at h;exact V8 _ (iZ h)
theorem ue{env:Env}{x:Str}{k:NameKind}:∀{names:List (Str×NameKind)},names.lookup x=some k->(relabel { (default:Scope)with names:=names } env).names.lookup x=some k\/(k=.free/\(relabel { (default:Scope)with names:=names } env).names.lookup x=some .cell)
 |[],h=>by cases h
 | (n,j)::r,h=>by
  have ih:=@ue env x k r;rw[WV]at h;show List.lookup x ((if(j==NameKind.free&&env.scope.kind == .function&&env.kindOf n==some .cell)=true then(n,NameKind.cell)else(n,j))::_)=_\/(_/\List.lookup x ((if(j==NameKind.free&&env.scope.kind == .function&&env.kindOf n==some .cell)=true then(n,NameKind.cell)else(n,j))::_)=_);cases q:(x==n)with
  |true=>rw[q]at h;cases h;by_cases e:(k==NameKind.free&&env.scope.kind == .function&&env.kindOf n==some .cell)=true;{rw[if_pos e,WV,q];refine .inr ⟨?_,rfl⟩;have z:=(VB _ _▸(VB _ _▸e).1:_/\_).1;simpa using z};rw[if_neg e,WV,q];exact .inl rfl
  |false=>rw[q]at h;by_cases e:(j==NameKind.free&&env.scope.kind == .function&&env.kindOf n==some .cell)=true;{rw[if_pos e,WV,q];exact ih h};rw[if_neg e,WV,q];exact ih h
theorem zI{env:Env}{x:Str}{k:NameKind}:∀{names:List (Str×NameKind)},(relabel { (default:Scope)with names:=names } env).names.lookup x=some k->names.lookup x=some k\/(names.lookup x=some .free/\k=.cell)
 |[],h=>by cases h
 | (n,j)::r,h=>by
  have ih:=@zI env x k r;have h:List.lookup x ((if(j==NameKind.free&&env.scope.kind == .function&&env.kindOf n==some .cell)=true then(n,NameKind.cell)else(n,j))::(relabel { (default:Scope)with names:=r } env).names)=some k:=h;rw[WV];cases q:(x==n)with
  |true=>by_cases e:(j==NameKind.free&&env.scope.kind == .function&&env.kindOf n==some .cell)=true;{rw[if_pos e,WV,q]at h;cases h;have z:=(VB _ _▸(VB _ _▸e).1:_/\_).1;exact .inr ⟨by simpa using z,rfl⟩};rw[if_neg e,WV,q]at h;exact .inl h
  |false=>by_cases e:(j==NameKind.free&&env.scope.kind == .function&&env.kindOf n==some .cell)=true;{rw[if_pos e,WV,q]at h;exact ih h};rw[if_neg e,WV,q]at h;exact ih h
def caps (ix:A05)(U:St):St:=ix.map λi=>(U[i]?).join
def Cx.block (X:Cx)(scope:Scope)(C:Addr)(NB:A07)(s2:Shared)(H2:Hp)(fp:A01):Cx:=
 { X with N:=NB,s₀:=s2,H₀:=H2,env:=compEnvC scope (dR X.env.cells scope.names []) C X.env,outer:=X.stack,ex:=fp,fn:=λ_=>false,pn:=[],xe:=λ_ _=>False }
def w4 (X:Cx)(ifs:A03)(t:TT):Prop:=
 ∀(pins:Zq)(s:Shared)(U:St)(H:Hp)(Q:Bool->Hp->Prop),Inv X pins U H s->t U H Q->
  wpAny (model X.prog X.w) X.A (forIn ifs true λc r=>if r=true then do let ok <-isTrue c X.env (eval c X.env);pure (ForInStep.yield ok)else pure (ForInStep.yield r)) (TP X pins U Q) X.xe s
def TQ:TT:=λ_ H Q=>Q true H
def Mj:w4 X [] TQ:=λ_ _ _ H _ I h=>wpAny_tests_nil ⟨H,I,h⟩
def Mf(h:PT X c t):w4 X [c] t:=λpins s U H Q I hw=>wpAny_tests_one (h pins s U H Q I hw)
abbrev iG (its:A00) (n:Nat):Obj:={ cls:=.type "list",data:=.seq its.toArray n }
variable{scope:Scope}{x:Str}{NB:A07}{ix:A05}{pins:Zq}{U:St}{H2:Hp}{s2:Shared}{fp:A01}
def JH(ix:A05)(U:St):(caps ix U).length=ix.length:=by unfold caps;rw[V2]
def HJ{C D:Addr}{n:Nat}(I2:Inv X pins U H2 s2)(f2:∀b∈fp,fN X pins H2 b)(hD:s2.heap.objs.size<=D)(I4:Inv (X.block scope C NB s2 H2 fp) [(D,iG its n)] σB H' s4)(rv:Vals ys its)(hz:ys.length<=sizeLine):Inv X pins U (upd H' D (.lst ys)) s4:=by
 have hp:=I4.pin (D,iG its n) (by show _∈[]++[(D,iG its n)];simp);have hfree:H' D=none:=hp.2.1;have neD:∀b o,s2.heap.get? b=some o->b≠D:=λb o e=>VO (Vt (VC e) hD);have neT:∀b o,H2 b=some o->b≠D:=λb o e=>VO (Vt (I2.hok.lt e) hD);have u:Un (frs X.stack) fp H2 H' s2.heap s4.heap:=I4.base;refine I2.Dy (ch:=fp) I4.os ⟨u.keep,u.slot,λb o e n hx=>?_,u.there,λb xs e=>?_,λb o v e=>?_,λb ps e=>?_⟩ (λb o e=>?_) I4.bare λb hb=>?_;{rw[ai (neD b o e)];exact u.free b o e n hx};{rw[ai (neT b _ e)];exact u.tups b xs e};{rw[ai (neT b _ e)];exact u.jK b o v e};{rw[ai (neT b _ e)];exact u.kM b ps e}
 .by_cases hb:b=D;{subst hb;rw[av]at e;cases e;exact⟨hz,its,n,rv,hp.1⟩};rw[ai hb]at e;have ne:∀{c:Addr}{w:HO},H' c=some w->c≠D:=λ{c w} q z=>by rw[z,hfree]at q;cases q
  exact(I4.hok b o e).stay (λ_ _ _ q=>q) (λc q=>by rw[ai (ne q)];exact q) λc xs q=>by rw[ai (ne q)];exact q
 obtain⟨_,g1,g2,g3,g4,g5⟩:=f2 b hb;exact⟨g3,g1,g4,g5⟩
end L2
namespace L2
open PySem PySem.Spec PyProof.Rows PySem.W
def m6 (a C:Addr)(dd:Zz):Heap->Prop:=λh=>∃(t0:Addr)(v1 v2 v3 v4 v5:Value)(sl:Zm),h.get? a=some ⟨.ref C,dd,.fields #[.ref t0,v1,v2,v3,v4,v5],sl⟩
def HW{a C:Addr}(x:m6 a C dd h):bC P w H h a (.ext (m6 a C dd)):=by obtain⟨t0,v1,v2,v3,v4,v5,sl,e⟩:=id x;exact⟨x,⟨_,e⟩,λh1 h2 ⟨t0,v1,v2,v3,v4,v5,sl,e⟩ k=>⟨t0,v1,v2,v3,v4,v5,sl,k _ e⟩⟩
def six (newId:String)(l:List (Zw)):Bool:=l.length==6&&(match(l[4]?:Option (Zw))with|some (some (Value.builtin n))=>n==newId|_=>false)
def Ci (K:Frag)(C:Addr)(bmB:A00):A00->Bool
 |.ref C'::bm=>C'==C&&tailIn K bmB bm
 |_=>false
def kL (K:Frag)(C:Addr)(bmB:A00)(newId:String)(r:Zw):Bool:=match K.lookup C with
 |some ob=>(match ob.cls with | .type t=>t == "type" | _=>false)&&(match ob.data with
  |.cls cd=>(Ci K C bmB cd.mro&&six newId ob.slots.toList)&&!cd.hasDel&&(nsOkIn K cd.ns&&nsIn K cd.ns "__init__" == some r)
  |_=>false)
 |none=>false
def Qu(h:six newId l=true):∃k0 k1 k2 k3 k5,l=[k0,k1,k2,k3,some (.builtin newId),k5]:=by
 unfold six at h;rw[VB]at h;obtain⟨h1,h2⟩:=h;have h1:l.length=6:=Xe h1;rcases l with _|⟨k0,_|⟨k1,_|⟨k2,_|⟨k3,_|⟨k4,_|⟨k5,_|⟨k6,l⟩⟩⟩⟩⟩⟩⟩
 case cons.cons.cons.cons.cons.cons.nil=>
  cases k4 with
  |none=>cases h2
  |some v=>
   cases v with
   |builtin n=>exact⟨k0,k1,k2,k3,k5,by rw[show n=newId from Xe h2]⟩
   |_=>cases h2
 case cons.cons.cons.cons.cons.cons.cons=>cases h1
 all_goals cases h1
def CY{K:Frag}{C:Addr}{bmB l:A00}(h:Ci K C bmB l=true):∃bm,l=.ref C::bm/\tailIn K bmB bm=true:=by
 cases l with
 |nil=>cases h
 |cons v bm=>
  cases v with
  |ref a=>have h:(a==C&&tailIn K bmB bm)=true:=h;rw[VB]at h;exact⟨bm,by rw[show a=C from Xe h.1],h.2⟩
  |_=>cases h
structure Ut(C:Addr)(bmB:A00)(newId:String)(r:Zw)(h:Heap):Prop where
 obj:∃bm N nm q bs hdct sn sub ab col dd k0 k1 k2 k3 k5 mN,h.get? C=some (excClassObj nm q C N bs bm hdct sn sub ab col dd k0 k1 k2 k3 k5 newId)/\h.Ns N mN/\mN "__init__"=r/\OwnTail h bmB bm
def C5{K:Frag}{h:Heap}{N:Addr}{mg:Zp}(X:K.In h)(G:h.Ns N mg)(e:nsIn K N n=some r):mg n=r:=by
 obtain⟨o,es,ep,ho,hd,_,hf⟩:=G;unfold nsIn at e;split at e
 .rename_i c d es' n' sl q;have z:=X _ _ q;rw[ho]at z;cases z;cases hd;split at e
  .rename_i en he;rw[<-hf];unfold nsFind findBy;rw[<-ZH,he];first
    | (cases e;rfl)
    | (split at e<;>cases e<;>rfl)
  rename_i he;rw[<-hf];unfold nsFind findBy;rw[<-ZH,he];split at e;{cases e};cases e;rfl
 cases e
def Lx{K:Frag}{C:Addr}(X:K.In h)(q:kL K C bmB newId r=true):Ut C bmB newId r h:=by
 unfold kL at q;cases ho:K.lookup C with
 |none=>rw[ho]at q;cases q
 |some ob=>
  rw[ho]at q;obtain⟨cls,dd,data,sl⟩:=ob;dsimp only at q;rw[VB]at q;obtain⟨q0,q⟩:=q;have hc:cls=.type "type":=by
   cases cls with
   |type t=>exact congrArg Value.type (Xe q0)
   |_=>cases q0
  subst hc;cases data with
  |cls cd=>
   dsimp only at q;rw[VB,VB,VB,VB]at q;obtain⟨⟨⟨q1,q2⟩,hdel⟩,hok,hni⟩:=q;obtain⟨bm,hm,ht⟩:=CY q1;obtain⟨l⟩:=sl;obtain⟨k0,k1,k2,k3,k5,hs⟩:=Qu q2;have hs:l=_:=hs;obtain⟨nm,bs,mro,ns,qn,hd,sn,sub,ab,col,del⟩:=cd;dsimp only at hm hdel hok hni;have hdel:del=false:=by cases del<;>first|rfl|cases hdel
   have hni:=Xe hni;subst hm hdel hs;have G:h.Ns ns (h.nsMap ns):=.of_isNs (isNs_of_in X hok);exact⟨bm,ns,nm,qn,bs,hd,sn,sub,ab,col,dd,k0,k1,k2,k3,k5,_,X _ _ ho,G,C5 X G hni,tail_of_in X ht⟩
  |_=>cases q
def Ik{a:Addr}(x:bC P w H h a o):∃ob,h.get? a=some ob:=by
 cases o with
 |lst xs=>obtain⟨_,_,_,_,e⟩:=x;exact⟨_,e⟩
 |tup xs=>obtain⟨_,_,_,ob,e,_⟩:=x;exact⟨_,e⟩
 |dK kvs=>obtain⟨_,_,_,_,ob,_,_,e,_⟩:=x;exact⟨_,e⟩
 |dT kvs=>obtain⟨_,_,_,_,ob,_,_,e,_⟩:=x;exact⟨_,e⟩
 |set S n=>obtain⟨ob,_,_,_,e,_⟩:=x;exact⟨_,e⟩
 |ins C dx fs=>obtain⟨_,_,_,e,_⟩:=x;exact⟨_,e⟩
 |own y=>exact x
 |xd fs=>obtain⟨_,⟨od,_,_,e,_⟩,_⟩:=x;exact⟨_,e⟩
 |qY lo hi=>obtain⟨_,_,_,e⟩:=x;exact⟨_,e⟩
 |cZ ob u=>obtain⟨e,_⟩:=x;exact⟨_,e⟩
 |xm ps=>exact⟨_,x⟩
 |met f y=>exact⟨_,x⟩
 |ext φ=>obtain⟨_,e,_⟩:=x;exact e
variable{X:Cx}{pins:Zq}{U:St}{H:Hp}{s:Shared}{h':Heap}
def Inv.mR(I:Inv X pins U H s){a:Addr}(hn:s.heap.get? a=none):H a=none:=by
 cases z:H a with
 |none=>rfl
 |some o=>obtain⟨ob,e⟩:=Ik (I.hok a o z);rw[hn]at e;cases e
def Inv.Ko{a:Addr}{t':Nat}(I:Inv X pins U H s)(k:∀b u,s.heap.get? b=some u->h'.get? b=some u)(hn:s.heap.get? a=none)(new:bC X.prog X.w (upd H a o) h' a o) : Inv X pins U (upd H a o) { s with heap:=h',toks:=t' }:=by
 have hf:=I.mR hn;have neA:∀b u,s.heap.get? b=some u->b≠a:=λb u e z=>by rw[z,hn]at e;cases e
 have neT:∀b u,H b=some u->b≠a:=λb u e z=>by rw[z,hf]at e;cases e
 refine I.un ⟨λb u e _ _ _=>k b u e,λb u e _ _ _=>⟨u.slots,k b u e⟩,λb u e n _=>by rw[ai (neA b u e)];exact n,λb u e _=>⟨u,k b u e⟩,λb xs e=>by rw[ai (neT b _ e)];exact e,
  λb u v e=>by rw[ai (neT b _ e)];exact e,λb ps e=>⟨#[],by rw[ai (neT b _ e),e];simp⟩⟩ λb u e=>?_
 by_cases hb:b=a;{subst hb;rw[av]at e;cases e;exact new};rw[ai hb]at e;exact(I.hok b u e).stay (λc v _ q=>k c v q) (λc q=>by rw[ai (neT c _ q)];exact q) λc xs q=>by rw[ai (neT c _ q)];exact q
abbrev EM:A00:=[.type "ValueError",.type "Exception",.type "BaseException",.type "object"]
end L2
namespace SM
open PySem PySem.SetTable
def run (M:Nat) (b:Nat):Nat->Nat×Nat
 |0=>(b%M,b)
 |k+1=>(((run M b k).1*5+1+(run M b k).2/32)%M,(run M b k).2/32)
theorem rD(M b:Nat):∀k,(run M b k).2=b/32^k
 |0=>by simp[run]
 |k+1=>by show(run M b k).2/32=_;rw[rD M b k,Nat.div_div_eq_div_mul,Nat.pow_succ]
def xY{M b:Nat}(hM:0<M):∀k,(run M b k).1<M
 |0=>X6 _ hM
 |k+1=>X6 _ hM
def tN (M i:Nat):Nat:=(i*5+1)%M
def iV (M:Nat):Nat->Nat->Nat
 |i,0=>i
 |i,r+1=>tN M (iV M i r)
theorem qH(M i a:Nat):∀b,iV M i (a+b)=iV M (iV M i a) b
 |0=>rfl
 |b+1=>by show tN M (iV M i (a+b))=tN M (iV M (iV M i a) b);rw[qH M i a b]
def IW (M:Nat):Nat->Nat->A05
 |_,0=>[]
 |i,r+1=>i::IW M (tN M i) r
theorem wM(M i:Nat):∀r,iV M (tN M i) r=iV M i (r+1)
 |0=>rfl
 |r+1=>by show tN M (iV M (tN M i) r)=tN M (iV M i (r+1));rw[wM M i r]
theorem yt(M:Nat):∀(n i j:Nat),j∈IW M i n->∃r,r<n/\iV M i r=j
 |0,_,_,h=>by cases h
 |n+1,i,j,h=>by rcases VF.mp h with e|h;{exact⟨0,Xu _,e.symm⟩};obtain⟨r,hr,e⟩:=yt M n _ j h;exact⟨r+1,Nat.succ_lt_succ hr,by rw[<-wM];exact e⟩
def full (M:Nat):Bool:=(List.range M).all (λj=>(IW M 0 M).contains j)&&decide (iV M 0 M=0)
def Gm:full 8=true:=by decide+kernel
def LD:full 32=true:=by decide+kernel
def II:full 128=true:=by decide+kernel
def Jt:full 512=true:=by decide+kernel
def xq{M:Nat}(h:full M=true){j:Nat}(hj:j<M):∃r,r<M/\iV M 0 r=j:=by unfold full at h;rw[VB]at h;have z:=VW.mp h.1 j (VD.mpr hj);exact yt M M 0 j (by simpa using z)
def zK{M:Nat}(h:full M=true){i j:Nat}(hi:i<M)(hj:j<M):∃r,r<M/\iV M i r=j:=by
 obtain⟨a,ha,ea⟩:=xq h hi;obtain⟨b,hb,eb⟩:=xq h hj;have back:iV M 0 M=0:=by unfold full at h;rw[VB]at h;exact WA h.2
 by_cases q:a<=b;{refine⟨b-a,by lia,?_⟩;rw[<-ea,<-qH,show a+(b-a)=b by lia,eb]};refine⟨M-a+b,by lia,?_⟩;rw[<-ea,<-qH,show a+(M-a+b)=M+b by lia,qH,back,eb]
theorem v9{M b k:Nat}(hb:b<2^64)(hk:12<=k):∀r,(run M b (k+r)).1=iV M (run M b k).1 r
 |0=>rfl
 |r+1=>by
  show((run M b (k+r)).1*5+1+(run M b (k+r)).2/32)%M=tN M (iV M (run M b k).1 r);rw[v9 hb hk r,rD];have e:b/32^(k+r)/32=0:=by rw[Nat.div_div_eq_div_mul,<-Nat.pow_succ];refine Nat.div_eq_of_lt (Vt hb ?_);have h1:(32:Nat)^13<=32^(k+r).succ:=Nat.pow_le_pow_right (by decide) (by lia);exact VX (by decide) h1
  rw[e,Nat.add_zero];rfl
def pe (m:Nat)(p:Probe):Probe:=
 if p.more>0 then { p with j:=p.j+1,more:=p.more-1 } else
 { p with j:=(leap m p.i p.perturb).1,more:=runEnd m (leap m p.i p.perturb).1-(leap m p.i p.perturb).1,i:=(leap m p.i p.perturb).1,perturb:=(leap m p.i p.perturb).2 }
def U9 (m:Nat) (h:Int):Probe:={ j:=bits h%(m+1),more:=runEnd m (bits h%(m+1))-bits h%(m+1),i:=bits h%(m+1),perturb:=bits h,dummy:=none }
def pr (m:Nat) (h:Int):Nat->Probe
 |0=>U9 m h
 |n+1=>pe m (pr m h n)
def Cw(h:Int):bits h<2^64:=by unfold bits;have:=Int.emod_lt_of_pos h (show(0:Int)<2^64 by decide);have h0:=Int.emod_nonneg h (show(2^64:Int)≠0 by decide);lia
theorem yu(m:Nat) (h:Int):∀n,(pr m h n).dummy=none
 |0=>rfl
 |n+1=>by show(pe m (pr m h n)).dummy=none;unfold pe;split<;>exact yu m h n
def qz (m:Nat) (h:Int) (n k:Nat):Prop:=pr m h n={ j:=(run (m+1) (bits h) k).1,more:=runEnd m (run (m+1) (bits h) k).1-(run (m+1) (bits h) k).1,i:=(run (m+1) (bits h) k).1,perturb:=(run (m+1) (bits h) k).2,dummy:=none }
theorem tF{m:Nat}{h:Int}{n k:Nat}(a:qz m h n k):∀r,r<=runEnd m (run (m+1) (bits h) k).1-(run (m+1) (bits h) k).1-> pr m h (n+r)={ j:=(run (m+1) (bits h) k).1+r,more:=runEnd m (run (m+1) (bits h) k).1-(run (m+1) (bits h) k).1-r,i:=(run (m+1) (bits h) k).1,perturb:=(run (m+1) (bits h) k).2,dummy:=none }
 |0,_=>a
 |r+1,hr=>by show pe m (pr m h (n+r))=_;rw[tF a r (by lia)];unfold pe;rw[if_pos (show runEnd m (run (m+1) (bits h) k).1-(run (m+1) (bits h) k).1-r>0 by lia)];congr 1
def wZ(m i:Nat):runEnd m i-i<=9:=by unfold runEnd;split<;>lia
def JP{m:Nat}{h:Int}{n k:Nat}(a:qz m h n k):∃n',n'<=n+10/\qz m h n' (k+1):=by have z:=tF a _ (V4 _);refine⟨n+(runEnd m (run (m+1) (bits h) k).1-(run (m+1) (bits h) k).1)+1,by have:=wZ m (run (m+1) (bits h) k).1;lia,?_⟩;show pe m (pr m h (n+(runEnd m (run (m+1) (bits h) k).1-(run (m+1) (bits h) k).1)))=_;rw[z];unfold pe;rw[if_neg (show ¬(runEnd m (run (m+1) (bits h) k).1-(run (m+1) (bits h) k).1-(runEnd m (run (m+1) (bits h) k).1-(run (m+1) (bits h) k).1)>0)by lia)];rfl
theorem E9(m:Nat) (h:Int):∀k,∃n,n<=10*k/\qz m h n k
 |0=>⟨0,W3 _,rfl⟩
 |k+1=>by obtain⟨n,hn,a⟩:=E9 m h k;obtain⟨n',hn',a'⟩:=JP a;exact⟨n',by lia,a'⟩
def Ob{m:Nat}(hf:full (m+1)=true) (h:Int){j:Nat}(hj:j<=m):∃n,n<10*turns m/\(pr m h n).j=j:=by obtain⟨r,hr,e⟩:=zK hf (xY (b:=bits h) (Xu m) 12) (ZM hj);obtain⟨n,hn,a⟩:=E9 m h (12+r);refine⟨n,?_,?_⟩;{unfold turns;lia};rw[a];show(run (m+1) (bits h) (12+r)).1=j;rw[v9 (Cw h) (V4 _),e]
def jH (xs:Array Nat):Prop:=∀(i k x y:Nat),i<k->xs[i]?=some x->xs[k]?=some y->x<y
def jH.inj(h:jH xs){i k x:Nat}(a:xs[i]?=some x)(b:xs[k]?=some x):i=k:=by rcases Xh i k with z|z|z;{exact absurd (h i k x x z a b) (Vz _)};{exact z};exact absurd (h k i x x z b a) (Vz _)
def nv{α:Type}{xs:Array α}{i:Nat}{x:α}(h:xs[i]?=some x):i<xs.size:=(Yl.mp h).1
theorem rY(hr:jH xs) (j:Nat):∀(fuel lo hi:Nat),lo<=hi->hi<=xs.size->hi-lo<=fuel->(∀i x,xs[i]?=some x->i<lo->x<j)->(∀i x,xs[i]?=some x->hi<=i->j<=x)-> below.go xs j fuel lo hi<=xs.size/\∀i x,xs[i]?=some x->(i<below.go xs j fuel lo hi↔x<j)
 |0,lo,hi,h1,h2,h3,h4,h5=>by
  have e:lo=hi:=by lia
  subst e;unfold below.go;refine⟨h2,λi x hx=>⟨h4 i x hx,λlt=>?_⟩⟩;by_cases q:i<lo;{exact q};exact absurd lt (X7.mpr (h5 i x hx (X7.mp q)))
 |fuel+1,lo,hi,h1,h2,h3,h4,h5=>by
  unfold below.go;by_cases q:lo<hi
  .rw[if_pos q];have hm:(lo+hi)/2<xs.size:=by lia
   have gm:xs[(lo+hi)/2]?=some xs[(lo+hi)/2]:=WQ hm;have gd:xs.getD ((lo+hi)/2) j=xs[(lo+hi)/2]:=by rw[X8,gm];rfl
   dsimp only;rw[gd];by_cases c:xs[(lo+hi)/2]<j;{rw[if_pos c];refine rY hr j fuel _ hi (by lia) h2 (by lia) (λi x hx hi'=>?_) h5;by_cases e:i=(lo+hi)/2;{subst e;rw[gm]at hx;cases hx;exact c};exact Nat.lt_trans (hr i _ x _ (by lia) hx gm) c};rw[if_neg c];refine rY hr j fuel lo _ (by lia) (by lia) (by lia) h4 λi x hx hi'=>?_;by_cases e:i=(lo+hi)/2;{subst e;rw[gm]at hx;cases hx;exact X7.mp c};exact VX (X7.mp c) (YW (hr _ i _ x (by lia) gm hx))
  rw[if_neg q];have e:lo=hi:=by lia
  subst e;refine⟨h2,λi x hx=>⟨h4 i x hx,λlt=>?_⟩⟩;by_cases q:i<lo;{exact q};exact absurd lt (X7.mpr (h5 i x hx (X7.mp q)))
def nY{xs:Array Nat}(hr:jH xs) (j:Nat):below xs j<=xs.size/\∀i x,xs[i]?=some x->(i<below xs j↔x<j):=
 rY hr j xs.size 0 xs.size (W3 _) (V4 _) (by lia) (λ_ _ _ h=>absurd h (WX _)) λi x hx h=>absurd (nv hx) (X7.mpr h)
def below_at{xs:Array Nat}(hr:jH xs){i j:Nat}(h:xs[i]?=some j):below xs j=i:=by
 obtain⟨h1,h2⟩:=nY hr j;have a:¬i<below xs j:=λq=>Vz _ ((h2 i j h).mp q);by_cases e:below xs j=i;{exact e};have lt:below xs j<i:=by lia
 have hb:below xs j<xs.size:=Nat.lt_trans lt (nv h);have gb:xs[below xs j]?=some xs[below xs j]:=WQ hb;have:=hr _ _ _ _ lt gb h;exact absurd ((h2 _ _ gb).mpr this) (Vz _)
def pM{t:SetTable}(hr:jH t.place){i j:Nat}(h:t.place[i]?=some j):t.slot j=.live i:=by unfold slot;dsimp only;rw[below_at hr h,h,if_pos (by simp)]
def De{t:SetTable}(hr:jH t.place)(hd:t.dummies=#[]){j:Nat}(h:∀i:Nat,t.place[i]?≠some j):t.slot j=.empty:=by
 unfold slot;dsimp only;rw[if_neg (by simpa using h _)];have:has t.dummies j=false:=by unfold has;rw[hd];simp
 rw[this];rfl
def Ia{xs:Array Nat}(hr:jH xs){m:Nat}(hs:xs.size<=m):∃j,j<=m/\∀i:Nat,xs[i]?≠some j:=by
 refine Wn λno=>?_;have all:∀j,j<=m->∃i:Nat,xs[i]?=some j:=λj hj=>Wn λq=>no ⟨j,hj,λi e=>q ⟨i,e⟩⟩;have ge:∀j,j<=m->∀i:Nat,xs[i]?=some j->j<=i:=by
  intro j;induction j with
  |zero=>intro _ i _;exact W3 _
  |succ j ih=>intro hj i hi;obtain⟨i0,h0⟩:=all j (by lia);have l0:=ih (by lia) i0 h0;rcases Xh i0 i with z|z|z;{lia};{subst z;rw[h0]at hi;have:=Option.some.inj hi;lia};have:=hr i i0 _ _ z hi h0;lia
 obtain⟨i,hi⟩:=all m (V4 _);have h1:=ge m (V4 _) i hi;have h2:=nv hi;lia
def nG{α:Type}{xs:Array α}{p:Nat}(hp:p<=xs.size)(x:α) (i:Nat):(insertAt xs p x)[i]?=if i<p then xs[i]? else if i=p then some x else xs[i-1]?:=by
 unfold insertAt;have s1:(xs.extract 0 p).size=p:=by rw[ZN];lia
 have s2:((xs.extract 0 p).push x).size=p+1:=by rw[Array.size_push,s1]
 rw[Array.getElem?_append,s2];by_cases h1:i<p;{rw[if_pos (by lia),if_pos h1,Array.getElem?_push,s1,if_neg (by lia),Array.getElem?_extract,if_pos (by lia),YF]};rw[if_neg h1];by_cases h2:i=p;{subst h2;rw[if_pos (by lia),if_pos rfl,Array.getElem?_push,s1,if_pos rfl]};rw[if_neg (by lia),if_neg h2,Array.getElem?_extract];by_cases h3:i-(p+1)<xs.size-p;{rw[if_pos (by lia),show p+(i-(p+1))=i-1 by lia]};rw[if_neg (by lia)];exact(ZO (by lia)).symm
def oF{α:Type}{xs:Array α}{p:Nat}(hp:p<=xs.size)(x:α):(insertAt xs p x).size=xs.size+1:=by unfold insertAt;rw[Array.size_append,Array.size_push,ZN,ZN];lia
abbrev Ent:=Int×Value
def In (t:SetTable) (j:Nat):Prop:=∃i:Nat,t.place[i]?=some j
def Way (t:SetTable) (h:Int) (m:Nat):Prop:=∀m',m'<m->In t (pr t.mask h m').j
structure TB(t:SetTable)(es:Array Ent):Prop where
 sz:t.place.size=es.size
 ri:jH t.place
 le:∀i j:Nat,t.place[i]?=some j->j<=t.mask
 du:t.dummies=#[]
 fu:full (t.mask+1)=true
 od:t.mask%2=1
 nf:t.place.size<=t.mask
 rc:∀(i j:Nat)(e:Ent),t.place[i]?=some j->es[i]?=some e->∃m,m<10*turns t.mask/\(pr t.mask e.1 m).j=j/\Way t e.1 m
section
variable{t:SetTable}{es:Array Ent}
theorem TB.fits(T:TB t es):t.fits es.size=true:=by unfold SetTable.fits fill;rw[T.sz,T.du];have:=T.nf;rw[T.sz]at this;simpa using this
def TB.Ij(T:TB t es):t.gaveWay=false:=by unfold SetTable.gaveWay;rw[T.od];rfl
def TB.first(T:TB t es) (h:Int):∃N,N<10*turns t.mask/\¬In t (pr t.mask h N).j/\Way t h N:=by
 obtain⟨j,hj,hn⟩:=Ia T.ri T.nf;obtain⟨n,hlt,e⟩:=Ob T.fu h hj;have key:∀n,¬In t (pr t.mask h n).j->∃N,N<=n/\¬In t (pr t.mask h N).j/\Way t h N:=by
  intro n;induction n using Nat.strongRecOn with
  |ind n ih=>intro hq;by_cases w:Way t h n;{exact⟨n,V4 _,hq,w⟩};obtain⟨m',q⟩:=Classical.not_forall.mp w;obtain⟨lt,q⟩:=Classical.not_imp.mp q;obtain⟨N,a,b,c⟩:=ih m' lt q;exact⟨N,by lia,b,c⟩
 obtain⟨N,a,b,c⟩:=key n (by rw[e];rintro⟨i,hi⟩;exact hn i hi);exact⟨N,by lia,b,c⟩
theorem ve(hr:jH t.place)(hd:t.dummies=#[]){hashAt:Nat->Int}{h:Int}{N:Nat}(hN:¬In t (pr t.mask h N).j)(hw:Way t h N):∀(fuel n:Nat),n<=N->N-n<fuel->(probe.go t hashAt h fuel (pr t.mask h n)=some (.empty (pr t.mask h N).j none)/\∀m i:Nat,n<=m->m<N->t.place[i]?=some (pr t.mask h m).j->hashAt i≠h) \/ (∃m i:Nat,n<=m/\m<N/\t.place[i]?=some (pr t.mask h m).j/\hashAt i=h/\probe.go t hashAt h fuel (pr t.mask h n)=some (.candidate (pr t.mask h m).j i (pr t.mask h (m+1)))/\∀m' i':Nat,n<=m'->m'<m->t.place[i']?=some (pr t.mask h m').j->hashAt i'≠h)
 |0,n,h1,h2=>absurd h2 (WX _)
 |fuel+1,n,h1,h2=>by
  unfold probe.go;by_cases e:n=N;{subst e;rw[De hr hd (λi q=>hN ⟨i,q⟩)];refine .inl ⟨?_,λm i a b=>by lia⟩;show some (Met.empty (pr t.mask h n).j (pr t.mask h n).dummy)=_;rw[yu]};obtain⟨i,hi⟩:=hw n (by lia);rw[pM hr hi];dsimp only;by_cases q:hashAt i=h;{rw[if_pos (by rw[q];exact beq_self_eq_true h)];exact .inr ⟨n,i,V4 _,by lia,hi,q,rfl,λm' i' a b=>by lia⟩};rw[if_neg (by simpa using q)];show(probe.go t hashAt h fuel (pr t.mask h (n+1))=_/\_)\/_;have other:∀i':Nat,t.place[i']?=some (pr t.mask h n).j->hashAt i'≠h:=λi' hi'=>by rw[hr.inj hi' hi];exact q
  rcases ve hr hd (hashAt:=hashAt) hN hw fuel (n+1) (by lia) (by lia)with⟨a,b⟩|⟨m,i',c1,c2,c3,c4,c5,c6⟩;{refine .inl ⟨a,λm i' u v x=>?_⟩;by_cases z:m=n;{subst z;exact other i' x};exact b m i' (by lia) v x};refine .inr ⟨m,i',by lia,c2,c3,c4,c5,λm' i'' u v x=>?_⟩;by_cases z:m'=n;{subst z;exact other i'' x};exact c6 m' i'' (by lia) v x
def IT(hr:jH xs) (j:Nat):below xs j<=xs.size:=(nY hr j).1
theorem TB.put(T:TB t es){N:Nat}(hl:N<10*turns t.mask)(hN:¬In t (pr t.mask e.1 N).j)(hw:Way t e.1 N)(room:es.size+1<=t.mask)(hjm:(pr t.mask e.1 N).j<=t.mask) : TB (t.put (pr t.mask e.1 N).j).1 (insertAt es (t.put (pr t.mask e.1 N).j).2 e):=by
 obtain⟨hb,hs⟩:=nY T.ri (pr t.mask e.1 N).j;have hb2:below t.place (pr t.mask e.1 N).j<=es.size:=by rw[<-T.sz];exact hb
 have nd:has t.dummies (pr t.mask e.1 N).j=false:=by
  unfold has;rw[T.du];simp
 have ep:(t.put (pr t.mask e.1 N).j).1={ t with place:=insertAt t.place (below t.place (pr t.mask e.1 N).j) (pr t.mask e.1 N).j }:=by
  unfold SetTable.put;dsimp only;rw[nd];rfl
 have ep2:(t.put (pr t.mask e.1 N).j).2=below t.place (pr t.mask e.1 N).j:=rfl;rw[ep,ep2];generalize hp:below t.place (pr t.mask e.1 N).j=p at *;generalize hj:(pr t.mask e.1 N).j=j at *;have g:=nG hb j
 -- what was there is there
 have up:∀(i x:Nat),t.place[i]?=some x->∃i':Nat,(insertAt t.place p j)[i']?=some x:=λi x hx=>by
  by_cases q:i<p
  .exact⟨i,by rw[g,if_pos q];exact hx⟩
  .exact⟨i+1,by rw[g,if_neg (by lia),if_neg (by lia)];exact hx⟩
 have mine:(insertAt t.place p j)[p]?=some j:=by rw[g,if_neg (Vz _),if_pos rfl]
 have down:∀(i x:Nat),(insertAt t.place p j)[i]?=some x->(i<p/\t.place[i]?=some x)\/(i=p/\x=j)\/(p<i/\t.place[i-1]?=some x):=λi x hx=>by
  rw[g]at hx
  by_cases q:i<p
  .rw[if_pos q]at hx;exact .inl ⟨q,hx⟩
  .rw[if_neg q]at hx
   by_cases q2:i=p
   .rw[if_pos q2]at hx;exact .inr (.inl ⟨q2,(Option.some.inj hx).symm⟩)
   .rw[if_neg q2]at hx;exact .inr (.inr ⟨by lia,hx⟩)
 have inUp:∀x,In t x->In { t with place:=insertAt t.place p j } x:=λx ⟨i,hi⟩=>up i x hi
 have noJ:∀(i:Nat),t.place[i]?≠some j:=λi q=>hN ⟨i,q⟩
 constructor
 .show(insertAt t.place p j).size=_;rw[oF hb,oF hb2,T.sz]
 .intro i k x y hik hx hy;rcases down i x hx with⟨a1,a2⟩|⟨a1,a2⟩|⟨a1,a2⟩<;>rcases down k y hy with⟨b1,b2⟩|⟨b1,b2⟩|⟨b1,b2⟩
  .exact T.ri i k x y hik a2 b2
  .rw[b2];exact(hs i x a2).mp a1
  .exact T.ri i (k-1) x y (by lia) a2 b2
  .lia
  .lia
  .rw[a2];have c:¬y<j:=λz=>by
    have:=(hs (k-1) y b2).mpr z;lia
   have d:y≠j:=λz=>noJ _ (z▸b2)
   lia
  .lia
  .lia
  .exact T.ri (i-1) (k-1) x y (by lia) a2 b2
 .intro i x hx;rcases down i x hx with⟨_,a2⟩|⟨_,a2⟩|⟨_,a2⟩
  .exact T.le _ _ a2
  .rw[a2];exact hjm
  .exact T.le _ _ a2
 .exact T.du
 .exact T.fu
 .exact T.od
 .show(insertAt t.place p j).size<=t.mask;rw[oF hb,T.sz];exact room
 .intro i x f hx hf;have gf:=nG hb2 e i;rw[gf]at hf;have old:∀i0:Nat,t.place[i0]?=some x->es[i0]?=some f->∃m,m<10*turns t.mask/\(pr t.mask f.1 m).j=x/\Way { t with place:=insertAt t.place p j } f.1 m:=λi0 u v=>by
   obtain⟨m,c1,c2,c3⟩:=T.rc i0 x f u v;exact⟨m,c1,c2,λm' l=>inUp _ (c3 m' l)⟩
  rcases down i x hx with⟨a1,a2⟩|⟨a1,a2⟩|⟨a1,a2⟩
  .rw[if_pos a1]at hf;exact old i a2 hf
  .rw[if_neg (by lia),if_pos a1]at hf
   cases hf;exact⟨N,hl,by rw[a2];exact hj,λm' l=>inUp _ (hw m' l)⟩
  .rw[if_neg (by lia),if_neg (by lia)]at hf
   exact old (i-1) a2 hf
def nU{m i:Nat}(hi:i<=m):i+(runEnd m i-i)<=m:=by unfold runEnd;split<;>lia
theorem Lg(m:Nat) (h:Int):∀n,(pr m h n).j+(pr m h n).more<=m
 |0=>by have z:bits h%(m+1)<m+1:=X6 (bits h) (Xu m);show bits h%(m+1)+(runEnd m (bits h%(m+1))-bits h%(m+1))<=m;exact nU (by lia)
 |n+1=>by have ih:=Lg m h n;show(pe m (pr m h n)).j+(pe m (pr m h n)).more<=m;unfold pe;split;{dsimp only;lia};dsimp only;have:(leap m (pr m h n).i (pr m h n).perturb).1<m+1:=X6 _ (Xu m);exact nU (by lia)
def DZ(m:Nat) (h:Int) (n:Nat):(pr m h n).j<=m:=by have:=Lg m h n;lia
def heads{m:Nat}(hf:full (m+1)=true) (h:Int){j:Nat}(hj:j<=m):∃k,k<turns m/\(run (m+1) (bits h) k).1=j:=by obtain⟨r,hr,e⟩:=zK hf (xY (b:=bits h) (Xu m) 12) (ZM hj);refine⟨12+r,?_,?_⟩;{unfold turns;lia};rw[v9 (Cw h) (V4 _),e]
abbrev Own:=Array (Option Nat)
def Tk (o:Own) (j:Nat):Prop:=∃k,o[j]?=some (some k)
def zd (m:Nat)(o:Own) (h:Int) (n:Nat):Prop:=∀n',n'<n->Tk o (pr m h n').j
def getD_none{m:Nat}(hs:o.size=m+1){j:Nat}(hj:j<=m):(o.getD j (some 0)).isNone=true↔¬Tk o j:=by
 have g:o[j]?=some o[j]:=WQ (by lia);rw[X8,g];show(o[j]).isNone=true↔_;constructor;{rintro q⟨k,e⟩;rw[g]at e;rw[Option.some.inj e]at q;cases q};intro q;cases z:o[j]with
 |none=>rfl
 |some k=>exact absurd ⟨k,by rw[g,z]⟩ q
theorem xo{m:Nat}{h:Int}(hs:o.size=m+1):∀(fuel k n:Nat),qz m h n k->n<=10*k->zd m o h n->(∃k',k<=k'/\k'<k+fuel/\¬Tk o (run (m+1) (bits h) k').1)->∃N,N<10*(k+fuel)/\layClean.free m o fuel (run (m+1) (bits h) k).1 (run (m+1) (bits h) k).2=some (pr m h N).j/\¬Tk o (pr m h N).j/\zd m o h N
 |0,k,n,_,_,_,⟨k',a,b,_⟩=>by lia
 |fuel+1,k,n,a,hn,hw,⟨k',q1,q2,q3⟩=>by
  have hi:(run (m+1) (bits h) k).1<=m:=by have:=xY (M:=m+1) (b:=bits h) (Xu m) k;lia
  have hre:=nU hi;have hle9:=wZ m (run (m+1) (bits h) k).1;have hge:(run (m+1) (bits h) k).1<=runEnd m (run (m+1) (bits h) k).1:=by unfold runEnd;split<;>lia
  have pos:∀r,r<=runEnd m (run (m+1) (bits h) k).1-(run (m+1) (bits h) k).1->(pr m h (n+r)).j=(run (m+1) (bits h) k).1+r:=λr hr=>by rw[tF a r hr]
  unfold layClean.free;cases f:(List.range (runEnd m (run (m+1) (bits h) k).1+1-(run (m+1) (bits h) k).1)).find? (λk_1=>(o.getD ((run (m+1) (bits h) k).1+k_1) (some 0)).isNone)with
  |some r=>
   obtain⟨p1,i,hi',e1,e2⟩:=List.find?_eq_some_iff_getElem.mp f;rw[List.getElem_range]at e1;subst e1;have hlen:i<runEnd m (run (m+1) (bits h) k).1+1-(run (m+1) (bits h) k).1:=by simpa using hi'
   refine⟨n+i,by lia,?_,?_,λn' l=>?_⟩;{rw[pos i (by lia)]};{rw[pos i (by lia)];exact(getD_none hs (by lia)).mp p1};by_cases c:n'<n;{exact hw n' c};have e3:=e2 (n'-n) (by lia);rw[List.getElem_range]at e3;have e4:(!(o.getD ((run (m+1) (bits h) k).1+(n'-n)) (some 0)).isNone)=true:=e3;have z:¬(o.getD ((run (m+1) (bits h) k).1+(n'-n)) (some 0)).isNone=true:=λq=>by rw[q]at e4;cases e4
   have z2:=λq=>z ((getD_none hs (by lia)).mpr q);have z3:=Classical.not_not.mp z2;rw[show n'=n+(n'-n)by lia,pos (n'-n) (by lia)];exact z3
  |none=>
   have no:∀r,r<=runEnd m (run (m+1) (bits h) k).1-(run (m+1) (bits h) k).1->Tk o ((run (m+1) (bits h) k).1+r):=λr hr=>by have z:=YG.mp f r (VD.mpr (by lia));exact Classical.not_not.mp λq=>z ((getD_none hs (by lia)).mpr q)
   have z:=tF a _ (V4 _);have a':qz m h (n+(runEnd m (run (m+1) (bits h) k).1-(run (m+1) (bits h) k).1)+1) (k+1):=by show pe m (pr m h (n+(runEnd m (run (m+1) (bits h) k).1-(run (m+1) (bits h) k).1)))=_;rw[z];unfold pe;rw[if_neg (show ¬(runEnd m (run (m+1) (bits h) k).1-(run (m+1) (bits h) k).1-(runEnd m (run (m+1) (bits h) k).1-(run (m+1) (bits h) k).1)>0)by lia)];rfl
   have w':zd m o h (n+(runEnd m (run (m+1) (bits h) k).1-(run (m+1) (bits h) k).1)+1):=λn' l=>by by_cases c:n'<n;{exact hw n' c};rw[show n'=n+(n'-n)by lia,pos (n'-n) (by lia)];exact no _ (by lia)
   have later:k+1<=k':=by
    rcases W4 k k' with c|c;{exact c};have e:k'=k:=by lia
    subst e;exact absurd (by simpa using no 0 (W3 _)) q3
   obtain⟨N,c1,c2,c3,c4⟩:=xo hs fuel (k+1) _ a' (by lia) w' ⟨k',later,by lia,q3⟩;exact⟨N,by lia,c2,c3,c4⟩
def bM (o:Own) (M:Nat):Zt:=(List.range M).filterMap λj=>(o.getD j none).map (j,·)
end
structure jZ(m:Nat)(hs:A06)(o:Own):Prop where
 sz:o.size=m+1
 pm:((bM o (m+1)).map (·.2)).Perm (List.range hs.length)
 rc:∀(j k:Nat) (h:Int),o[j]?=some (some k)->hs[k]?=some h->∃n,n<10*turns m/\(pr m h n).j=j/\zd m o h n
 kl:∀j k:Nat,o[j]?=some (some k)->k<hs.length
def rC{M j:Nat}(hj:j<M):List.range M=List.range j++j::List.range' (j+1) (M-j-1):=by rw[ZP,ZP,show(j::List.range' (j+1) (M-j-1))=List.range' j (M-j-1+1)from rfl];have e:=List.range'_append (s:=0) (m:=j) (n:=M-j-1+1) (step:=1);rw[Nat.one_mul,YF]at e;rw[e,show j+(M-j-1+1)=M by lia]
def rT{o:Own}{j x:Nat}(hj:j<o.size):(o.setIfInBounds j v).getD x none=if x=j then v else o.getD x none:=by rw[X8,X8,ZQ];by_cases e:j=x;{subst e;rw[if_pos rfl,if_pos hj,if_pos rfl];rfl};rw[if_neg e,if_neg (λz=>e z.symm)]
theorem sj{f g:Nat->Option (Nat×Nat)}:∀{l:A05},(∀x∈l,f x=g x)->l.filterMap f=l.filterMap g
 |[],_=>rfl
 |a::r,h=>by rw[WR,WR,h a V3,sj λx hx=>h x (V8 _ hx)]
def JN{m j k:Nat}(hs:o.size=m+1)(hj:j<=m)(hn:¬Tk o j):∃A B,bM o (m+1)=A++B/\bM (o.setIfInBounds j (some k)) (m+1)=A++(j,k)::B:=by
 have hnone:o.getD j none=none:=by
  have g:o[j]?=some o[j]:=WQ (by lia);rw[X8,g];show o[j]=none;cases z:o[j]with
  |none=>rfl
  |some k=>exact absurd ⟨k,by rw[g,z]⟩ hn
 refine⟨(List.range j).filterMap λx=>(o.getD x none).map (x,·),(List.range' (j+1) (m+1-j-1)).filterMap λx=>(o.getD x none).map (x,·),?_,?_⟩;{unfold bM;rw[rC (M:=m+1) (j:=j) (by lia),YH,WR,hnone];rfl};unfold bM;rw[rC (M:=m+1) (j:=j) (by lia),YH,WR,rT (by lia),if_pos rfl];show _++(j,k)::_=_;congr 1;{refine sj λx hx=>?_;have:=VD.mp hx;rw[rT (by lia),if_neg (by lia)]};congr 1;refine sj λx hx=>?_;have:=(List.mem_range'_1.mp hx).1;rw[rT (by lia),if_neg (by lia)]
def GK{j k x:Nat}(h:Tk o x)(hn:¬Tk o j):Tk (o.setIfInBounds j (some k)) x:=by obtain⟨k',e⟩:=h;refine⟨k',?_⟩;have ne:j≠x:=λz=>hn ⟨k',by rw[z];exact e⟩;rw[ZQ,if_neg ne];exact e
def jZ.more{m:Nat}{h:Int}{N:Nat}(O:jZ m hs o)(hl:N<10*turns m)(hn:¬Tk o (pr m h N).j)(hw:zd m o h N):jZ m (hs++[h]) (o.setIfInBounds (pr m h N).j (some hs.length)):=by
 have hj:=DZ m h N;have hjs:(pr m h N).j<o.size:=by rw[O.sz];lia
 have set:∀x,(o.setIfInBounds (pr m h N).j (some hs.length))[x]?=if(pr m h N).j=x then some (some hs.length)else o[x]?:=λx=>by rw[ZQ];by_cases e:(pr m h N).j=x;{rw[if_pos e,if_pos hjs,if_pos e]};rw[if_neg e,if_neg e]
 refine⟨by rw[Array.size_setIfInBounds,O.sz],?_,λj k g hk hg=>?_,λj k hk=>?_⟩;{obtain⟨A,B,e1,e2⟩:=JN (k:=hs.length) O.sz hj hn;have p:=O.pm;rw[e1,VJ]at p;rw[e2,VJ,VP,VI,YD,Wc];exact(List.perm_middle.trans (List.Perm.cons _ p)).trans (List.perm_append_singleton _ _).symm};{rw[set]at hk;by_cases e:(pr m h N).j=j;{rw[if_pos e]at hk;cases hk;rw[Xd (V4 _),Nat.sub_self]at hg;cases hg;exact⟨N,hl,e,λn' l=>GK (hw n' l) hn⟩};rw[if_neg e]at hk;have kl:=O.kl j k hk;rw[XJ kl]at hg;obtain⟨n,c1,c2,c3⟩:=O.rc j k g hk hg;exact⟨n,c1,c2,λn' l=>GK (c3 n' l) hn⟩};rw[VI,YD];rw[set]at hk;by_cases e:(pr m h N).j=j;{rw[if_pos e]at hk;cases hk;lia};rw[if_neg e]at hk;have:=O.kl j k hk;lia
theorem Fx{f:Nat->Option (Nat×Nat)}:∀{l:A05},(∀x∈l,∃y,f x=some y)->(l.filterMap f).length=l.length
 |[],_=>rfl
 |a::r,h=>by obtain⟨y,e⟩:=h a V3;rw[WR,e];show((r.filterMap f).length+1)=r.length+1;rw[Fx λx hx=>h x (V8 _ hx)]
def mQ{o:Own}{j k:Nat}:o.getD j none=some k↔o[j]?=some (some k):=by
 rw[X8];cases z:o[j]? with
 |none=>exact⟨λq=>(nomatch q),λq=>(nomatch q)⟩
 |some v=>exact⟨λq=>congrArg some q,λq=>Option.some.inj q⟩
def jZ.room{m:Nat}{hs:A06}(O:jZ m hs o)(hl:hs.length<=m):∃j,j<=m/\¬Tk o j:=by
 refine Wn λno=>?_;have all:∀j,j<=m->Tk o j:=λj hj=>Wn λq=>no ⟨j,hj,q⟩;have e:=O.pm.length_eq;rw[V2,V9]at e;unfold bM at e;rw[Fx (λx hx=>by
  obtain⟨k,hk⟩:=all x (by have:=VD.mp hx;lia)
  exact⟨(x,k),by rw[mQ.mpr hk];rfl⟩),V9]at e
 lia
def qM (m:Nat)(acc:Option (Own×Nat)) (h:Int):Option (Own×Nat):=do
 let (owner,k) <-acc
 let j <-layClean.free m owner (turns m) (bits h%(m+1)) (bits h)
 pure (owner.setIfInBounds j (some k),k+1)
theorem zh{m:Nat}(hf:full (m+1)=true):∀(hs2 hs1:A06)(o:Own),jZ m hs1 o->hs1.length+hs2.length<=m->∃o',hs2.foldl (qM m) (some (o,hs1.length))=some (o',(hs1++hs2).length)/\jZ m (hs1++hs2) o'
 |[],hs1,o,O,_=>⟨o,by rw[WO];rfl,by rw[WO];exact O⟩
 |h::r,hs1,o,O,hl=>by
  rw[VR]at hl;obtain⟨j0,hj0,n0⟩:=O.room (by lia);obtain⟨k',hk',e'⟩:=heads hf h hj0;obtain⟨N,c1,c2,c3,c4⟩:=xo (h:=h) O.sz (turns m) 0 0 rfl (V4 _) (λ_ l=>absurd l (WX _)) ⟨k',W3 _,by lia,by rw[e'];exact n0⟩;have O2:=O.more (by lia) c3 c4;obtain⟨o',e1,O3⟩:=zh hf r (hs1++[h]) _ O2 (by rw[VI,YD];lia);have st:qM m (some (o,hs1.length)) h=some (o.setIfInBounds (pr m h N).j (some hs1.length),hs1.length+1):=by show(layClean.free m o (turns m) (bits h%(m+1)) (bits h)).bind _=_;have c2:layClean.free m o (turns m) (bits h%(m+1)) (bits h)=some (pr m h N).j:=c2;rw[c2];rfl
  rw[Wv]at e1 O3;refine⟨o',?_,O3⟩;rw[List.foldl_cons,st];rw[VI,YD]at e1;exact e1
def rP{n j:Nat}:(Array.replicate n (none:Option Nat)).getD j none=none:=by rw[X8,Array.getElem?_replicate];split<;>rfl
def HC(m:Nat):jZ m [] (Array.replicate (m+1) none):=by
 refine⟨by rw[Array.size_replicate],?_,λj k h hk=>?_,λj k hk=>?_⟩
 .have e:bM (Array.replicate (m+1) none) (m+1)=[]:=by unfold bM;rw[List.filterMap_eq_nil_iff];intro x _;rw[rP];rfl
  rw[e];exact List.Perm.refl _
 .have:=mQ.mpr hk;rw[rP]at this;cases this
 have:=mQ.mpr hk;rw[rP]at this;cases this
def AA{m:Nat}(hf:full (m+1)=true)(hl:hs.size<=m):∃o,layClean m hs=some o/\jZ m hs.toList o:=by obtain⟨o,e,O⟩:=zh hf hs.toList [] _ (HC m) (by simpa using hl);refine⟨o,?_,O⟩;have e2:layClean m hs=(hs.foldl (qM m) (some (Array.replicate (m+1) none,0))).map (·.1):=rfl;have e:hs.toList.foldl (qM m) (some (Array.replicate (m+1) none,0))=some (o,([]++hs.toList).length):=e;rw[e2,<-Array.foldl_toList,e];rfl
def sY{o:Own}{M j k:Nat}:(j,k)∈bM o M↔j<M/\o[j]?=some (some k):=by
 unfold bM;rw[YZ];constructor
 .rintro⟨x,hx,e⟩;cases z:o.getD x none with
  |none=>rw[z]at e;cases e
  |some k'=>rw[z]at e;cases e;exact⟨VD.mp hx,mQ.mp z⟩
 rintro⟨h1,h2⟩;exact⟨j,VD.mpr h1,by rw[mQ.mpr h2];rfl⟩
theorem r9{o:Own}:∀(l:A05),((l.filterMap λj=>(o.getD j none).map (j,·)).map (·.1))=l.filter λj=>(o.getD j none).isSome
 |[]=>rfl
 |a::r=>by
  rw[WR,List.filter_cons];cases z:o.getD a none with
  |none=>exact r9 r
  |some k=>show a::_=a::_;rw[<-r9 r]
def Ey(o:Own) (M:Nat):jH ((bM o M).map (·.1)).toArray:=by
 intro i k x y hik hx hy;have p:((bM o M).map (·.1)).Pairwise (·<·):=by unfold bM;rw[r9];exact(List.pairwise_lt_range).filter _
 rw[ZR]at hx hy;obtain⟨h1,e1⟩:=Wj.mp hx;obtain⟨h2,e2⟩:=Wj.mp hy;rw[<-e1,<-e2];exact ZS.mp p i k h1 h2 hik
theorem Fb{α β:Type}{f:α->Option β}{g:α->β}:∀{l:List α},(∀x∈l,f x=some (g x))->l.filterMap f=l.map g
 |[],_=>rfl
 |a::r,h=>by rw[WR,h a V3,VP,Fb λx hx=>h x (V8 _ hx)]
def Jd{t:SetTable}{es:Array Ent}{wanted:Nat}(hf:full (sizeAbove wanted-1+1)=true)(ho:(sizeAbove wanted-1)%2=1)(hl:es.size<=sizeAbove wanted-1) : ∃es' t',relayAll t es wanted=(es',t',false)/\TB t' es'/\es'.toList.Perm es.toList/\t'.led=t.led/\t'.plain=t.plain/\t'.mask=sizeAbove wanted-1:=by
 obtain⟨o,e,O⟩:=AA hf (hs:=es.map (·.1)) (by simpa using hl);generalize hm:sizeAbove wanted-1=m at *;have hn:(es.map (·.1)).toList.length=es.size:=by simp
 have pm:=O.pm;rw[hn]at pm;have order_lt:∀k∈(bM o (m+1)).map (·.2),k<es.size:=λk hk=>VD.mp (pm.mem_iff.mp hk);have hg:∀k∈(bM o (m+1)).map (·.2),es[k]?=some (es.getD k (0,.none)):=λk hk=>by have:=order_lt k hk;rw[X8,WQ this];rfl
 have esL:(((bM o (m+1)).map (·.2)).toArray.filterMap (es[·]?)).toList=((bM o (m+1)).map (·.2)).map λk=>es.getD k (0,.none):=by rw[Array.toList_filterMap];exact Fb hg
 have len:(bM o (m+1)).length=es.size:=by have:=pm.length_eq;rw[V2,V9]at this;exact this
 have es'sz:(((bM o (m+1)).map (·.2)).toArray.filterMap (es[·]?)).size=es.size:=by rw[<-Wa,esL,V2,V2,len]
 have rel:t.relaid (es.map (·.1)) wanted=some ({ mask:=m,place:=((bM o (m+1)).map (·.1)).toArray,dummies:=#[],finger:=t.finger,led:=t.led,moves:=t.movedTo m,plain:=t.plain },((bM o (m+1)).map (·.2)).toArray):=by unfold relaid laid;rw[hm];show(layClean m (es.map (·.1))).bind _=_;rw[e];rfl
 have psz:((bM o (m+1)).map (·.1)).toArray.size=es.size:=by rw[VM,V2,len]
 have T:TB { mask:=m,place:=((bM o (m+1)).map (·.1)).toArray,dummies:=#[],finger:=t.finger,led:=t.led,moves:=t.movedTo m,plain:=t.plain } (((bM o (m+1)).map (·.2)).toArray.filterMap (es[·]?)):=by
  have at_:∀(i j:Nat),((bM o (m+1)).map (·.1)).toArray[i]?=some j->∃k,(bM o (m+1))[i]?=some (j,k):=λi j h=>by
   rw[ZR,VA]at h;cases z:(bM o (m+1))[i]? with
   |none=>rw[z]at h;cases h
   |some p=>rw[z]at h;obtain⟨a,b⟩:=p;cases h;exact⟨b,rfl⟩
  have inj:∀j k:Nat,o[j]?=some (some k)->j<=m->In { mask:=m,place:=((bM o (m+1)).map (·.1)).toArray,dummies:=#[],finger:=t.finger,led:=t.led,moves:=t.movedTo m,plain:=t.plain } j:=λj k h hj=>by obtain⟨i,hi⟩:=W6 (sY.mpr ⟨ZM hj,h⟩);refine⟨i,?_⟩;show((bM o (m+1)).map (·.1)).toArray[i]?=some j;rw[ZR,VA,hi];rfl
  refine⟨by rw[es'sz];exact psz,Ey o (m+1),λi j h=>?_,rfl,hf,ho,by show _<=m;rw[psz];exact hl,λi j f h hf'=>?_⟩;{obtain⟨k,hk⟩:=at_ i j h;have:=(sY.mp (VV hk)).1;show j<=m;lia};obtain⟨k,hk⟩:=at_ i j h;have mem:=sY.mp (VV hk);have f1:(((bM o (m+1)).map (·.2)).toArray.filterMap (es[·]?)).toList[i]?=some f:=by rw[WK];exact hf'
  rw[esL,VA,VA,hk]at f1;have f2:es.getD k (0,.none)=f:=Option.some.inj f1;have BZ:k∈(bM o (m+1)).map (·.2):=V5.mpr ⟨_,VV hk,rfl⟩;have f3:=hg k BZ;rw[f2]at f3;have f4:(es.map (·.1)).toList[k]?=some f.1:=by rw[WK,Array.getElem?_map,f3];rfl
  obtain⟨n,c1,c2,c3⟩:=O.rc j k f.1 mem.2 f4;refine⟨n,c1,c2,λn' l=>?_⟩;obtain⟨k',z⟩:=c3 n' l;exact inj _ k' z (DZ m f.1 n')
 refine⟨_,_,?_,T,?_,rfl,rfl,rfl⟩;{unfold relayAll;rw[rel];dsimp only;rw[if_pos];rw[VB];refine⟨?_,T.fits⟩;unfold coversAll;exact List.isPerm_iff.mpr pm};rw[esL];have p2:=pm.map λk=>es.getD k (0,.none);refine p2.trans (List.Perm.of_eq ?_);refine W8 λi=>?_;rw[VA];by_cases q:i<es.size;{rw[VN q,WK,WQ q];show some (es.getD i (0,.none))=_;rw[X8,WQ q];rfl};rw[VZ (by rw[V9];lia),WK,ZO (by lia)];rfl
def MT:full 16=true:=by decide+kernel
def L3:full 64=true:=by decide+kernel
def Ip:full 256=true:=by decide+kernel
def AL:∀n,n<=127->[8,16,32,64,128,256,512].contains (sizeAbove (grown n))=true/\n<sizeAbove (grown n):=by decide+kernel
def L0{n:Nat}(hn:n<=127):full (sizeAbove (grown n)-1+1)=true/\(sizeAbove (grown n)-1)%2=1/\n<=sizeAbove (grown n)-1:=by
 obtain⟨h1,h2⟩:=AL n hn;generalize sizeAbove (grown n)=z at *;have:z=8\/z=16\/z=32\/z=64\/z=128\/z=256\/z=512:=by simpa using h1
 rcases this with rfl|rfl|rfl|rfl|rfl|rfl|rfl;{exact⟨Gm,rfl,by lia⟩};{exact⟨MT,rfl,by lia⟩};{exact⟨LD,rfl,by lia⟩};{exact⟨L3,rfl,by lia⟩};{exact⟨II,rfl,by lia⟩};{exact⟨Ip,rfl,by lia⟩};exact⟨Jt,rfl,by lia⟩
variable{prog:Program}{w:World}{K:Type}[DecidableEq K]{knd:KeyKind prog w K}{A:Around}{E:Zn}{s:Shared}
def rB(n:Nat)(h:carriedByValue v=true):ofAClassStatement n v=pure false:=by
 cases v with
 |ref a=>exact absurd (show false=true from h) VQ
 |_=>simp only[ofAClassStatement]
variable[DecidableEq K]{t:SetTable}{es:Array Ent}
def TB.before(T:TB t es){h:Int}{N:Nat}(hN:¬In t (pr t.mask h N).j)(hw:Way t h N){i:Nat}(he:es[i]?=some e)(eh:e.1=h):∃n,n<N/\t.place[i]?=some (pr t.mask h n).j:=by
 have hi:i<t.place.size:=by rw[T.sz];exact nv he
 have hp:t.place[i]?=some t.place[i]:=WQ hi;obtain⟨n,_,e1,e2⟩:=T.rc i _ e hp he;rw[eh]at e1 e2;refine⟨n,?_,by rw[hp,e1]⟩;rcases Xh n N with z|z|z;{exact z};{subst z;exact absurd ⟨i,by rw[hp,e1]⟩ hN};exact absurd (e2 N z) hN
def qd(n:Nat)(h:carriedByValue v=true):∃c,hashByValue n v=pure c:=by
 cases v with
 |ref a=>exact absurd (show false=true from h) VQ
 |none=>exact⟨_,hashByValue.eq_1 n⟩
 |bool b=>exact⟨_,hashByValue.eq_2 n b⟩
 |int i t=>exact⟨_,hashByValue.eq_3 n i t⟩
 |float b t=>exact⟨_,hashByValue.eq_4 n b t⟩
 |str x t=>exact⟨_,hashByValue.eq_5 n x t⟩
 |bytes x t=>exact⟨_,hashByValue.eq_6 n x t⟩
 |ellipsis=>exact⟨_,hashByValue.eq_7 n⟩
 |notImplemented=>exact⟨_,hashByValue.eq_8 n⟩
 |type x=>exact⟨_,hashByValue.eq_9 n x⟩
 |builtin x=>exact⟨_,hashByValue.eq_10 n x⟩
def Hy{wanted:Nat}(hf:full (sizeAbove wanted-1+1)=true)(ho:(sizeAbove wanted-1)%2=1)(hl:es.size<=sizeAbove wanted-1) : ∃t' ord,t.relaid (es.map (λx=>x.fst)) wanted=some (t',ord)/\TB t' (ord.filterMap (es[·]?))/\(ord.filterMap (es[·]?)).toList.Perm es.toList/\t'.mask=sizeAbove wanted-1:=by
 obtain⟨es',t',e,T,p,_,_,m⟩:=Jd (t:=t) hf ho hl;unfold relayAll at e;cases z:t.relaid (es.map (λx=>x.fst)) wanted with
 |none=>rw[z]at e;dsimp only at e;injection e with _ e;injection e with _ e;cases e
 |some p'=>obtain⟨t2,ord⟩:=p';rw[z]at e;dsimp only at e;split at e;{injection e with e1 e;injection e with e2 _;subst e1;subst e2;exact⟨t2,ord,rfl,T,p,m⟩};injection e with _ e;injection e with _ e;cases e
def JT{a:Addr}{ep wanted:Nat}(ha:s.heap.get? a=some o)(hd:o.data=.set es ep t)(fit:t.fits es.size=true)(hf:full (sizeAbove wanted-1+1)=true)(ho:(sizeAbove wanted-1)%2=1)(hl:es.size<=sizeAbove wanted-1)(hz:sizeAbove wanted<=sizeLine)(q:∀t' es',TB t' es'->es'.toList.Perm es.toList->t'.mask=sizeAbove wanted-1->Q () { s with heap:=s.heap.update a (Obj.putSet es' t') }):wpAny (model prog w) A (setRelay a wanted) Q E s:=by
 unfold setRelay;refine V0 (XR ha hd fit ?_);dsimp only;rw[if_neg (by lia)];obtain⟨t',ord,e,T,p,m⟩:=Hy (t:=t) (es:=es) hf ho hl;rw[e];have sz:(ord.filterMap (es[·]?)).size=es.size:=by have z:=p.length_eq;rw[Wa,Wa]at z;exact z
 have go:∀{m0:Sem (Array Ent×SetTable)}{f:Array Ent×SetTable->Sem Unit}{Q':Unit->Shared->Prop},wpAny (model prog w) A (f (ord.filterMap (es[·]?),t')) Q' E s->wpAny (model prog w) A ((if((ord.filterMap (es[·]?)).size != es.size)=true then m0 else pure (ord.filterMap (es[·]?),t'))>>=f) Q' E s:=λh=>by rw[if_neg (by rw[sz];simp)];exact V0 (V1 h)
 refine go (f:=λx=>storeSet a x.fst x.snd) ?_;dsimp only;refine wpAny_storeSet_of ha hd (q _ _ T p m) ?_;have:=hl;lia
def TB.pl(T:TB t es)(c:Bool):TB { t with plain:=c } es:=⟨T.sz,T.ri,T.le,T.du,T.fu,T.od,T.nf,T.rc⟩
def Fp:∀n,n<=127->n*5<(sizeAbove (grown n)-1)*3/\sizeAbove (grown n)<=512:=by decide+kernel
end SM
namespace L2
open PySem PySem.Spec PyProof.Rows
variable{X:Cx}
theorem uW:∀{xs:List V}{us:A00},Vals xs us->∀(i:Nat)(u:Value),us[i]?=some u->∃x,xs[i]?=some x/\RelV x u
 |_,_,.nil,i,u,h=>by cases h
 |_,_,.cons h r,0,u,e=>by cases e;exact⟨_,rfl,h⟩
 |_,_,.cons h r,i+1,u,e=>uW r i u e
end L2
namespace L2
open PySem PySem.Spec PyProof.Rows PySem.SeqAt PySem.W
mutual
inductive jQ(K:Zv)(H:Hp):V->PyData->Prop
 |aW:jQ K H .aW .none
 |bl (b:Bool):jQ K H (.bl b) (.bool b)
 |int (i:Int):jQ K H (.int i) (.int i)
 |str (x:Str):jQ K H (.str x) (.str x)
 |lst {a:Addr}{xs:List V}{ds:Zy}:bH K H a xs->mq K H xs ds->jQ K H (.ref a) (.list ds)
 |tup {a:Addr}{xs:List V}{ds:Zy}:bR K H a xs->mq K H xs ds->jQ K H (.ref a) (.tuple ds)
inductive mq(K:Zv)(H:Hp):List V->Zy->Prop
 |nil:mq K H [] []
 |cons {x:V}{d:PyData}{xs:List V}{ds:Zy}:jQ K H x d->mq K H xs ds->mq K H (x::xs) (d::ds)
end
section
variable{X:Cx}{pins:Zq}{U:St}{H:Hp}{s:Shared}
mutual
theorem Inv.reads(I:Inv X pins U H s):∀{v:V}{d:PyData}{u:Value},jQ X.K H v d->RelV v u->∃as,Reads s.heap u d as
 |_,_,_,.aW,r=>by cases r;exact⟨_,.none⟩
 |_,_,_,.bl b,r=>by cases r;exact⟨_,.bool b⟩
 |_,_,_,.int i,r=>by obtain⟨t,rfl⟩:=r;exact⟨_,.int i t⟩
 |_,_,_,.str x,r=>by obtain⟨t,rfl⟩:=r;exact⟨_,.str x t⟩
 |_,_,_,.lst hq hs,r=>by cases r;obtain⟨its,rv,p,_⟩:=I.list hq;obtain⟨as,ra⟩:=I.readsAll hs rv;obtain⟨o,ho,hc,n,hd⟩:=p.isList;exact⟨_,.list ho hc hd (by simpa using ra)⟩
 |_,_,_,.tup hq hs,r=>by cases r;obtain⟨its,rv,p,_⟩:=I.tuple hq;obtain⟨as,ra⟩:=I.readsAll hs rv;obtain⟨o,ho,hc,n,hd⟩:=(show s.heap.IsTuple _ its.toArray from p);exact⟨_,.tuple ho hc hd (by simpa using ra)⟩
theorem Inv.readsAll(I:Inv X pins U H s):∀{vs:List V}{ds:Zy}{us:A00},mq X.K H vs ds->Vals vs us->∃as,ReadsAll s.heap us ds as
 |_,_,_,.nil,r=>by cases r;exact⟨_,.nil⟩
 |_,_,_,.cons h hs,r=>by
  cases r with
  |cons r1 r2=>obtain⟨as,ra⟩:=I.reads h r1;obtain⟨bs,rb⟩:=I.readsAll hs r2;exact⟨_,.cons ra rb⟩
end
inductive Kc(K:Zv)(neg:Bool) (x:V) (y:V)(H:Hp)(Q:VK):Prop
 |mk:∀d e,(jQ K H x d)->(jQ K H y e)->(shaped d=true)->(shaped e=true)->(noMix d e=true)->(Q (.bl (if neg then !same d e else same d e)) H)->Kc K neg x y H Q
def Je (K:Zv)(neg:Bool):R2:=λx y H Q=>Kc K neg x y H Q
def Qm(hu:X.A.units+64<cLine):bE X (compareOp .Eq) (Je X.K false):=by intro pins s U H x y v u Q I rx ry h;obtain⟨d,e,h1,h2,s1,s2,nm,q⟩:=h;obtain⟨as,ra⟩:=I.reads h1 rx;obtain⟨bs,rb⟩:=I.reads h2 ry;exact eq_dataH_same ra rb s1 s2 hu nm ⟨.bl _,H,I,rfl,q⟩
def OG(hu:X.A.units+64<cLine):bE X (compareOp .NotEq) (Je X.K true):=by intro pins s U H x y v u Q I rx ry h;obtain⟨d,e,h1,h2,s1,s2,nm,q⟩:=h;obtain⟨as,ra⟩:=I.reads h1 rx;obtain⟨bs,rb⟩:=I.reads h2 ry;exact ne_dataH_same ra rb s1 s2 hu nm ⟨.bl _,H,I,rfl,q⟩
end
end L2
namespace L2
open PySem PySem.Spec PyProof.Rows PySem.W Builtin Builtin.ObjectAttr
variable{X:Cx}{pins:Zq}{U:St}{H:Hp}{s:Shared}{a C:Addr}{dd:Zz}
def Il:b8 X (.builtin "isinstance") (λxs H Q=>∃x c t b,xs=[x,c]/\gG X.K H x t/\(∀u,RelV c u->kitOne X.K t u=some b)/\Q (.bl b) H):=by intro pins s U H xs us Q I r h;obtain⟨x,c,t,b,rfl,ty,k,q⟩:=h;obtain⟨u1,u2,rfl,ru1,ru2⟩:=r.two;exact ES I ru1 ty (k u2 ru2) λtk=>⟨.bl b,H,I.tok tk,rfl,q⟩
variable{o e value:Expr}{f y:Str}{pos pos' yp apos:Pos}{ta tv:TE}{es:A03}{t:TA}
end L2
namespace L2
open PySem PySem.Spec PyProof.Rows
def bQ{a:Addr}(h:H a=none):ah H (upd H a o):=λb u e=>by rw[ai (gr e h)];exact e
end L2
namespace SM
open PySem PySem.SetTable
abbrev Ty:=Int ⊕ (Int×Int)
instance Vq (k:Ty×Ty)(l:List (Ty×Ty)):Decidable (k∈l):=@List.instDecidableMemOfLawfulBEq _ instBEqOfDecidableEq inferInstance k l
@[irreducible] def tyH (k:Ty):Int:=match k with
 |.inl n=>hashInt (n:Int)
 |.inr e=>reduceHash (Builtin.Tuple.tupleHashOf [hashInt (e.1:Int),hashInt (e.2:Int)])
@[irreducible] def pH (k:Ty×Ty):Int:=reduceHash (Builtin.Tuple.tupleHashOf [tyH k.1,tyH k.2])
abbrev DL (bs:List (Addr×(Ty×Ty))):List Ent:=bs.map λq=>(pH q.2,Value.ref q.1)
structure SQ(o:Obj)(bs:List (Addr×(Ty×Ty))):Prop where
 ex:o.ExactSet
 tb:∃es ep t,o.data=.set es ep t/\TB t es/\es.size*5<t.mask*3/\t.mask<=511/\es.toList.Perm (DL bs)
end SM
namespace L2
open PySem PySem.Spec PyProof.Rows SM
def wJ (H:Hp)(k:Ty) (v:V):Prop:=match k with
 |.inl n=>v=.int (n:Int)
 |.inr e=>∃c,v=.ref c/\H c=some (.tup [.int (e.1:Int),.int (e.2:Int)])
inductive cR(H:Hp)(k:Ty×Ty)(b:Addr):Prop
 |mk {u v:V}:H b=some (.tup [u,v])->wJ H k.1 u->wJ H k.2 v->cR H k b
abbrev K4:=List (Addr×(Ty×Ty))
abbrev nu:=List ((Ty×Ty)×Addr×Addr)
def jV (a:Addr)(bs:K4):HO:=.ext λh=>∃o,h.get? a=some o/\SQ o bs
def Uq (x:(Ty×Ty)×Addr×Addr):DictEntry:={ hash:=pH x.1,key:=.ref x.2.1,val:=.ref x.2.2 }
structure sF(o:Obj)(xs:nu):Prop where
 ex:o.ExactDict
 da:∃es ep,o.data=.dict es ep/\es.toList=xs.map Uq
 nd:(xs.map (·.1)).Nodup
def q8 (a:Addr)(xs:nu):HO:=.ext λh=>(a==sysModules)=false/\∃o,h.get? a=some o/\sF o xs
variable{H H':Hp}
def wJ.mono(s:∀b xs,H b=some (.tup xs)->H' b=some (.tup xs))(h:wJ H k v):wJ H' k v:=by
 cases k with
 |inl n=>exact h
 |inr e=>obtain⟨c,rfl,hc⟩:=h;exact⟨c,rfl,s _ _ hc⟩
theorem cR.mono(s:∀b xs,H b=some (.tup xs)->H' b=some (.tup xs))(h:cR H k b):cR H' k b:=by cases h with|mk h1 h2 h3=>exact .mk (s _ _ h1) (h2.mono s) (h3.mono s)
end L2
namespace Dv
open PySem L2 PySem.W
def bF:Key->PyData
 |.inl i=>.int i
 |.inr x=>.str x
def jW:SM.Ty->PyData
 |.inl n=>.int (n:Int)
 |.inr e=>.tuple [.int (e.1:Int),.int (e.2:Int)]
def fQ (k:SM.Ty×SM.Ty):PyData:=.tuple [jW k.1,jW k.2]
def bW (K:Frag)(H:Hp)(a:Addr)(xs:List V):Prop:=Rd H a (.lst xs)\/∃(its:A00) (n:Nat),K.lookup a=some { cls:=.type "list",data:=.seq its.toArray n }/\its.length<=sizeLine/\Vals xs its
def Rd.mono{a:Addr}(s:ah H H'):Rd H a u->Rd H' a u
 |.inl h=>.inl (s _ _ h)
 |.inr ⟨o,h⟩=>.inr ⟨o,s _ _ h⟩
theorem bW.mono{a:Addr}(s:ah H H'):bW K H a xs->bW K H' a xs
 |.inl h=>.inl (Rd.mono s h)
 |.inr h=>.inr h
def bW.sq{a:Addr}(h:bW K H a xs):bH K H a xs:=by rcases h with h|⟨its,n,hk,hl,r⟩;{exact .inl h};exact .inr ⟨_,its.toArray,n,hk,rfl,rfl,rfl,by rw[VM];exact hl,by simpa using r⟩
theorem bW.get{a:Addr}(I:L2.Inv X pins U H s)(h:bW X.K H a xs):xs.length<=sizeLine/\∃its n,Vals xs its/\s.heap.get? a=some { cls:=.type "list",data:=.seq its.toArray n }:=by rcases h with h|⟨its,n,hk,hl,r⟩;{obtain⟨z,its,n,r,e⟩:=h.ok I.hok;exact⟨z,its,n,r,e⟩};exact⟨by rw[r.length];exact hl,its,n,r,I.iA a _ hk⟩
mutual
inductive Rp(K:Frag)(H:Hp):V->PyData->Prop
 |aW:Rp K H .aW .none
 |bl (b:Bool):Rp K H (.bl b) (.bool b)
 |int (i:Int):Rp K H (.int i) (.int i)
 |str (x:Str):Rp K H (.str x) (.str x)
 |lst {a:Addr}{xs:List V}{ds:Zy}:bW K H a xs->ay K H xs ds->Rp K H (.ref a) (.list ds)
 |tup {a:Addr}{xs:List V}{ds:Zy}:H a=some (.tup xs)->ay K H xs ds->Rp K H (.ref a) (.tuple ds)
 |dk {a:Addr}{kvs:List (Key×V)}{ds:Zl}:H a=some (.dK kvs)->eV K H kvs ds->Rp K H (.ref a) (.dict ds)
 |dt {a:Addr}{kvs:List (List Key×V)}{ds:Zl}:H a=some (.dT kvs)->d8 K H kvs ds->Rp K H (.ref a) (.dict ((.none,.none)::ds))
 |exc {a C:Addr}{c:Str}:H a=some (.ext (m6 a C none))->nsIn K mainGlobals c=some (some (.ref C))->Rp K H (.ref a) (.dict [(.none,.str c)])
 |pd {a:Addr}{xs:nu}{ds:Zy}:H a=some (q8 a xs)->(∀x∈xs,cR H x.1 x.2.1)->ay K H (xs.map λx=>.ref x.2.2) ds->Rp K H (.ref a) (.dict ((.none,.int 0)::(xs.map λx=>fQ x.1).zip ds))
inductive ay(K:Frag)(H:Hp):List V->Zy->Prop
 |nil:ay K H [] []
 |cons {x:V}{d:PyData}{xs:List V}{ds:Zy}:Rp K H x d->ay K H xs ds->ay K H (x::xs) (d::ds)
inductive eV(K:Frag)(H:Hp):List (Key×V)->List (PyData×PyData)->Prop
 |nil:eV K H [] []
 |cons {k:Key}{v:V}{d:PyData}{kvs:List (Key×V)}{ds:Zl}:Rp K H v d->eV K H kvs ds->eV K H ((k,v)::kvs) ((bF k,d)::ds)
inductive d8(K:Frag)(H:Hp):List (List Key×V)->List (PyData×PyData)->Prop
 |nil:d8 K H [] []
 |cons {k:List Key}{v:V}{d:PyData}{kvs:List (List Key×V)}{ds:Zl}:Rp K H v d->d8 K H kvs ds->d8 K H ((k,v)::kvs) ((.tuple (k.map bF),d)::ds)
end
theorem Rp.mono(s:ah H H')(h:Rp K H v d):Rp K H' v d:=Rp.rec (motive_1:=λv d _=>Rp K H' v d) (motive_2:=λvs ds _=>ay K H' vs ds) (motive_3:=λa b _=>eV K H' a b) (motive_4:=λa b _=>d8 K H' a b) .aW .bl .int .str (λh _ ih=>.lst (bW.mono s h) ih) (λh _ ih=>.tup (s _ _ h) ih) (λh _ ih=>.dk (s _ _ h) ih) (λh _ ih=>.dt (s _ _ h) ih) (λh n=>.exc (s _ _ h) n) (λh k _ ih=>.pd (s _ _ h) (λx hx=>(k x hx).mono λb xs e=>s _ _ e) ih) .nil (λ_ _ a b=>.cons a b) .nil (λ_ _ a b=>.cons a b) .nil (λ_ _ a b=>.cons a b) h
theorem ay.mono(s:ah H H')(h:ay K H vs ds):ay K H' vs ds:=by
 induction ds generalizing vs with
 |nil=>cases h;exact .nil
 |cons d ds ih=>cases h with|cons a b=>exact .cons (a.mono s) (ih b)
theorem eV.mono(s:ah H H')(h:eV K H kvs ds):eV K H' kvs ds:=by
 induction kvs generalizing ds with
 |nil=>cases h;exact .nil
 |cons d kvs ih=>cases h with|cons a b=>exact .cons (a.mono s) (ih b)
theorem d8.mono(s:ah H H')(h:d8 K H kvs ds):d8 K H' kvs ds:=by
 induction kvs generalizing ds with
 |nil=>cases h;exact .nil
 |cons d kvs ih=>cases h with|cons a b=>exact .cons (a.mono s) (ih b)
def nd:PyData->Bool
 |.list ds=>nds ds
 |.tuple ds=>nds ds
 |.dict _=>false
 |_=>true
where nds:Zy->Bool
 |[]=>true
 |d::ds=>nd d&&nds ds
def Rp.qT(h:Rp K H v d):nd d=true->jQ K H v d:=
 Rp.rec (motive_1:=λv d _=>nd d=true->jQ K H v d) (motive_2:=λvs ds _=>nd.nds ds=true->mq K H vs ds) (motive_3:=λ_ _ _=>True) (motive_4:=λ_ _ _=>True)
  (λ_=>.aW) (λb _=>.bl b) (λi _=>.int i) (λx _=>.str x) (λh _ ih e=>.lst h.sq (ih (by rw[nd]at e;exact e))) (λh _ ih e=>.tup (bR.of h) (ih (by rw[nd]at e;exact e))) (λ_ _ _ e=>by rw[nd]at e;cases e) (λ_ _ _ e=>by rw[nd]at e;cases e) (λ_ _ e=>by rw[nd]at e;cases e) (λ_ _ _ _ e=>by rw[nd]at e;cases e)
  (λ_=>.nil) (λ_ _ a b e=>by rw[nd.nds,VB]at e;exact .cons (a e.1) (b e.2)) trivial (λ_ _ _ _=>trivial) trivial (λ_ _ _ _=>trivial) h
theorem ay.qT(h:ay K H vs ds):nd.nds ds=true->mq K H vs ds:=by
 induction ds generalizing vs with
 |nil=>cases h;exact λ_=>.nil
 |cons d ds ih=>
  cases h with
  |cons a b=>intro e;rw[nd.nds,VB]at e;exact .cons (a.qT e.1) (ih b e.2)
def lP (H H':Hp):Prop:=∀a xs,H a=some (.tup xs)->H' a=some (.tup xs)
theorem Rp.lf(s:lP H H')(h:Rp K H v d):Dv.lf d=true->Rp K H' v d:=
 Rp.rec (motive_1:=λv d _=>Dv.lf d=true->Rp K H' v d) (motive_2:=λvs ds _=>Dv.lf.lfs ds=true->ay K H' vs ds) (motive_3:=λ_ _ _=>True) (motive_4:=λ_ _ _=>True)
  (λ_=>.aW) (λb _=>.bl b) (λi _=>.int i) (λx _=>.str x) (λ_ _ _ e=>by rw[Dv.lf]at e;cases e) (λh _ ih e=>.tup (s _ _ h) (ih (by rw[Dv.lf]at e;exact e))) (λ_ _ _ e=>by rw[Dv.lf]at e;cases e) (λ_ _ _ e=>by rw[Dv.lf]at e;cases e) (λ_ _ e=>by rw[Dv.lf]at e;cases e) (λ_ _ _ _ e=>by rw[Dv.lf]at e;cases e)
  (λ_=>.nil) (λ_ _ a b e=>by rw[Dv.lf.lfs,VB]at e;exact .cons (a e.1) (b e.2)) trivial (λ_ _ _ _=>trivial) trivial (λ_ _ _ _=>trivial) h
theorem ay.lf(s:lP H H')(h:ay K H vs ds):Dv.lf.lfs ds=true->ay K H' vs ds:=by
 induction ds generalizing vs with
 |nil=>cases h;exact λ_=>.nil
 |cons d ds ih=>
  cases h with
  |cons a b=>intro e;rw[Dv.lf.lfs,VB]at e;exact .cons (a.lf s e.1) (ih b e.2)
section
variable{K:Frag}{H:Hp}
def ay.len(h:ay K H vs ds):vs.length=ds.length:=by
 induction ds generalizing vs with
 |nil=>cases h;rfl
 |cons d ds ih=>cases h with|cons a b=>exact congrArg (·+1) (ih b)
def ay.get{i:Nat}(h:ay K H vs ds)(e:ds[i]?=some d):∃v,vs[i]?=some v/\Rp K H v d:=by
 induction ds generalizing vs i with
 |nil=>cases e
 |cons d' ds ih=>
  cases h with
  |cons a b=>
   cases i with
   |zero=>cases e;exact⟨_,rfl,a⟩
   |succ i=>obtain⟨v,h1,h2⟩:=ih (i:=i) b (by simpa using e);exact⟨v,by simpa using h1,h2⟩
def ay.TY{i:Nat}(h:ay K H vs ds)(e:vs[i]?=some v):∃d,ds[i]?=some d/\Rp K H v d:=by
 induction ds generalizing vs i with
 |nil=>cases h;cases e
 |cons d' ds ih=>
  cases h with
  |cons a b=>
   cases i with
   |zero=>cases e;exact⟨_,rfl,a⟩
   |succ i=>obtain⟨d,h1,h2⟩:=ih (i:=i) b (by simpa using e);exact⟨d,by simpa using h1,h2⟩
def ay.app(h:ay K H vs ds)(s:ay K H us es):ay K H (vs++us) (ds++es):=by
 induction ds generalizing vs with
 |nil=>cases h;exact s
 |cons d ds ih=>cases h with|cons a b=>exact .cons a (ih b)
def ay.snoc(r:ay K H vs ds)(h:Rp K H v d):ay K H (vs++[v]) (ds++[d]):=r.app (.cons h .nil)
theorem ay.take(n:Nat)(h:ay K H vs ds):ay K H (vs.take n) (ds.take n):=by
 induction ds generalizing vs n with
 |nil=>cases h;cases n<;>exact .nil
 |cons d ds ih=>
  cases h with
  |cons a b=>
   cases n with
   |zero=>exact .nil
   |succ n=>exact .cons a (ih n b)
theorem ay.drop(n:Nat)(h:ay K H vs ds):ay K H (vs.drop n) (ds.drop n):=by
 induction ds generalizing vs n with
 |nil=>cases h;cases n<;>exact .nil
 |cons d ds ih=>
  cases n with
  |zero=>exact h
  |succ n=>cases h with|cons a b=>exact ih n b
theorem ay.set(h:Rp K H v d) (i:Nat)(r:ay K H vs ds):ay K H (vs.set i v) (ds.set i d):=by
 induction ds generalizing vs i with
 |nil=>cases r;exact .nil
 |cons d' ds ih=>
  cases r with
  |cons a b=>
   cases i with
   |zero=>exact .cons h b
   |succ i=>exact .cons a (ih i b)
def ay.rev(h:ay K H vs ds):ay K H vs.reverse ds.reverse:=by
 induction ds generalizing vs with
 |nil=>cases h;exact .nil
 |cons d ds ih=>
  cases h with
  |cons a b=>rw[Yk,Yk];exact(ih b).snoc a
end
inductive eU(K:Frag)(H Hm:Hp):List V->Zy->A01->Prop
 |nil:eU K H Hm [] [] []
 |kJ {x:V}{d:PyData}{xs:List V}{ds:Zy}{fp:A01}:BP d=false->Rp K Hm x d->eU K H Hm xs ds fp->eU K H Hm (x::xs) (d::ds) fp
 |own {b:Addr}{ys:List V}{es:Zy}{xs:List V}{ds:Zy}{fp:A01}:H b=some (.lst ys)->ay K Hm ys es->b∉fp->eU K H Hm xs ds fp->eU K H Hm (.ref b::xs) (.list es::ds) (b::fp)
inductive uz(K:Frag)(H Hm:Hp):List (List Key×V)->List (PyData×PyData)->A01->Prop
 |nil:uz K H Hm [] [] []
 |own {k:List Key}{b:Addr}{ys:List V}{es:Zy}{kvs:List (List Key×V)}{ds:Zl}{fp:A01}:H b=some (.lst ys)->ay K Hm ys es->b∉fp->uz K H Hm kvs ds fp->uz K H Hm ((k,.ref b)::kvs) ((.tuple (k.map bF),.list es)::ds) (b::fp)
def UL (h:Heap)(a:Addr)(S:Int->Bool) (n:Nat):Prop:=∃o es ep t,h.get? a=some o/\o.ExactSet/\o.data=.set es ep t/\(∀e∈es.toList,(∃k,Value.isInt k e.2=true/\e.1=hashInt k)/\e.2.scannable=true)/\(∀k,S k=true↔∃e∈es.toList,Value.isInt k e.2=true)
 /\ es.size<scanBound/\t.fits es.size=true/\es.size=n
def SR (a:Addr)(ns:A06):HO:=.ext λh=>UL h a (λk=>decide (k∈ns)) ns.length
def Vs (ns:A06):PyData:=.dict ((.none,.bool true)::ns.map λn=>(.int n,.none))
inductive Own(K:Frag)(H Hm:Hp):Kd->V->PyData->A01->Prop
 |sh {v:V}{d:PyData}:Rp K Hm v d->Own K H Hm .sh v d []
 |ow {p:Bool}{a:Addr}{xs:List V}{ds:Zy}:H a=some (.lst xs)->ay K Hm xs ds->Own K H Hm (.ow p) (.ref a) (.list ds) [a]
 |dp {p:Bool}{a:Addr}{xs:List V}{ds:Zy}{fp:A01}:H a=some (.lst xs)->a∉fp->eU K H Hm xs ds fp->Own K H Hm (.dp p) (.ref a) (.list ds) (a::fp)
 |dk {p:Bool}{a:Addr}{kvs:List (Key×V)}{ds:Zl}:H a=some (.dK kvs)->eV K Hm kvs ds->Own K H Hm (.dk p) (.ref a) (.dict ds) [a]
 |dt {p:Bool}{a:Addr}{kvs:List (List Key×V)}{ds:Zl}:H a=some (.dT kvs)->d8 K Hm kvs ds->Own K H Hm (.dt p) (.ref a) (.dict ((.none,.none)::ds)) [a]
 |st {p:Bool}{a:Addr}{kvs:List (List Key×V)}{ds:Zl}{fp:A01}:H a=some (.dT kvs)->a∉fp->uz K H Hm kvs ds fp->Own K H Hm (.st p) (.ref a) (.dict ((.none,.none)::ds)) (a::fp)
 |is {p:Bool}{a:Addr}{ns:A06}:H a=some (SR a ns)->Own K H Hm (.st p) (.ref a) (.dict ((.none,.bool true)::ns.map λn=>(.int n,.none))) [a]
 |ps {p:Bool}{a:Addr}{bs:K4}:H a=some (jV a bs)->(∀q∈bs,cR Hm q.2 q.1)->Own K H Hm (.st p) (.ref a) (.dict ((.none,.bool false)::bs.map λq=>(fQ q.2,.none))) [a]
section
variable{K:Frag}{H H' Hm Hm':Hp}
def eU.step(s:ah Hm Hm'){xs:List V}{ds:Zy}{fp:A01}(i:eU K H Hm xs ds fp):(∀a∈fp,H' a=H a)->eU K H' Hm' xs ds fp:=by
 induction i with
 |nil=>exact λ_=>.nil
 |kJ e r _ ih=>exact λh=>.kJ e (r.mono s) (ih h)
 |own e r n _ ih=>exact λh=>.own ((h _ V3).trans e) (r.mono s) n (ih λa ha=>h a (V8 _ ha))
def eU.live(i:eU K H Hm xs ds fp):∀a∈fp,∃ys,H a=some (.lst ys):=by
 induction i with
 |nil=>exact λ_ h=>absurd h WH
 |kJ _ _ _ ih=>exact ih
 |own e _ _ _ ih=>intro a h;rcases VF.mp h with rfl|h;{exact⟨_,e⟩};exact ih a h
def uz.step(s:ah Hm Hm'){xs:List (List Key×V)}{ds:Zl}{fp:A01}(i:uz K H Hm xs ds fp):(∀a∈fp,H' a=H a)->uz K H' Hm' xs ds fp:=by
 induction i with
 |nil=>exact λ_=>.nil
 |own e r n _ ih=>exact λh=>.own ((h _ V3).trans e) (r.mono s) n (ih λa ha=>h a (V8 _ ha))
def uz.live(i:uz K H Hm xs ds fp):∀a∈fp,∃ys,H a=some (.lst ys):=by
 induction i with
 |nil=>exact λ_ h=>absurd h WH
 |own e _ _ _ ih=>intro a h;rcases VF.mp h with rfl|h;{exact⟨_,e⟩};exact ih a h
theorem Own.step{k:Kd}{v:V}{d:PyData}{fp:A01}(o:Own K H Hm k v d fp)(s:ah Hm Hm')(h:∀a∈fp,H' a=H a):Own K H' Hm' k v d fp:=by
 cases o with
 |sh r=>exact .sh (r.mono s)
 |ow e r=>exact .ow ((h _ V3).trans e) (r.mono s)
 |dp e n t=>exact .dp ((h _ V3).trans e) n (t.step s λa ha=>h a (V8 _ ha))
 |dk e r=>exact .dk ((h _ V3).trans e) (r.mono s)
 |dt e r=>exact .dt ((h _ V3).trans e) (r.mono s)
 |st e n t=>exact .st ((h _ V3).trans e) n (t.step s λa ha=>h a (V8 _ ha))
 |is e=>exact .is ((h _ V3).trans e)
 |ps e k=>exact .ps ((h _ V3).trans e) λq hq=>(k q hq).mono λb xs e=>s _ _ e
def oU (u:HO):Prop:=∀xs,u≠.tup xs
def lO:oU (.lst xs):=λ_ z=>by cases z
def w5:oU (.dK xs):=λ_ z=>by cases z
def tK:oU (.dT xs):=λ_ z=>by cases z
def U7:oU (SR a ns):=λ_ z=>by cases z
def SV:oU (jV a bs):=λ_ z=>by cases z
theorem Own.live(o:Own K H Hm k v d fp):∀a∈fp,∃u,H a=some u/\oU u:=by
 intro a ha;cases o with
 |sh _=>cases ha
 |ow e _=>rw[V6.mp ha];exact⟨_,e,by first|exact lO|exact w5|exact tK⟩
 |dp e _ t=>rcases VF.mp ha with rfl|ha;{exact⟨_,e,by first|exact lO|exact w5|exact tK⟩};obtain⟨ys,e⟩:=t.live a ha;exact⟨_,e,by first|exact lO|exact w5|exact tK⟩
 |dk e _=>rw[V6.mp ha];exact⟨_,e,by first|exact lO|exact w5|exact tK⟩
 |dt e _=>rw[V6.mp ha];exact⟨_,e,by first|exact lO|exact w5|exact tK⟩
 |is e=>rw[V6.mp ha];exact⟨_,e,U7⟩
 |ps e _=>rw[V6.mp ha];exact⟨_,e,SV⟩
 |st e _ t=>rcases VF.mp ha with rfl|ha;{exact⟨_,e,by first|exact lO|exact w5|exact tK⟩};obtain⟨ys,e⟩:=t.live a ha;exact⟨_,e,by first|exact lO|exact w5|exact tK⟩
def eU.Vj(s:ah Hm Hm')(i:eU K H Hm xs ds fp):(∀a∈fp,Hm' a=H a)->ay K Hm' xs ds:=by
 induction i with
 |nil=>exact λ_=>.nil
 |kJ _ r _ ih=>exact λh=>.cons (r.mono s) (ih h)
 |own e r _ _ ih=>exact λh=>.cons (.lst (.inl (.inl ((h _ V3).trans e))) (r.mono s)) (ih λa ha=>h a (V8 _ ha))
def Own.rp(o:Own K H Hm k v d fp)(hk:k.rd=true)(s:ah Hm Hm')(h:∀a∈fp,Hm' a=H a):Rp K Hm' v d:=by
 cases o with
 |sh r=>exact r.mono s
 |ow e r=>exact .lst (.inl (.inl ((h _ V3).trans e))) (r.mono s)
 |dp e _ t=>exact .lst (.inl (.inl ((h _ V3).trans e))) (t.Vj s λa ha=>h a (V8 _ ha))
 |dk e r=>exact .dk ((h _ V3).trans e) (r.mono s)
 |dt e r=>exact .dt ((h _ V3).trans e) (r.mono s)
 |st _ _ _=>cases hk
 |is _=>cases hk
 |ps _ _=>cases hk
def ay.x8(s:lP Hm Hm')(r:ay K Hm xs ds)(h:ds.all Dv.lf=true):ay K Hm' xs ds:=r.lf s (by rw[vV];exact h)
def eU.flat(s:lP Hm Hm')(i:eU K H Hm xs ds fp):(ds.all λd=>match d with | .list es=>es.all Dv.lf|d=>Dv.lf d)=true->eU K H Hm' xs ds fp:=by
 induction i with
 |nil=>exact λ_=>.nil
 |@kJ x d xs ds fp e r t ih=>intro h;rw[VL,VB]at h;refine .kJ e (r.lf s ?_) (ih h.2);have h1:=h.1;cases d<;>first|exact h1|cases e
 |own e r n t ih=>intro h;rw[VL,VB]at h;exact .own e (r.x8 s h.1) n (ih h.2)
def eV.flat(s:lP Hm Hm')(r:eV K Hm kvs ds)(h:(ds.all λkv=>Dv.lf kv.2)=true):eV K Hm' kvs ds:=by
 induction kvs generalizing ds with
 |nil=>cases r;exact .nil
 |cons kv kvs ih=>
  cases r with
  |cons a b=>rw[VL,VB]at h;exact .cons (a.lf s h.1) (ih b h.2)
def d8.flat(s:lP Hm Hm')(r:d8 K Hm kvs ds)(h:(ds.all λkv=>Dv.lf kv.2)=true):d8 K Hm' kvs ds:=by
 induction kvs generalizing ds with
 |nil=>cases r;exact .nil
 |cons kv kvs ih=>
  cases r with
  |cons a b=>rw[VL,VB]at h;exact .cons (a.lf s h.1) (ih b h.2)
theorem Own.flat(o:Own K H Hm k v d fp)(s:lP Hm Hm')(h:Dv.flat k d=true):Own K H Hm' k v d fp:=by
 cases o with
 |sh r=>exact .sh (r.lf s h)
 |ow e r=>exact .ow e (r.x8 s h)
 |dp e n t=>exact .dp e n (t.flat s h)
 |dk e r=>exact .dk e (r.flat s h)
 |dt e r=>have h:(Dv.lf .none&&_)=true:=h;rw[VB]at h;exact .dt e (r.flat s h.2)
 |st _ _ _=>cases h
 |is _=>cases h
 |ps _ _=>cases h
def OE (o p:Option HO):Prop:=o=p\/(p=none/\∃xs,o=some (.tup xs))
def OE.rfl':OE o o:=.inl rfl
def OE.trans(h:OE a b)(k:OE b c):OE a c:=by rcases h with rfl|⟨rfl,h⟩;{exact k};rcases k with rfl|⟨rfl,_⟩;{exact .inr ⟨rfl,h⟩};exact .inr ⟨rfl,h⟩
def OE.off{a:Addr}(h:OE (Hm a) p)(hp:p=none)(s:ah Hm H)(hu:H a=some u)(nt:oU u):Hm a=none:=by rcases h with e|⟨_,xs,e⟩;{rw[e,hp]};have:=s _ _ e;rw[hu]at this;cases this;exact absurd rfl (nt xs)
end
structure Gh where
 H0:Hp
 eu:Hp
 pins:List (Nat×Addr)
def Gh.M (g:Gh):A01:=g.pins.map (·.2)
structure Rl(K:Frag)(g:Gh)(E:En)(U:St)(H Hm:Hp)(F:Nat->A01):Prop where
 len:E.length=U.length
 sub:ah Hm H
 slot:∀i k d,E[i]?=some (some (k,d))->∃v,U[i]?=some (some v)/\Own K H Hm k v d (F i)
 off:∀i a,a∈F i->Hm a=none
 bu:∀i a,a∈F i->∃u,H a=some u/\oU u
 aF:∀i j a,a∈F i->a∈F j->i=j
 fr:∀p o,p∉g.M->g.H0 p=some o->H p=some o
 new:∀i a,a∈F i->a∈g.M\/g.H0 a=none
 pin:∀q∈g.pins,U[q.1]?=some (some (.ref q.2))/\∃ds,E[q.1]?=some (some (.ow true,.list ds))
 old:∀a,g.H0 a≠none->OE (Hm a) (g.eu a)
structure Tm(K:Frag)(g:Gh)(F:Nat->A01)(H Hm:Hp)(k:Kd) (v:V)(d:PyData)(fp:A01):Prop where
 own:Own K H Hm k v d fp
 off:∀a∈fp,Hm a=none
 aF:∀a∈fp,∀i,a∉F i
 new:∀a∈fp,g.H0 a=none
variable{K:Frag}{g:Gh}{E:En}{U:St}{H H' Hm Hm':Hp}{F:Nat->A01}
def Rl.grow(R:Rl K g E U H Hm F)(h:ah H H')(s:ah Hm Hm')(b:ah Hm' H')(o:∀i a,a∈F i->Hm' a=none)(od:∀a,g.H0 a≠none->OE (Hm' a) (Hm a)):Rl K g E U H' Hm' F where
 len:=R.len
 sub:=b
 slot:=λi k d e=>by
  obtain⟨v,h1,h2⟩:=R.slot i k d e;refine⟨v,h1,h2.step s λa ha=>?_⟩
  obtain⟨u,hu,_⟩:=h2.live a ha;rw[hu];exact h _ _ hu
 off:=o
 bu:=λi a ha=>let⟨u,hu,n⟩:=R.bu i a ha;⟨u,h _ _ hu,n⟩
 aF:=R.aF
 fr:=λp o hp ho=>h _ _ (R.fr p o hp ho)
 new:=R.new
 pin:=R.pin
 old:=λa ha=>(od a ha).trans (R.old a ha)
def Rl.more(R:Rl K g E U H Hm F)(s:ah Hm Hm')(b:ah Hm' H)(o:∀i a,a∈F i->Hm' a=none)(od:∀a,g.H0 a≠none->OE (Hm' a) (Hm a)):Rl K g E U H Hm' F:=R.grow (ah.refl _) s b o od
def Rl.zc(R:Rl K g E U H Hm F)(hq:q∈g.pins):F q.1=[q.2]:=by obtain⟨h1,ds,h2⟩:=R.pin q hq;obtain⟨v,h3,h4⟩:=R.slot _ _ _ h2;rw[h1]at h3;cases h3;generalize F q.1=fi at h4;cases h4;rfl
def Rl.notM(R:Rl K g E U H Hm F){i:Nat}(e:E[i]?=some (some (k,d)))(hk:k.pin=false){a:Addr}(ha:a∈F i):g.H0 a=none:=by rcases R.new i a ha with m|m;{obtain⟨q,hq,rfl⟩:=V5.mp m;have:=R.aF i q.1 q.2 ha (by rw[R.zc hq];exact V3);obtain⟨_,ds,h2⟩:=R.pin q hq;rw[<-this,e]at h2;cases h2;cases hk};exact m
def Rl.Sb(R:Rl K g E U H Hm F){a:Addr}(ha:a∈g.M):H a≠none:=λz=>by obtain⟨q,hq,rfl⟩:=V5.mp ha;obtain⟨u,hu,_⟩:=R.bu q.1 q.2 (by rw[R.zc hq];exact V3);rw[z]at hu;cases hu
def Rl.nL(R:Rl K g E U H Hm F){a:Addr}(ha:g.H0 a≠none):H a≠none:=λz=>by
 by_cases m:a∈g.M;{exact R.Sb m z};cases e:g.H0 a with
 |none=>exact ha e
 |some o=>rw[R.fr a o m e]at z;cases z
def Rl.fresh(R:Rl K g E U H Hm F){p:Addr}(h:H p=none){i:Nat}:p∉F i:=λz=>by obtain⟨u,hu,_⟩:=R.bu i p z;rw[h]at hu;cases hu
def Rl.qp(R:Rl K g E U H Hm F){p:Addr}(h:H p=none):Hm p=none:=by
 cases e:Hm p with
 |none=>rfl
 |some o=>rw[R.sub _ _ e]at h;cases h
def Rl.fH(R:Rl K g E U H Hm F){p:Addr}(h:H p=none):g.H0 p=none:=by
 cases e:g.H0 p with
 |none=>rfl
 |some o=>exact absurd h (R.nL (by rw[e];simp))
open Classical in
def lend (Hm H:Hp)(fp:A01):Hp:=λa=>if a∈fp then H a else Hm a
open Classical in
def back (Hm:Hp)(fp:A01):Hp:=λa=>if a∈fp then none else Hm a
variable{fp:A01}{a:Addr}
def eW(h:a∈fp):lend Hm H fp a=H a:=by unfold lend;rw[if_pos h]
def cQ(h:a∉fp):lend Hm H fp a=Hm a:=by unfold lend;rw[if_neg h]
def jg(h:a∈fp):back Hm fp a=none:=by unfold back;rw[if_pos h]
def c8(h:a∉fp):back Hm fp a=Hm a:=by unfold back;rw[if_neg h]
def ie(n:∀a∈fp,Hm a=none):ah Hm (lend Hm H fp):=λb o e=>by
 have:b∉fp:=λz=>by rw[n b z]at e;cases e
 rw[cQ this];exact e
def i8(s:ah Hm H):ah (lend Hm H fp) H:=λb o e=>by by_cases h:b∈fp;{rw[eW h]at e;exact e};rw[cQ h]at e;exact s _ _ e
def zg(s:ah Hm H):ah (back Hm fp) H:=λb o e=>by by_cases h:b∈fp;{rw[jg h]at e;cases e};rw[c8 h]at e;exact s _ _ e
variable{k:Kd}{v:V}{d:PyData}
def Tm.cZ(T:Tm K g F H Hm k v d fp)(R:Rl K g E U H Hm F)(hk:k.fz=true):∃Hm',ah Hm Hm'/\Rl K g E U H Hm' F/\Rp K Hm' v d:=by have up:=ie (Hm:=Hm) (H:=H) T.off;refine⟨lend Hm H fp,up,R.more up (i8 R.sub) (λi a ha=>?_) λa ha=>.inl (cQ λz=>ha (T.new a z)),T.own.rp (by cases k<;>first|rfl|cases hk) up λa ha=>eW ha⟩;rw[cQ λz=>T.aF a z i ha];exact R.off i a ha
def aD{α:Type}{l:List α}{i:Nat}{a:α}(h:i<l.length):(l.set i a)[i]?=some a:=by rw[Wf];simp[h]
def ak{α:Type}{l:List α}{i j:Nat}{a:α}(h:i≠j):(l.set i a)[j]?=l[j]?:=by rw[Wf];simp[h]
def Rl.put(R:Rl K g E U H Hm F)(T:Tm K g F H Hm k v d fp){i:Nat}(o:bL E i=true):Rl K g (E.set i (some (k,d))) (U.set i (some v)) H Hm (λj=>if j=i then fp else F j) where
 len:=by rw[VY,VY];exact R.len
 sub:=R.sub
 slot:=λj k' d' e=>by
  by_cases c:j=i
  .subst c;have hl:j<E.length:=by
    rcases W4 j E.length with h|h
    .exact h
    .rw[VZ (by rw[VY];exact h)]at e;cases e
   rw[aD hl]at e;cases e;exact⟨v,aD (R.len▸hl),by rw[if_pos rfl];exact T.own⟩
  .rw[ak (Ne.symm c)]at e;obtain⟨u,h1,h2⟩:=R.slot j k' d' e;exact⟨u,by rw[ak (Ne.symm c)];exact h1,by rw[if_neg c];exact h2⟩
 off:=λj a ha=>by
  by_cases c:j=i
  .rw[if_pos c]at ha;exact T.off a ha
  .rw[if_neg c]at ha;exact R.off j a ha
 bu:=λj a ha=>by
  by_cases c:j=i
  .rw[if_pos c]at ha;exact T.own.live a ha
  .rw[if_neg c]at ha;exact R.bu j a ha
 aF:=λj l a h1 h2=>by
  by_cases c:j=i
  .rw[if_pos c]at h1
   by_cases c':l=i
   .rw[c,c']
   .rw[if_neg c']at h2;exact absurd h2 (T.aF a h1 l)
  .rw[if_neg c]at h1
   by_cases c':l=i
   .rw[if_pos c']at h2;exact absurd h1 (T.aF a h2 j)
   .rw[if_neg c']at h2;exact R.aF j l a h1 h2
 fr:=R.fr
 new:=λj a ha=>by
  by_cases c:j=i
  .rw[if_pos c]at ha;exact .inr (T.new a ha)
  .rw[if_neg c]at ha;exact R.new j a ha
 pin:=λq hq=>by
  obtain⟨h1,ds,h2⟩:=R.pin q hq;have c:i≠q.1:=λz=>by
   unfold bL at o;rw[z,h2]at o;cases o
  exact⟨by rw[ak c];exact h1,ds,by rw[ak c];exact h2⟩
 old:=R.old
theorem Tm.sh(h:Rp K Hm v d):Tm K g F H Hm .sh v d []:=⟨.sh h,(λ_ z=>by cases z),(λ_ z=>by cases z),λ_ z=>by cases z⟩
def Rl.chg(R:Rl K g E U H Hm F){i:Nat}{p:Bool}{ds es:Zy}{ys:List V}(e:E[i]?=some (some (.ow p,.list ds)))(r:ay K Hm ys es):∃a xs,U[i]?=some (some (.ref a))/\H a=some (.lst xs)/\ay K Hm xs ds/\Hm a=none/\Rl K g (E.set i (some (.ow p,.list es))) U (upd H a (.lst ys)) Hm F:=by
 obtain⟨v,h1,h2⟩:=R.slot i _ _ e;generalize hf:F i=fi at h2;cases h2 with
 |@ow _ a xs _ ha hr=>
  have ma:a∈F i:=by rw[hf];exact V3
  have na:=R.off i a ma;have up:∀b,b≠a->upd H a (.lst ys) b=H b:=λb hb=>ai hb;have li:i<E.length:=by rcases W4 i E.length with h|h;{exact h};rw[VZ h]at e;cases e
  refine⟨a,xs,h1,ha,hr,na,?_⟩;exact {
   len:=by rw[VY];exact R.len
   sub:=λb o hb=>by
    have:b≠a:=λz=>by rw[z,na]at hb;cases hb
    rw[up b this];exact R.sub b o hb
   slot:=λj k' d' e'=>by
    by_cases c:j=i
    .subst c;rw[aD li]at e';cases e';exact⟨_,h1,by rw[hf];exact .ow av r⟩
    .rw[ak (Ne.symm c)]at e';obtain⟨u,g1,g2⟩:=R.slot j k' d' e';refine⟨u,g1,g2.step (ah.refl _) λb hb=>up b λz=>c (R.aF j i a (z▸hb) ma)⟩
   off:=R.off
   bu:=λj b hb=>by
    by_cases c:b=a
    .rw[c];exact⟨_,av,lO⟩
    .rw[up b c];exact R.bu j b hb
   aF:=R.aF
   fr:=λq o hq ho=>by
    have:q≠a:=λz=>by
     rcases R.new i a ma with y|y
     .exact hq (z▸y)
     .rw[z,y]at ho;cases ho
    rw[up q this];exact R.fr q o hq ho
   new:=R.new
   pin:=λq hq=>by
    obtain⟨g1,ds',g2⟩:=R.pin q hq
    by_cases c:i=q.1
    .rw[<-c]at g1 g2⊢;rw[e]at g2;cases g2;exact⟨g1,es,aD li⟩
    .exact⟨g1,ds',by rw[ak c];exact g2⟩
   old:=R.old }
theorem Rl.dm(R:Rl K g E U H Hm F){i:Nat}{E':En}{d:PyData}{k:Kd}(e:E[i]?=some (some (k,d)))(h:Dv.dm E i=some E'):∃v Hm' F',U[i]?=some (some v)/\ah Hm Hm'/\Rl K g E' U H Hm' F'/\Rp K Hm' v d:=by
 unfold Dv.dm at h;rw[e]at h;have h:(if k.fz=true then some (E.set i (some (.sh,d)))else none)=some E':=h;by_cases hk:k.fz=true
 .rw[if_pos hk]at h;cases h;obtain⟨v,h1,h2⟩:=R.slot i k d e;have up:=ie (Hm:=Hm) (H:=H) (fp:=F i) (R.off i);have rp:=h2.rp (by cases k<;>first|rfl|cases hk) up λa ha=>eW ha;have li:i<E.length:=by rcases W4 i E.length with h|h;{exact h};rw[VZ h]at e;cases e
  refine⟨v,lend Hm H (F i),λj=>if j=i then []else F j,h1,up,?_,rp⟩;exact {
   len:=by rw[VY];exact R.len
   sub:=i8 R.sub
   slot:=λj k' d' e'=>by
    by_cases c:j=i
    .subst c;rw[aD li]at e';cases e';exact⟨v,h1,by rw[if_pos rfl];exact .sh rp⟩
    .rw[ak (Ne.symm c)]at e';obtain⟨u,g1,g2⟩:=R.slot j k' d' e';exact⟨u,g1,by rw[if_neg c];exact g2.step up λ_ _=>rfl⟩
   off:=λj a ha=>by
    by_cases c:j=i
    .rw[if_pos c]at ha;cases ha
    .rw[if_neg c]at ha;rw[cQ λz=>c (R.aF j i a ha z)]
     exact R.off j a ha
   bu:=λj a ha=>by
    by_cases c:j=i
    .rw[if_pos c]at ha;cases ha
    .rw[if_neg c]at ha;exact R.bu j a ha
   aF:=λj l a g1 g2=>by
    by_cases c:j=i
    .rw[if_pos c]at g1;cases g1
    .rw[if_neg c]at g1
     by_cases c':l=i
     .rw[if_pos c']at g2;cases g2
     .rw[if_neg c']at g2;exact R.aF j l a g1 g2
   fr:=R.fr
   new:=λj a ha=>by
    by_cases c:j=i
    .rw[if_pos c]at ha;cases ha
    .rw[if_neg c]at ha;exact R.new j a ha
   pin:=λq hq=>by
    obtain⟨g1,ds',g2⟩:=R.pin q hq;have c:i≠q.1:=λz=>by
     rw[<-z,e]at g2;cases g2;cases hk
    exact⟨g1,ds',by rw[ak c];exact g2⟩
   old:=λa ha=>by
    rw[cQ λz=>ha (R.notM e (by cases k<;>first|rfl|(rename_i p;cases p<;>first|rfl|cases hk)|cases hk) z)]
    exact R.old a ha }
 rw[if_neg hk]at h;cases h
end Dv
namespace L2
open PySem PySem.Spec PyProof.Rows
def lM (h:Heap)(e C T:Addr)(dd:Zz):Prop:=
 ∃(t0:Addr)(v2 v3 v4 v5:Value)(sl:Zm)(oT:Obj)(ts:Zx),h.get? e=some ⟨.ref C,dd,.fields #[.ref t0,.ref T,v2,v3,v4,v5],sl⟩/\T≠e/\h.get? T=some oT/\oT.data=.fields ts/\ts[3]?=some .none
structure Way(fs:A01)(e T:Addr)(h h':Heap):Prop where
 keep:∀b o,b≠e->b≠T->b∉fs->h.get? b=some o->h'.get? b=some o
 slot:∀b o,b≠e->b≠T->h.get? b=some o->∃sl,h'.get? b=some { o with slots:=sl }
variable{M:Model}{A:Around}{E:Zn}{s:Shared}
def wB{L e C t0 T0:Addr}{hadNext:Bool}(hfr:A.frames=some (env::outer))(hl:s.heap.FunFrames base (env::outer))(hf:env.frame=some L)(he:s.heap.get? e=some ⟨.ref C,dd,.fields #[.ref t0,w1,v2,v3,v4,v5],sl0⟩)(q:∀h' T,s.heap.get? T=none->Way (frs (env::outer)) e T s.heap h'->lM h' e C T dd->Q () { s with heap:=h' }) :
  wpAny M A (do let a <-frameOf env;let pl <-entryPlaceOf L hadNext;let b <-EntryCells.newEntry head a .none (rawInt L) .none pl;setField (.ref e) 1 b) (λ_ s'=>wpAny M A (setFlight (.ref e) none) Q E s') E s:=by
 have ene:e∉frs (env::outer):=λhm=>by obtain⟨_,o,ho,hnf⟩:=hl.mem hm;rw[he]at ho;cases ho;exact hnf _ rfl
 refine V0 (wpAny_frameOf_fun hfr hl hf λh1 hs1=>V0 (wpAny_entryPlaceOf λpl hpl=>?_))
 unfold EntryCells.newEntry newFields;refine V0 (Wl ?_ (hpl.sizeOk5 _ _ _ _ _));have he1:h1.get? e=some ⟨.ref C,dd,.fields #[.ref t0,w1,v2,v3,v4,v5],sl0⟩:=(hs1.2.1 e ene).trans he;generalize hO:({ cls:=.type "traceback",dict:=none,data:=.fields ([head,.ref L,.none,rawInt L,.none]++(if pl.isEmpty then List.replicate 6 Value.none else pl)).toArray }:Obj)=oT
 have he2:=VS (h:=h1) oT he1;refine YI he2 rfl (by show 1<6;decide) ?_
 have ne:h1.objs.size≠e:=Xc (VC he1);have hdT:oT.data=.fields ([head,.ref L,.none,rawInt L,.none]++(if pl.isEmpty then List.replicate 6 Value.none else pl)).toArray:=by rw[<-hO]
 have fr:oT.isFreed=false:=by rw[<-hO];rfl
 have he3:((h1.push oT).update e (Obj.mapFields (·.setIfInBounds 1 (Value.ref h1.objs.size)))).get? e=some ⟨.ref C,dd,.fields #[.ref t0,.ref h1.objs.size,v2,v3,v4,v5],sl0⟩:=XN _ he2 rfl;have hT3:((h1.push oT).update e (Obj.mapFields (·.setIfInBounds 1 (Value.ref h1.objs.size)))).get? h1.objs.size=some oT:=(Wm _ _ (Ne.symm ne)).trans (W0 h1 fr);unfold setFlight;refine V0 (XM he3 rfl (x:=.ref h1.objs.size) rfl ?_);rw[if_pos (show(Value.ref h1.objs.size != Value.none)=true by simp)]
 have sz:s.heap.objs.size=h1.objs.size:=hs1.1.symm;refine YI hT3 hdT (by simp only[VM,VI,VR,WJ]<;>lia) (q _ h1.objs.size ?_ ⟨λb o b1 b2 b3 hb=>?_,λb o b1 b2 hb=>?_⟩ ?_)
 .exact ZF (Ym sz)
 .have hb1:h1.get? b=some o:=(hs1.2.1 b b3).trans hb;rw[Wm _ _ (Ne.symm b2),Wm _ _ (Ne.symm b1)];exact VS _ hb1
 .obtain⟨sl,hb1⟩:=hs1.2.2 b o hb;refine⟨sl,?_⟩;rw[Wm _ _ (Ne.symm b2),Wm _ _ (Ne.symm b1)];exact VS _ hb1
 .have dt:=Yn hdT (·.setIfInBounds 3 ((none:Zz).elim Value.none λf=>rawInt f))
  refine⟨t0,v2,v3,v4,v5,sl0,_,_,?_,ne,XN _ hT3 (ZT dt),dt,?_⟩
  .rw[Wm _ _ ne];exact he3
  .first|(simp;done)|(rcases hpl with rfl|⟨_,_,_,_,_,_,_,rfl⟩<;>simp)
def leave_new{L e C t0:Addr}(hfr:A.frames=some (env::outer))(hl:s.heap.FunFrames base (env::outer))(hf:env.frame=some L)(he:s.heap.get? e=some ⟨.ref C,dd,.fields #[.ref t0,.none,v2,v3,v4,v5],sl0⟩)(q:∀h' T,s.heap.get? T=none->Way (frs (env::outer)) e T s.heap h'->lM h' e C T dd->Q () { s with heap:=h' }):wpAny M A (leaving env (.ref e)) Q E s:=by unfold leaving noteFrame;simp only[hf];refine V0 (V0 (XM he rfl (x:=.none) rfl ?_));rw[if_neg (show ¬((Value.none != Value.none)=true)by decide)];exact wB (T0:=e) hfr hl hf he q
def Iq{L e C T:Addr}(hfr:A.frames=some (env::outer))(hl:s.heap.FunFrames base (env::outer))(hf:env.frame=some L)(ho:lM s.heap e C T dd)(q:∀h' T2,s.heap.get? T2=none->(∀b o,b≠e->b≠T->b≠T2->b∉frs (env::outer)->s.heap.get? b=some o->h'.get? b=some o)->(∀b o,b≠e->b≠T->b≠T2->s.heap.get? b=some o->∃sl,h'.get? b=some { o with slots:=sl })->lM h' e C T2 dd->Q () { s with heap:=h' }):wpAny M A (leaving env (.ref e)) Q E s:=by
 obtain⟨t0,v2,v3,v4,v5,sl0,oT,ts,he,hTe,hT,hdT,h3⟩:=ho;unfold leaving noteFrame;simp only[hf];refine V0 (V0 (XM he rfl (x:=.ref T) rfl ?_));rw[if_pos (show(Value.ref T != Value.none)=true by simp)];refine V0 (XM hT hdT h3 ?_);rw[if_neg (show ¬((Value.none==rawInt L)=true)by simp[rawInt])];refine V0 (YI hT hdT (Yl.mp h3).1 ?_);have other:∀b,b≠T->(s.heap.update T (Obj.mapFields (·.setIfInBounds 3 Value.none))).get? b=s.heap.get? b:=λb hb=>Wm _ _ (Ne.symm hb);have noRec:∀b o,s.heap.get? b=some o->(∀vs,o.data≠.fields vs)->b≠T:=λb o hb hnf z=>by rw[z,hT]at hb;cases hb;exact hnf ts hdT
 refine wB (s:={ s with heap:=s.heap.update T (Obj.mapFields (·.setIfInBounds 3 Value.none)) }) (T0:=T) hfr (hl.of_keeps λb o hb hnf=>⟨o,(other b (noRec b o hb hnf)).trans hb,rfl⟩) hf ((other e (Ne.symm hTe)).trans he) λh' T2 n2 W O=>?_;have n2':s.heap.get? T2=none:=by
  cases c:s.heap.get? T2 with
  |none=>rfl
  |some o=>exfalso;by_cases z:T2=T;{subst z;rw[XN _ hT (ZT (Yn hdT _))]at n2;cases n2};rw[show({ s with heap:=s.heap.update T (Obj.mapFields (·.setIfInBounds 3 Value.none)) }:Shared).heap.get? T2=s.heap.get? T2 from other T2 z,c]at n2;cases n2
 exact q h' T2 n2' (λb o b1 b2 b3 b4 hb=>W.keep b o b1 b3 b4 ((other b b2).trans hb)) (λb o b1 b2 b3 hb=>W.slot b o b1 b3 ((other b b2).trans hb)) O
end L2
namespace L2
open PySem PySem.Spec PyProof.Rows PySem.W
def fh (P:Program)(w:World):lA:=λouter H s E e s'=>
 ∃a C T dd H',e=.ref a/\s'.os=s.os/\AllBare s'.gens/\Un (frs outer) [] H H' s.heap s'.heap/\dg P w H' s'.heap/\lM s'.heap a C T dd/\s.heap.get? T=none/\H' T=none/\s.heap.get? a=none/\H' a=some (.ext (m6 a C dd))/\E (.ref C) (some a) H'
def lM.Vn{e C T:Addr}(o:lM h e C T dd):m6 e C dd h:=by obtain⟨t0,v2,v3,v4,v5,sl,_,_,he,_⟩:=o;exact⟨t0,_,v2,v3,v4,v5,sl,he⟩
def M5{P:Program}{w:World}{H:Hp}{h h':Heap}{a C:Addr}{dd:Zz}{fs:A01}{N:Addr->Prop}(ok:dg P w H h)(ha:H a=some (.ext (m6 a C dd)))(hN:∀b,N b->H b=none)(hf:∀b∈fs,H b=none)(k:∀b o,b≠a->¬N b->b∉fs->h.get? b=some o->h'.get? b=some o)(x:m6 a C dd h'):dg P w H h':=λb u e=>by by_cases z:b=a;{subst z;rw[ha]at e;cases e;exact HW x};have nn:∀c v,H c=some v->¬N c/\c∉fs:=λc v q=>⟨λy=>(by rw[hN c y]at q;cases q),λy=>(by rw[hf c y]at q;cases q)⟩;refine(ok b u e).stay (λc v hc r=>k c v ?_ ?_ ?_ r) (λc r=>r) λc xs r=>r;{rcases hc with y|y;{rw[y];exact z};intro q;rw[q,ha]at y;cases y};{rcases hc with y|y;{rw[y];exact(nn b u e).1};exact(nn c _ y).1};rcases hc with y|y;{rw[y];exact(nn b u e).2};exact(nn c _ y).2
variable{CX:lA}{P:Program}{w:World}{K:Frag}{mg:Zp}{base:Heap}{N:A07}{qual:Str}{scope:Scope}{f:Addr}{cd:Value}{A:Around}{outer:List Env}{s0:Shared}{H0:Hp}{E:XK}
def BQ{pins:Zq}{U:St}{H:Hp}{s:Shared}{a C T:Addr}{dd:Zz}{h':Heap}{Nw:Addr->Prop}(I:Inv (gH CX P w K mg base N qual scope f cd A outer s0 H0 E) pins U H s)(ha:H a=some (.ext (m6 a C dd)))(na:s0.heap.get? a=none)(hN:∀b,Nw b->H b=none)(hN0:∀b,Nw b->s0.heap.get? b=none)(hT:Nw T)(k:∀b o,b≠a->¬Nw b->b∉frs (envOfC qual scope s0.heap.objs.size f cd::outer)->s.heap.get? b=some o->h'.get? b=some o)(sl:∀b o,b≠a->¬Nw b->s.heap.get? b=some o->∃sl,h'.get? b=some { o with slots:=sl })(O:lM h' a C T dd)(q:E (.ref C) (some a) H):fh P w outer H0 s0 E (.ref a) { s with heap:=h' }:=by
 have B:Un (frs outer) [] H0 H s0.heap s.heap:=I.base;have old:∀b o,s0.heap.get? b=some o->b≠a/\¬Nw b:=λb o e=>⟨(λz=>by rw[z,na]at e;cases e),λz=>by rw[hN0 b z]at e;cases e⟩;have notloc:∀b o,s0.heap.get? b=some o->b∉frs outer->b∉frs (envOfC qual scope s0.heap.objs.size f cd::outer):=λb o e nb z=>by
  have z2:b∈(envOfC qual scope s0.heap.objs.size f cd).frame.toList++frs outer:=by have:frs (envOfC qual scope s0.heap.objs.size f cd::outer)=s0.heap.objs.size::frs outer:=rfl;rw[this]at z;exact z
  rcases VU.mp z2 with y|y
  .have y:some s0.heap.objs.size=some b:=by
    have y0:(envOfC qual scope s0.heap.objs.size f cd).frame=some b:=by simpa using y
    exact y0
   have y:s0.heap.objs.size=b:=Option.some.inj y;exact absurd (VC e) (by rw[<-y];exact Vz _)
  exact nb y
 refine⟨a,C,T,dd,H,rfl,I.os,I.bare,⟨λb o e n nf nx=>?_,λb o e n nf nx=>?_,λb o e n nx=>B.free b o e n nx,λb o e nx=>?_,B.tups,B.jK,B.kM⟩,?_,O,hN0 T hT,hN T hT,na,ha,q⟩;{exact k b o (old b o e).1 (old b o e).2 (notloc b o e nf) (B.keep b o e n nf nx)};{obtain⟨sl1,e1⟩:=B.slot b o e n nf nx;obtain⟨sl2,e2⟩:=sl b _ (old b o e).1 (old b o e).2 e1;exact⟨sl2,e2⟩};{obtain⟨o1,e1⟩:=B.there b o e nx;obtain⟨sl2,e2⟩:=sl b _ (old b o e).1 (old b o e).2 e1;exact⟨_,e2⟩};exact M5 I.hok ha hN (I.u9) (λb o b1 b2 b3 e=>k b o b1 b2 b3 e) O.Vn
def Ph{a C t0:Addr}(I:Inv (gH (fh P w) P w K mg base N qual scope f cd A outer s0 H0 E) pins U H s)(ha:H a=some (.ext (m6 a C dd)))(he:s.heap.get? a=some ⟨.ref C,dd,.fields #[.ref t0,.none,v2,v3,v4,v5],sl0⟩)(na:s0.heap.get? a=none)(q:E (.ref C) (some a) H):(gH (fh P w) P w K mg base N qual scope f cd A outer s0 H0 E).xe (.ref a) s:=by
 refine leave_new (base:=base) (L:=s0.heap.objs.size) I.ok.frames I.stack rfl he λh' T nT W O=>?_;have nT0:s0.heap.get? T=none:=by
  cases c:s0.heap.get? T with
  |none=>rfl
  |some o=>obtain⟨o1,e1⟩:=I.base.there T o c (by show T∉([]:A01);simp);rw[e1]at nT;cases nT
 exact BQ (Nw:=λb=>b=T) I ha na (λb z=>by rw[z];exact I.mR nT) (λb z=>by rw[z];exact nT0) rfl (λb o b1 b2 b3 e=>W.keep b o b1 b2 b3 e) (λb o b1 b2 e=>W.slot b o b1 b2 e) O q
def aT:Passes (fh P w) (gH (fh P w) P w K mg base N qual scope f cd A outer s0 H0 E) E:=by
 intro pins U H s e s' I h;obtain⟨a,C,T,dd,H',rfl,os,bare,un,hok,O,nT,hT,na,ha,q⟩:=h;have I':=I.Dy (s':=s') (ch:=[]) os un hok bare λb z=>absurd z (by simp);have up:∀b,s.heap.get? b=none->s0.heap.get? b=none:=λb n=>by
  cases c:s0.heap.get? b with
  |none=>rfl
  |some o=>obtain⟨o1,e1⟩:=I.base.there b o c (by show b∉([]:A01);simp);rw[e1]at n;cases n
 refine Iq (base:=base) (L:=s0.heap.objs.size) I'.ok.frames I'.stack rfl O λh' T2 n2 k sl O2=>?_;have nT2:s0.heap.get? T2=none:=by
  cases c:s0.heap.get? T2 with
  |none=>rfl
  |some o=>obtain⟨o1,e1⟩:=I'.base.there T2 o c (by show T2∉([]:A01);simp);rw[e1]at n2;cases n2
 refine BQ (Nw:=λb=>b=T\/b=T2) I' ha (up a na) (λb z=>?_) (λb z=>?_) (.inr rfl) (λb o b1 b2 b3 e=>k b o b1 (λz=>b2 (.inl z)) (λz=>b2 (.inr z)) b3 e) (λb o b1 b2 e=>sl b o b1 (λz=>b2 (.inl z)) (λz=>b2 (.inr z)) e) O2 q;{rcases z with rfl|rfl;{exact hT};exact I'.mR n2};rcases z with rfl|rfl;{exact up _ nT};exact nT2
def NK (C:Addr)(E:XK)(t:TA):TS:=λ_ U H=>t U H λvs H1=>vs.length<=sizeLine/\∀a,H1 a=none->E (.ref C) (some a) (upd H1 a (.ext (m6 a C none)))
def IZ{C:Addr}(hc:kL K C EM "ValueError.__new__" none=true)(hg:Gl (gH (fh P w) P w K mg base N qual scope f cd A outer s0 H0 E) x)(hm:mg x=some (.ref C))(ha:PA (gH (fh P w) P w K mg base N qual scope f cd A outer s0 H0 E) (e::es) t)(hdb:(x==("__debug__":Str))=false:=by decide)(he:starEach (e::es) (envOfC qual scope s0.heap.objs.size f cd)=(false,eval e (envOfC qual scope s0.heap.objs.size f cd))::starEach es (envOfC qual scope s0.heap.objs.size f cd):=by rfl)(hpl:(backTo cpos (starEach es (envOfC qual scope s0.heap.objs.size f cd))).any (·.1)=false:=by rfl) : PS (gH (fh P w) P w K mg base N qual scope f cd A outer s0 H0 E) (.Raise (some (.Call (.Name x np) (e::es) [] cpos)) none pos) (NK C E t):=by
 intro pins s U H D I h;obtain⟨bm,N0,nm,qn,bs,hd,sn,sub,ab,col,dd,k0,k1,k2,k3,k5,mN,hC,hN,hni,T⟩:=(Lx I.ok.mod.BZ hc).obj;refine wpAny_Raise_call_subT (C:=C) (nm:=nm) (q:=qn) (N:=N0) (bs:=bs) (bm:=bm) (hdct:=hd) (sn:=sn) (sub:=sub) (ab:=ab) (col:=col) (dd:=dd) (k0:=k0) (k1:=k1) (k2:=k2) (k3:=k3) (k5:=k5)
  PySem.F.excBase_ValueError (mN:=mN) (T.hasType (by decide)) (I.ok.hd rfl) (by show(backTo cpos (starEach (e::es) (envOfC qual scope s0.heap.objs.size f cd))).any (·.1)=false;rw[he];show(false||(backTo cpos (starEach es (envOfC qual scope s0.heap.objs.size f cd))).any (·.1))=false;rw[hpl];rfl) hni (vP I hg hm ⟨rfl,?_⟩ hdb)
 have go:=ha cpos pins s U H _ I h;show wpAny (model P w) _ (evalArgs (.ref C) true (backTo cpos (starEach (e::es) (envOfC qual scope s0.heap.objs.size f cd))) []) _ _ _;have go':wpAny (model P w) _ (spliced (backTo cpos (starEach (e::es) (envOfC qual scope s0.heap.objs.size f cd)))) _ _ _:=go;rw[he]at go'⊢;refine ZL (aH go' λus s1 ⟨vs,H1,I1,r,hz,q⟩=>?_);have kp:∀b o,base.get? b=some o->s1.heap.get? b=some o:=I1.bk;refine⟨rfl,by rw[<-r.length];exact hz,kp _ _ hC,hN.keeps kp,T.keeps kp,λh' a M=>?_⟩;obtain⟨hp,g,dr,tk,os⟩:=s1;obtain⟨keeps,new,t0,hx,_,_⟩:=M;have I2:=I1.Ko (a:=a) (o:=.ext (m6 a C none)) (t':=tk) keeps new (HW ⟨_,_,_,_,_,_,_,hx⟩);have na:s0.heap.get? a=none:=by
  cases c:s0.heap.get? a with
  |none=>rfl
  |some o=>obtain⟨o1,e1⟩:=I1.base.there a o c (by show a∉([]:A01);simp);rw[e1]at new;cases new
 exact Ph I2 (av) hx na (q a (I1.mR new))
variable{K:Zv}
def uF.U0{x qual:Str}{st:Stmt}{f:Addr}{fd:FuncData}{N ps:A07}{k:Nat}{sp:Sp}(F:uF K x qual st f fd)(S:aM N ps (au st))(len:∀vs H Q E,sp vs H Q E->vs.length=ps.length)(hbody:∀(cdv:Value)(A:Around)(outer:List Env)(s:Shared)(H:Hp)(vs:List V)(Q:VK)(E:XK),dM k (A.deeper (envOfC qual (au st) s.heap.objs.size f cdv))->sp vs H Q E-> ∃t,oR (gH (fh P w) P w K mg base N qual (au st) f cdv A outer s H E) (ir st) t/\t { nx:=λ_ H'=>Q .aW H',rt:=Q } (start N vs) H):gA P w K mg base (fh P w) (k+1) f fd ps sp:=by obtain⟨oc,od,kV,doc,pm,an,cdv,ct,osl,rfl,lk,hcd⟩:=F.ex;refine Rf lk hcd S len λA outer s H vs Q E hr hsp=>?_;obtain⟨t,h,q⟩:=hbody cdv A outer s H vs Q E hr hsp;exact⟨t,h,q⟩
def bZ (P:Program)(w:World)(K:Zv)(mg:Zp)(base:Heap) (k:Nat) (x:Str)(ps:A07)(sp:Sp):Prop:=
 ∃f fd,mg x=some (.ref f)/\PySem.W.keepIn K (.ref f)=true/\Binds K fd ps []/\gA P w K mg base (fh P w) k f fd ps sp
end L2
namespace Dv
open PySem L2 PySem.W
def WE (X:Cx)(e:Expr):TE:=λU H Q=>∀(pins:Zq)(s:Shared),Inv X pins U H s->wpAny (model X.prog X.w) X.A (eval e X.env) (EP X pins U Q) X.xe s
def bf:PE X e (WE X e):=λpins s _ _ _ I h=>h pins s I
def WE.of(h:PE X e t)(q:t U H Q):WE X e U H Q:=λpins s I=>h pins s U H Q I q
def WT (X:Cx)(e:Expr):TT:=λU H Q=>∀(pins:Zq)(s:Shared),Inv X pins U H s->wpAny (model X.prog X.w) X.A (isTrue e X.env (eval e X.env)) (TP X pins U Q) X.xe s
def jY:PT X e (WT X e):=λpins s _ _ _ I h=>h pins s I
def WT.of(h:PT X e t)(q:t U H Q):WT X e U H Q:=λpins s I=>h pins s U H Q I q
def pQ (X:Cx):A03->TA
 |[],_,H,Q=>Q [] H
 |e::es,U,H,Q=>WE X e U H λv H1=>pQ X es U H1 λvs H2=>Q (v::vs) H2
def sel (Y:A05)(U:St):St:=Y.map λi=>(U[i]?).join
def bP{j i:Nat}(h:Y[j]?=some i)(e:U[i]?=some (some v)):(sel Y U)[j]?=some (some v):=by unfold sel;rw[VA,h];show some (U[i]?).join=_;rw[e];rfl
def XL (X:Cx)(Ex:XK)(x:XC)(g:Gh):Prop:=∀(c:Str)(d:PyData)(C a:Addr)(H':Hp),X.mg c=some (.ref C)->x c d->(∀p o,p∉g.M->g.H0 p=some o->H' p=some o)->H' a=some (.ext (m6 a C none))->g.H0 a=none->Ex (.ref C) (some a) H'
def XL.no:XL X Ex xF g:=λ_ _ _ _ _ _ z=>z.elim
def SE (X:Cx)(Ex:XK)(Y:A05)(e:Expr)(d:DE):Prop:=
 ∀(g:Gh)(x:XC)(E:En)(U:St)(H Hm:Hp)(F:Nat->A01)(P:En->Kd->PyData->Prop)(Q:VK),XL X Ex x g->Rl X.K g E U H Hm F->d x E P->
  (∀E' k v u H' Hm' F' fp,P E' k v->Rl X.K g E' U H' Hm' F'->ah Hm Hm'->Tm X.K g F' H' Hm' k u v fp->Q u H')->WE X e (sel Y U) H Q
def ST (X:Cx)(Ex:XK)(Y:A05)(e:Expr)(d:DT):Prop:=
 ∀(g:Gh)(x:XC)(E:En)(U:St)(H Hm:Hp)(F:Nat->A01)(P:En->Bool->Prop)(Q:Bool->Hp->Prop),XL X Ex x g->Rl X.K g E U H Hm F->d x E P->
  (∀E' b H' Hm' F',P E' b->Rl X.K g E' U H' Hm' F'->ah Hm Hm'->Q b H')->WT X e (sel Y U) H Q
inductive aN(X:Cx)(Ex:XK)(Y:A05):A03->List Arg->Prop
 |nil:aN X Ex Y [] []
 |pk {e:Expr}{es:A03}{as:List Arg}{i j:Nat}:PE X e (kI j)->Y[j]?=some i->aN X Ex Y es as->aN X Ex Y (e::es) (.pk i::as)
 |ev {e:Expr}{es:A03}{as:List Arg}{d:DE}:SE X Ex Y e d->aN X Ex Y es as->aN X Ex Y (e::es) (.ev d::as)
inductive Got(K:Frag)(U:St)(Hm:Hp):List Arg->List (Option PyData)->List V->Prop
 |nil:Got K U Hm [] [] []
 |pk {i:Nat}{v:V}{as:List Arg}{os:List (Option PyData)}{vs:List V}:U[i]?=some (some v)->Got K U Hm as os vs->Got K U Hm (.pk i::as) (none::os) (v::vs)
 |ev {e:DE}{v:V}{d:PyData}{as:List Arg}{os:List (Option PyData)}{vs:List V}:Rp K Hm v d->Got K U Hm as os vs->Got K U Hm (.ev e::as) (some d::os) (v::vs)
def lC{F:Nat->A01}(R:Rl K g E U H Hm F){i:Nat}(h:here E i=true):∃v,U[i]?=some (some v):=by unfold here at h;split at h;{rename_i kd e;obtain⟨v,h1,_⟩:=R.slot i kd.1 kd.2 e;exact⟨v,h1⟩};cases h
variable{X:Cx}{Ex:XK}{Y:A05}{g:Gh}{x:XC}{U:St}
def ju(hx:XL X Ex x g)(S:aN X Ex Y es as):∀{E:En}{H Hm:Hp}{F:Nat->A01}{P:En->List (Option PyData)->Prop}{Q:List V->Hp->Prop},Rl X.K g E U H Hm F->ig as x E P->(∀E' os vs H' Hm' F',P E' os->Rl X.K g E' U H' Hm' F'->ah Hm Hm'->Got X.K U Hm' as os vs->Q vs H')->pQ X es (sel Y U) H Q:=by
 induction S with
 |nil=>exact λR h q=>q _ _ _ _ _ _ h R (ah.refl _) .nil
 |@pk e es as i j hp hj _ ih=>intro E H Hm F P Q R h q;replace h:bK (here E i) _:=h;rw[d7]at h;obtain⟨h1,h2⟩:=h;obtain⟨v,hv⟩:=lC R h1;refine WE.of hp ⟨v,bP hj hv,ih R h2 λE' os vs H' Hm' F' p R' s G=>q _ _ _ _ _ _ p R' s (.pk hv G)⟩
 |@ev e es as d hd _ ih=>intro E H Hm F P Q R h q;refine hd g x E U H Hm F _ _ hx R h λE1 k v u H1 Hm1 F1 fp p R1 s1 T=>?_;replace p:bK k.fz _:=p;rw[d7]at p;obtain⟨hk,p⟩:=p;obtain⟨Hm2,s2,R2,r⟩:=T.cZ R1 hk;exact ih R2 p λE' os vs H' Hm' F' p' R' s' G=>q _ _ _ _ _ _ p' R' (s1.trans (s2.trans s')) (.ev (r.mono s') G)
def nB{F:Nat->A01}(R:Rl K g E U H Hm F)(s:ah Hm Hm1):∀{as:List Arg}{os:List (Option PyData)}{vs:List V}{ds:Zy},Got K U Hm as os vs->fill as E os=some ds->(∀i∈cP as,∀a∈F i,Hm1 a=H a)->ay K Hm1 vs ds:=by
 intro as os vs ds G;induction G generalizing ds with
 |nil=>intro h _;cases h;exact .nil
 |@pk i v as os vs hv G ih=>
  intro h n;rw[fill]at h;split at h
  .rename_i k d e;by_cases hk:k.rd=true
   .rw[if_pos hk]at h;cases hf:fill as E os with
    |none=>rw[hf]at h;cases h
    |some es=>rw[hf]at h;cases h;obtain⟨v',h1,h2⟩:=R.slot i k d e;rw[hv]at h1;cases h1;exact .cons (h2.rp hk s (n i V3)) (ih hf λj hj=>n j (V8 _ hj))
   rw[if_neg hk]at h;cases h
  cases h
 |@ev d v u as os vs r G ih=>
  intro h n;rw[fill]at h;cases hf:fill as E os with
  |none=>rw[hf]at h;cases h
  |some es=>rw[hf]at h;cases h;exact .cons (r.mono s) (ih hf n)
theorem nZ:∀{is:A05}{E E2:En},eF is E=some E2->E2.length=E.length/\∀j,(j∉is->E2[j]?=E[j]?)/\(j∈is->∃k d,E[j]?=some (some (k,d))/\k.fz=true/\E2[j]?=some (some (.sh,d)))
 |[],E,E2,h=>by cases h;exact⟨rfl,λj=>⟨λ_=>rfl,λz=>by cases z⟩⟩
 |i::r,E,E2,h=>by
  have h:(dm E i).bind (eF r)=some E2:=h;cases hf:dm E i with
  |none=>rw[hf]at h;cases h
  |some E1=>
   rw[hf]at h;obtain⟨l1,g1⟩:=nZ (is:=r) (E:=E1) (E2:=E2) h;unfold dm at hf;split at hf
   .rename_i k d e;by_cases hk:k.fz=true
    .rw[if_pos hk]at hf;cases hf;have li:i<E.length:=by rcases W4 i E.length with h|h;{exact h};rw[VZ h]at e;cases e
     rw[VY]at l1;refine⟨l1,λj=>⟨λn=>?_,λm=>?_⟩⟩;{have n1:j≠i:=λz=>n (z▸V3);rw[(g1 j).1 λz=>n (V8 _ z),ak (Ne.symm n1)]};by_cases c:j=i;{subst c;by_cases m':j∈r;{obtain⟨k2,d2,e2,_,e3⟩:=(g1 j).2 m';rw[aD li]at e2;cases e2;exact⟨k,d,e,hk,e3⟩};exact⟨k,d,e,hk,by rw[(g1 j).1 m',aD li]⟩};have m':j∈r:=(VF.mp m).resolve_left c;obtain⟨k2,d2,e2,h2,e3⟩:=(g1 j).2 m';rw[ak (Ne.symm c)]at e2;exact⟨k2,d2,e2,h2,e3⟩
    rw[if_neg hk]at hf;cases hf
   cases hf
def Ac{F:Nat->A01}(R:Rl K g E U H Hm F)(hE:(if flat k v=true then some E else eF is E)=some E2)(sH:ah H H')(s1:ah (lend Hm H (is.flatMap F)) Hm2)(s2:ah Hm2 H')(old:∀a,H a≠none->OE (Hm2 a) (lend Hm H (is.flatMap F) a))(o:Own K H' Hm2 k u v fp)(fr:∀a∈fp,H a=none/\Hm2 a=none) : ∃Hm' F',Rl K g E2 U H' Hm' F'/\ah Hm Hm'/\Tm K g F' H' Hm' k u v fp:=by
 have mem:∀{a i},a∈F i->i∈is->a∈is.flatMap F:=λha hi=>Vy.mpr ⟨_,hi,ha⟩;have off:∀a∈is.flatMap F,Hm a=none:=λa ha=>by obtain⟨i,_,h⟩:=Vy.mp ha;exact R.off i a h
 have up:ah Hm (lend Hm H (is.flatMap F)):=ie off;have bu:∀{i a},a∈F i->H a≠none:=λha z=>by obtain⟨u,hu,_⟩:=R.bu _ _ ha;rw[z]at hu;cases hu
 have nfp:∀a∈fp,∀i,a∉F i:=λa ha i=>R.fresh (fr a ha).1;by_cases hf:flat k v=true
 .rw[if_pos hf]at hE;cases hE;refine⟨back Hm2 (is.flatMap F),F,R.grow sH (λb o e=>?_) (zg s2) (λi a ha=>?_) (λa ha=>?_),λb o e=>?_,⟨o.flat (λa xs h=>?_) hf,λa ha=>?_,nfp,λa ha=>R.fH (fr a ha).1⟩⟩;{rw[c8 λz=>by rw[off b z]at e;cases e];exact s1 _ _ (up _ _ e)};{by_cases c:a∈is.flatMap F;{exact jg c};rw[c8 c];obtain⟨w,hw,nt⟩:=R.bu i a ha;exact(old a (bu ha)).off (by rw[cQ c];exact R.off i a ha) s2 (sH _ _ hw) nt};{by_cases c:a∈is.flatMap F;{rw[jg c,off a c];exact .inl rfl};have h:=old a (R.nL ha);rw[cQ c]at h;rw[c8 c];exact h};{rw[c8 λz=>by rw[off b z]at e;cases e];exact s1 _ _ (up _ _ e)}
  .have c:a∉is.flatMap F:=λz=>by obtain⟨i,_,hi⟩:=Vy.mp z;obtain⟨w,hw,nt⟩:=R.bu i a hi;have e2:Hm2 a=some w:=s1 _ _ (by rw[eW z];exact hw);rw[e2]at h;cases h;exact nt xs rfl
   rw[c8 c];exact h
  by_cases c:a∈is.flatMap F;{exact jg c};rw[c8 c];exact(fr a ha).2
 rw[if_neg hf]at hE;obtain⟨l2,g2⟩:=nZ hE;have R':Rl K g E2 U H' Hm2 (λj=>if j∈is then []else F j):={
  len:=l2.trans R.len
  sub:=s2
  slot:=λj k' d' e'=>by
   by_cases c:j∈is
   .obtain⟨k0,d0,e0,hk0,e1⟩:=(g2 j).2 c;rw[e1]at e';cases e';obtain⟨v',h1,h2⟩:=R.slot j k0 _ e0;refine⟨v',h1,?_⟩;rw[if_pos c];exact .sh ((h2.rp (by cases k0<;>first|rfl|cases hk0) up λa ha=>eW (mem ha c)).mono s1)
   .rw[(g2 j).1 c]at e';obtain⟨v',h1,h2⟩:=R.slot j k' d' e';refine⟨v',h1,?_⟩;rw[if_neg c];refine h2.step (up.trans s1) λa ha=>?_
    obtain⟨w,hw,_⟩:=h2.live a ha;rw[hw];exact sH _ _ hw
  off:=λj a ha=>by
   by_cases c:j∈is
   .rw[if_pos c]at ha;cases ha
   .rw[if_neg c]at ha;obtain⟨w,hw,nt⟩:=R.bu j a ha;refine(old a (bu ha)).off ?_ s2 (sH _ _ hw) nt;rw[cQ]
    .exact R.off j a ha
    .intro z;obtain⟨i,hi,h⟩:=Vy.mp z;exact c (R.aF i j a h ha▸hi)
  bu:=λj a ha=>by
   by_cases c:j∈is
   .rw[if_pos c]at ha;cases ha
   .rw[if_neg c]at ha;obtain⟨w,hw,nt⟩:=R.bu j a ha;exact⟨w,sH _ _ hw,nt⟩
  aF:=λj l a h1 h2=>by
   by_cases c:j∈is
   .rw[if_pos c]at h1;cases h1
   .rw[if_neg c]at h1
    by_cases c':l∈is
    .rw[if_pos c']at h2;cases h2
    .rw[if_neg c']at h2;exact R.aF j l a h1 h2
  fr:=λp o hp ho=>sH _ _ (R.fr p o hp ho)
  new:=λj a ha=>by
   by_cases c:j∈is
   .rw[if_pos c]at ha;cases ha
   .rw[if_neg c]at ha;exact R.new j a ha
  pin:=λq hq=>by
   obtain⟨h1,ds',h2⟩:=R.pin q hq;have c:q.1∉is:=λz=>by
    obtain⟨k0,d0,e0,hk0,_⟩:=(g2 q.1).2 z;rw[h2]at e0;cases e0;cases hk0
   exact⟨h1,ds',by rw[(g2 q.1).1 c];exact h2⟩
  old:=λa ha=>by
   refine(old a (R.nL ha)).trans ?_;rw[cQ]
   .exact R.old a ha
   .intro z;obtain⟨i,hi,h⟩:=Vy.mp z;obtain⟨k0,d0,e0,hk0,_⟩:=(g2 i).2 hi;exact ha (R.notM e0 (by cases k0<;>first|rfl|(rename_i p;cases p<;>first|rfl|cases hk0)|cases hk0) h) }
 refine⟨Hm2,_,R',up.trans s1,⟨o,λa ha=>(fr a ha).2,λa ha i=>?_,λa ha=>R.fH (fr a ha).1⟩⟩;by_cases c:i∈is;{rw[if_pos c];simp};rw[if_neg c];exact nfp a ha i
def cM (K:Frag)(f:DR)(r:List V->Hp->VK->Prop):Prop:=
 ∀(H Hm:Hp)(vs:List V)(ds:Zy)(P:Kd->PyData->Prop)(Q:VK),ah Hm H->ay K Hm vs ds->f ds P->
  (∀k v u H' Hm' fp,P k v->ah H H'->ah Hm Hm'->ah Hm' H'->(∀a,H a≠none->OE (Hm' a) (Hm a))->Own K H' Hm' k u v fp->(∀a∈fp,H a=none/\Hm' a=none)->Q u H')->r vs H Q
def gk(S:aN X Ex Y es as)(hr:∀U H Q,pQ X es U H (λvs H1=>r vs H1 Q)->WE X e U H Q)(D:cM X.K f r):SE X Ex Y e (aa f as):=by
 intro g x E U H Hm F P Q hx R h q;refine hr _ _ _ (ju hx S R h λE1 os vs H1 Hm1 F1 p R1 s1 G=>?_);replace p:zO f as E1 os P:=p;unfold zO at p;rw[<-aX,eL]at p;obtain⟨ds,hf,hg⟩:=p;have off:∀a∈(cP as).flatMap F1,Hm1 a=none:=λa ha=>by obtain⟨i,_,h⟩:=Vy.mp ha;exact R1.off i a h
 have up:=ie (Hm:=Hm1) (H:=H1) off;refine D H1 (lend Hm1 H1 ((cP as).flatMap F1)) vs ds _ Q (i8 R1.sub) (nB R1 up G hf λi hi a ha=>eW (Vy.mpr ⟨i,hi,ha⟩)) hg λk v u H' Hm2 fp p sH sM sS old o fr=>?_;replace p:aA (sO as E1 k v) _:=p;rw[<-aX,Bu]at p;obtain⟨E2,ha,p⟩:=p;obtain⟨Hm',F',R',s',T⟩:=Ac R1 (is:=cP as) (tE ha) sH sM sS old o fr;exact q _ _ _ _ _ _ _ _ p R' (s1.trans s') T
end Dv
namespace L2
open PySem PySem.Spec PyProof.Rows
variable{X:Cx}
def Dj (i j:Int):Prop:=0<j/\j<115792089237316195423570985008687907853269984665640564039457584007913129639936
def Iw:bE X (binaryOp .FloorDiv) (rI Dj λi j=>.int (i/j)):=BH λi j _ _ _ _ _ hc q=>by
 have h1:(0:Int)<j:=hc.1;have h2:j<115792089237316195423570985008687907853269984665640564039457584007913129639936:=hc.2;refine floordiv_int (by lia) (by rw[Int.fdiv_eq_ediv_of_nonneg i (by lia)];exact q) (.inl (PyProof.noPylong_of_log2 ?_));have:j.natAbs.log2<256:=(Nat.log2_lt (by lia)).mpr (by
  have:(2:Nat)^256=115792089237316195423570985008687907853269984665640564039457584007913129639936:=by decide
  lia)
 lia
end L2
namespace SM
open PySem PySem.SetTable
variable{prog:Program}{w:World}{K:Type}[DecidableEq K]{knd:KeyKind prog w K}{A:Around}{E:Zn}{s:Shared}
abbrev lg (w:World):Obj:={ cls:=.type "set",dict:=none,data:=.set #[] 0 (.fresh 0 0 (!(w.params.followText "set-order"))) }
end SM
namespace TS
open PySem PyProof.Rows
section
variable{prog:Program}{w:World}{A:Around}{E:Zn}{s:Shared}
def vf (prog:Program)(w:World)(A:Around)(s:Shared)(kd:SortKind)(P:Value->Prop):Prop:=∀(E:Zn) x y,P x->P y->∀Q:Bool->Shared->Prop,(∀b,Q b s)->wpAny (model prog w) A (keyLt' kd x y) Q E s
def Good (P:Value->Prop)(xs:Array Keyed):Prop:=∀(i:Nat)(p:Keyed),xs[i]?=some p->P p.1
variable{kd:SortKind}{P:Value->Prop}
def ask{st:SortSt}(L:vf prog w A s kd P)(hk:kindOf st=kd)(hx:P x.1)(hy:P y.1)(h:∀b,Q (some b) st):wpS (model prog w) A E s (lt' x y) Q st:=by rw[lt'_eq];refine VE (wpS_get ?_);rw[hk];refine VE (wpS_lift (wpAny_attempt (L _ _ _ hx hy _ λb=>⟨rfl,?_⟩)));exact VT (h b)
def Cv{st:SortSt}{i:Nat}(hi:i<xs.size)(h:∀p,xs[i]?=some p->Q p st):wpS (model prog w) A E s (elem' xs i) Q st:=by rw[elem'_eq,WQ hi];exact VT (h _ (WQ hi))
def Uv{M:Model}{U α:Type}{a b:Nat}{m1 m2:StateT U Sem α}{Q:α->U->Prop}{st:U}(h1:a=b->wpS M A E s m1 Q st)(h2:a≠b->wpS M A E s m2 Q st):wpS M A E s (if(a==b)=true then m1 else m2) Q st:=by by_cases e:a=b;{rw[if_pos (beq_iff_eq.mpr e)];exact h1 e};rw[if_neg (λz=>e (beq_iff_eq.mp z))];exact h2 e
def jq{M:Model}{U α:Type}{c:Prop} [Decidable c]{m1 m2:StateT U Sem α}{Q:α->U->Prop}{st:U}(h1:c->wpS M A E s m1 Q st)(h2:¬c->wpS M A E s m2 Q st):wpS M A E s (if c then m1 else m2) Q st:=by by_cases e:c;{rw[if_pos e];exact h1 e};rw[if_neg e];exact h2 e
end
structure SB(kd:SortKind)(xs0:Array Keyed)(st:SortSt):Prop where
 perm:(arrOf st).Perm xs0
 kind:kindOf st=kd
 ok:failedOf st=none
theorem SB.size{kd:SortKind}{st:SortSt}(B:SB kd xs0 st):(arrOf st).size=xs0.size:=B.perm.size_eq
def Good.perm(G:Good P ys)(p:xs.Perm ys):Good P xs:=λi q h=>by have m:q∈xs.toList:=VV (by rw[WK];exact h);have m2:q∈ys.toList:=(Array.perm_iff_toList_perm.mp p).mem_iff.mp m;obtain⟨j,hj⟩:=W6 m2;rw[WK]at hj;exact G j q hj
variable{prog:Program}{w:World}{A:Around}{E:Zn}{s:Shared}{kd:SortKind}{P:Value->Prop}{xs0:Array Keyed}
def f6{st:SortSt}{i j:Nat}(L:vf prog w A s kd P)(G:Good P xs0)(B:SB kd xs0 st)(hi:i<xs0.size)(hj:j<xs0.size)(h:∀b,Q (some b) st):wpS (model prog w) A E s (ltAt' i j) Q st:=by rw[ltAt'_eq];refine VE (wpS_get ?_);have G':=G.perm B.perm;refine VE (Cv (by rw[B.size];exact hi) λp hp=>?_);refine VE (Cv (by rw[B.size];exact hj) λq hq=>?_);exact ask L B.kind (G' _ _ hp) (G' _ _ hq) h
def iP{st:SortSt}{i j:Nat}(B:SB kd xs0 st)(h:∀st',SB kd xs0 st'->pendingOf st'=pendingOf st->Q () st'):wpS (model prog w) A E s (reverseSlice' i j) Q st:=by rw[reverseSlice'_eq];exact wpS_modify (h _ ⟨(mirror_perm _ _ _ _).trans B.perm,B.kind,B.ok⟩ rfl)
def Jy{st:SortSt}{lo nrem:Nat}(L:vf prog w A s kd P)(G:Good P xs0)(B:SB kd xs0 st)(h1:1<=nrem)(hn:lo+nrem<=xs0.size)(h:∀m st',SB kd xs0 st'->pendingOf st'=pendingOf st->1<=m->m<=nrem->Q (some m) st') : wpS (model prog w) A E s (countRun' lo nrem) Q st:=by
 unfold countRun';refine VE (Wo (Wq (I:=λx c st'=>st'=st/\c.1=none/\c.2=x) (Q:=λc st'=>st'=st/\c.1=none/\1<=c.2/\c.2<=nrem) ?step ?fin ⟨rfl,rfl,rfl⟩) ?post)
 case step=>
  rintro x⟨o,n⟩st' a b⟨rfl,rfl,rfl⟩;dsimp only;refine VE (f6 L G B (by dsimp only at a b;lia) (by dsimp only at a b;lia) λc=>?_)
  dsimp only;refine jq (λ_=>VT ⟨rfl,rfl,by dsimp only at a b⊢;lia,by dsimp only at a b⊢;lia⟩) (λ_=>VT ⟨rfl,rfl,rfl⟩)
 case fin=>
  rintro⟨o,n⟩st'⟨rfl,rfl,e⟩;dsimp only at e;exact⟨rfl,rfl,by dsimp only;lia,by dsimp only;lia⟩
 case post=>
  rintro⟨o,n⟩st'⟨rfl,rfl,n1,n2⟩;dsimp only at n1 n2⊢;refine Uv (λe=>VT (h _ _ B rfl n1 n2)) (λe=>?_)
  refine jq (λn0=>?_) (λn0=>?_)
  .refine VE (f6 L G B (by lia) (by lia) λc=>?_)
   dsimp only;refine jq (λ_=>VT (h _ _ B rfl n1 n2)) (λ_=>?_)
   refine VE (iP B λst6 B6 p6=>?_)
   refine VE (wpS_lift (Ww ⟨rfl,?_⟩));refine VE (Wo (Wq (I:=λx c st2=>SB kd xs0 st2/\pendingOf st2=pendingOf st'/\c.1=none/\c.2.1=x) (Q:=λc st2=>SB kd xs0 st2/\pendingOf st2=pendingOf st'/\c.1=none/\1<=c.2.1/\c.2.1<=nrem) ?step1 ?fin1 ⟨B6,p6,rfl,rfl⟩) ?post1)
   case step1=>
    rintro x⟨o,m,q⟩st2 a b⟨B2,p2,rfl,rfl⟩;dsimp only at a b⊢;refine VE (f6 L G B2 (by lia) (by lia) λc=>?_)
    dsimp only;refine jq (λ_=>?_) (λ_=>?_)
    .refine jq (λ_=>?_) (λ_=>?_)
     .exact VE (iP B2 λst3 B3 p3=>VT ⟨B3,p3.trans p2,rfl,rfl⟩)
     .exact VT ⟨B2,p2,rfl,rfl⟩
    .refine VE (f6 L G B2 (by lia) (by lia) λc2=>?_)
     dsimp only;refine jq (λ_=>?_) (λ_=>?_)
     .exact VT ⟨B2,p2,rfl,by dsimp only;lia,by dsimp only;lia⟩
     .exact VT ⟨B2,p2,rfl,rfl⟩
   case fin1=>
    rintro⟨o,m,q⟩st2⟨B2,p2,rfl,e2⟩;dsimp only at e2;exact⟨B2,p2,rfl,by dsimp only;lia,by dsimp only;lia⟩
   case post1=>
    rintro⟨o,m,q⟩st2⟨B2,p2,rfl,m1,m2⟩;dsimp only at m1 m2⊢;refine jq (λ_=>?_) (λ_=>?_)
    .refine VE (iP B2 λst3 B3 p3=>?_)
     refine VE (iP B3 λst4 B4 p4=>?_)
     refine VE (Wo (Wq (I:=λx c st5=>st5=st4/\c.1=none/\c.2=x) (Q:=λc st5=>st5=st4/\c.1=none/\1<=c.2/\c.2<=nrem) ?stepL2 ?finL2 ⟨rfl,rfl,rfl⟩) ?postL2)
     case stepL2=>
      rintro x⟨o,m⟩st5 a b⟨rfl,rfl,rfl⟩;dsimp only at a b⊢;refine VE (f6 L G B4 (by lia) (by lia) λc=>?_)
      dsimp only;refine jq (λ_=>VT ⟨rfl,rfl,by dsimp only;lia,by dsimp only;lia⟩) (λ_=>VT ⟨rfl,rfl,rfl⟩)
     case finL2=>
      rintro⟨o,m⟩st5⟨rfl,rfl,e2⟩;dsimp only at e2;exact⟨rfl,rfl,by dsimp only;lia,by dsimp only;lia⟩
     case postL2=>
      rintro⟨o,m⟩st5⟨rfl,rfl,k1,k2⟩;dsimp only at k1 k2⊢;exact VT (h _ _ B4 (p4.trans (p3.trans p2)) k1 k2)
    .refine VE (iP B2 λst4 B4 p4=>?_)
     refine VE (Wo (Wq (I:=λx c st5=>st5=st4/\c.1=none/\c.2=x) (Q:=λc st5=>st5=st4/\c.1=none/\1<=c.2/\c.2<=nrem) ?stepL3 ?finL3 ⟨rfl,rfl,rfl⟩) ?postL3)
     case stepL3=>
      rintro x⟨o,m⟩st5 a b⟨rfl,rfl,rfl⟩;dsimp only at a b⊢;refine VE (f6 L G B4 (by lia) (by lia) λc=>?_)
      dsimp only;refine jq (λ_=>VT ⟨rfl,rfl,by dsimp only;lia,by dsimp only;lia⟩) (λ_=>VT ⟨rfl,rfl,rfl⟩)
     case finL3=>
      rintro⟨o,m⟩st5⟨rfl,rfl,e2⟩;dsimp only at e2;exact⟨rfl,rfl,by dsimp only;lia,by dsimp only;lia⟩
     case postL3=>
      rintro⟨o,m⟩st5⟨rfl,rfl,k1,k2⟩;dsimp only at k1 k2⊢;exact VT (h _ _ B4 (p4.trans p2) k1 k2)
  .have p6:pendingOf st'=pendingOf st':=rfl;refine VE (wpS_lift (Ww ⟨rfl,?_⟩));refine VE (Wo (Wq (I:=λx c st2=>SB kd xs0 st2/\pendingOf st2=pendingOf st'/\c.1=none/\c.2.1=x) (Q:=λc st2=>SB kd xs0 st2/\pendingOf st2=pendingOf st'/\c.1=none/\1<=c.2.1/\c.2.1<=nrem) ?step4 ?fin4 ⟨B,p6,rfl,rfl⟩) ?post4)
   case step4=>
    rintro x⟨o,m,q⟩st2 a b⟨B2,p2,rfl,rfl⟩;dsimp only at a b⊢;refine VE (f6 L G B2 (by lia) (by lia) λc=>?_)
    dsimp only;refine jq (λ_=>?_) (λ_=>?_)
    .refine jq (λ_=>?_) (λ_=>?_)
     .exact VE (iP B2 λst3 B3 p3=>VT ⟨B3,p3.trans p2,rfl,rfl⟩)
     .exact VT ⟨B2,p2,rfl,rfl⟩
    .refine VE (f6 L G B2 (by lia) (by lia) λc2=>?_)
     dsimp only;refine jq (λ_=>?_) (λ_=>?_)
     .exact VT ⟨B2,p2,rfl,by dsimp only;lia,by dsimp only;lia⟩
     .exact VT ⟨B2,p2,rfl,rfl⟩
   case fin4=>
    rintro⟨o,m,q⟩st2⟨B2,p2,rfl,e2⟩;dsimp only at e2;exact⟨B2,p2,rfl,by dsimp only;lia,by dsimp only;lia⟩
   case post4=>
    rintro⟨o,m,q⟩st2⟨B2,p2,rfl,m1,m2⟩;dsimp only at m1 m2⊢;refine jq (λ_=>?_) (λ_=>?_)
    .refine VE (iP B2 λst3 B3 p3=>?_)
     refine VE (iP B3 λst4 B4 p4=>?_)
     refine VE (Wo (Wq (I:=λx c st5=>st5=st4/\c.1=none/\c.2=x) (Q:=λc st5=>st5=st4/\c.1=none/\1<=c.2/\c.2<=nrem) ?stepL5 ?finL5 ⟨rfl,rfl,rfl⟩) ?postL5)
     case stepL5=>
      rintro x⟨o,m⟩st5 a b⟨rfl,rfl,rfl⟩;dsimp only at a b⊢;refine VE (f6 L G B4 (by lia) (by lia) λc=>?_)
      dsimp only;refine jq (λ_=>VT ⟨rfl,rfl,by dsimp only;lia,by dsimp only;lia⟩) (λ_=>VT ⟨rfl,rfl,rfl⟩)
     case finL5=>
      rintro⟨o,m⟩st5⟨rfl,rfl,e2⟩;dsimp only at e2;exact⟨rfl,rfl,by dsimp only;lia,by dsimp only;lia⟩
     case postL5=>
      rintro⟨o,m⟩st5⟨rfl,rfl,k1,k2⟩;dsimp only at k1 k2⊢;exact VT (h _ _ B4 (p4.trans (p3.trans p2)) k1 k2)
    .refine VE (iP B2 λst4 B4 p4=>?_)
     refine VE (Wo (Wq (I:=λx c st5=>st5=st4/\c.1=none/\c.2=x) (Q:=λc st5=>st5=st4/\c.1=none/\1<=c.2/\c.2<=nrem) ?stepL6 ?finL6 ⟨rfl,rfl,rfl⟩) ?postL6)
     case stepL6=>
      rintro x⟨o,m⟩st5 a b⟨rfl,rfl,rfl⟩;dsimp only at a b⊢;refine VE (f6 L G B4 (by lia) (by lia) λc=>?_)
      dsimp only;refine jq (λ_=>VT ⟨rfl,rfl,by dsimp only;lia,by dsimp only;lia⟩) (λ_=>VT ⟨rfl,rfl,rfl⟩)
     case finL6=>
      rintro⟨o,m⟩st5⟨rfl,rfl,e2⟩;dsimp only at e2;exact⟨rfl,rfl,by dsimp only;lia,by dsimp only;lia⟩
     case postL6=>
      rintro⟨o,m⟩st5⟨rfl,rfl,k1,k2⟩;dsimp only at k1 k2⊢;exact VT (h _ _ B4 (p4.trans p2) k1 k2)
def P8{st:SortSt}{lo n k:Nat}(L:vf prog w A s kd P)(G:Good P xs0)(B:SB kd xs0 st)(hn:lo+n<=xs0.size)(h:∀st',SB kd xs0 st'->pendingOf st'=pendingOf st->Q true st') : wpS (model prog w) A E s (binarySort' lo n k) Q st:=by
 unfold binarySort';refine VE (Wo (Wq (I:=λx c st'=>SB kd xs0 st'/\pendingOf st'=pendingOf st/\c.1=none) (Q:=λc st'=>SB kd xs0 st'/\pendingOf st'=pendingOf st/\c.1=none) ?step (λ_ _ q=>q) ⟨B,rfl,rfl⟩) ?post)
 case post=>
  rintro⟨o,u⟩st'⟨B1,p1,rfl⟩;exact VT (h _ B1 p1)
 case step=>
  rintro x⟨o,u⟩st' a b⟨B1,p1,rfl⟩;dsimp only;refine VE (Wo (Wq (I:=λy c st2=>st2=st'/\c.1=none/\c.2.2<=x) (Q:=λc st2=>st2=st'/\c.1=none/\c.2.2<=x) ?step1 (λ_ _ q=>q) ⟨rfl,rfl,V4 _⟩) ?post1)
  case step1=>
   rintro y⟨o,l,r⟩st2 _ _⟨rfl,rfl,le⟩;dsimp only at le⊢;refine jq (λ_=>VT ⟨rfl,rfl,le⟩) (λlr=>?_)
   refine VE (f6 L G B1 (by lia) (by lia) λc=>?_)
   dsimp only;refine jq (λ_=>VT ⟨rfl,rfl,by dsimp only;lia⟩) (λ_=>VT ⟨rfl,rfl,le⟩)
  case post1=>
   rintro⟨o,l,r⟩st2⟨rfl,rfl,le⟩;dsimp only;refine VE (wpS_modify ?_);exact VT ⟨⟨(bubble_perm _ _ _).trans B1.perm,B1.kind,B1.ok⟩,p1,rfl⟩
def IsPair (h:Heap)(v:Value):Prop:=∃(a:Addr)(o:Obj) (i j:Int)(t u:Tok) (n:Nat),v=.ref a/\h.get? a=some o/\o.cls=.type "tuple"/\o.data=.seq #[.int i t,.int j u] n
def Np(b:Bool){i j:Int}(h:∀c,Q c s):wpAny (model prog w) A (oneLt' b (.int i t) (.int j u)) Q E s:=by
 cases b with
 |true=>exact oneLt_int (h _)
 |false=>rw[oneLt'_eq];rw[if_neg VQ];refine V0 (?_:wpAny _ _ (compareOp .Lt (.int i t) (.int j u)) _ _ _);exact lt_int (XG (h _))
def D0:vf prog w A s (tuples' true) (IsPair s.heap):=by
 rintro E x y⟨a,o,i,j,t,u,n,rfl,ho,hc,hd⟩⟨a2,o2,i2,j2,t2,u2,n2,rfl,ho2,hc2,hd2⟩Q h;refine V0 (Yo ho hd ?_);refine V0 (Yo ho2 hd2 ?_);dsimp only;refine V0 ?_;refine YJ _ (λrest r s'=>s'=s/\r.1=none/\∀x∈rest,∃(i j:Int)(t u:Tok),x.1=(Value.int i t,Value.int j u)) _ ?_ ?_ _ _ ⟨rfl,rfl,λx hx=>?_⟩
 .rintro⟨⟨p,q⟩,k⟩rest⟨r,⟨⟩⟩s'⟨rfl,rfl,hall⟩;obtain⟨i3,j3,t3,u3,e⟩:=hall _ V3;dsimp only at e;cases e;dsimp only;refine V0 ((intKind prog w).eqBool (a:=i3) (b:=j3) (intKind_is _ _ i3 t3) (intKind_is _ _ j3 u3) ?_);cases decide (i3=j3)with
  |true=>exact V1 ⟨rfl,rfl,λx hx=>hall x (V8 _ hx)⟩
  |false=>exact V0 (Np _ λc=>V1 (V1 (h c)))
 .rintro⟨r,⟨⟩⟩s'⟨rfl,rfl,_⟩;exact V1 (h _)
 have hx':x=((Value.int i t,Value.int i2 t2),0)\/x=((Value.int j u,Value.int j2 u2),1):=by simpa using hx
 rcases hx' with rfl|rfl;{exact⟨_,_,_,_,rfl⟩};exact⟨_,_,_,_,rfl⟩
def Ef(hv:IsPair s.heap v)(h:∀i t,Q (some (.int i t)) s):wpAny (model prog w) A (firstOfTuple' v) Q E s:=by obtain⟨a,o,i,j,t,u,n,rfl,ho,hc,hd⟩:=hv;unfold firstOfTuple';refine V0 (Xq (T:="tuple") ⟨o,ho,hc⟩ ?_);rw[if_neg (by decide)];refine V0 (Yo ho hd (V1 ?_));exact h i t
theorem firsts:∀{vs:A00},(∀v∈vs,IsPair s.heap v)->(∀os:List (Zw),os.length=vs.length->(∀o∈os,∃i t,o=some (Value.int i t))->Q os s)->wpAny (model prog w) A (vs.mapM firstOfTuple') Q E s
 |[],_,h=>by rw[List.mapM_nil];exact V1 (h [] rfl λo ho=>(nomatch ho))
 |v::r,hv,h=>by rw[List.mapM_cons];refine V0 (Ef (hv v V3) λi t=>?_);refine V0 (firsts (λx hx=>hv x (V8 _ hx)) λos ol oh=>?_);refine V1 (h _ (by simp[ol]) λo ho=>?_);rcases VF.mp ho with rfl|ho;{exact⟨i,t,rfl⟩};exact oh o ho
def Ej{Q:SortKind->Shared->Prop}(h0:vs≠[])(hv:∀v∈vs,IsPair s.heap v)(h:Q (tuples' true) s):wpAny (model prog w) A (keyKind' vs.toArray) Q E s:=by
 rw[keyKind'_eq,List.mapM_toArray];rw[map_eq_pure_bind,bind_assoc];refine V0 (firsts hv λos ol oh=>?_);rw[pure_bind];have all:os.toArray.all (·.isSome)=true:=by rw[List.all_toArray,VW];intro o ho;obtain⟨i,t,rfl⟩:=oh o ho;rfl
 rw[if_pos all];refine V0 (Ww ?_);have inte:∃us:A00,os.toArray.filterMap id=us.toArray/\us≠[]/\∃ns,IntsAre us ns:=by
  have go:∀os:List (Zw),(∀o∈os,∃i t,o=some (Value.int i t))->∃us ns,os.filterMap id=us/\us.length=os.length/\IntsAre us ns:=λos=>by
   induction os with
   |nil=>exact λ_=>⟨[],[],rfl,rfl,.nil⟩
   |cons o r ih=>intro hh;obtain⟨i,t,rfl⟩:=hh o V3;obtain⟨us,ns,e,l,I⟩:=ih λx hx=>hh x (V8 _ hx);exact⟨.int i t::us,i::ns,by simp[e],by simp[l],.cons i t I⟩
  obtain⟨us,ns,e,l,I⟩:=go os oh;refine⟨us,?_,λz=>h0 ?_,ns,I⟩;{rw[List.filterMap_toArray,e]};rw[z]at l;have:vs.length=0:=by rw[<-ol,<-l];rfl
  exact List.length_eq_zero_iff.mp this
 obtain⟨us,e,un,ns,I⟩:=inte;rw[e,oneTypeOnly'_eq,List.mapM_toArray,mapM_typeOf_ints I];simp only[map_pure,pure_bind];obtain⟨u0,ur,rfl⟩:=List.exists_cons_of_ne_nil un;have hall:((List.map (λ_=>Value.type "int") (u0::ur)).toArray.all λx=>x==Value.type "int")=true:=by simp only[List.all_toArray,List.all_map,VW];intro _ _;rfl
 have h1:(List.map (λ_=>Value.type "int") (u0::ur)).toArray[0]?=some (Value.type "int"):=by simp
 rw[h1];simp only[hall,if_true,pure_bind];exact V1 h
def IsPair.keep{a:Addr}(p:IsPair h v)(ha:h.get? a=some c)(hc:c.cls=.type "list")(k:∀b o,b≠a->h.get? b=some o->h'.get? b=some o):IsPair h' v:=by obtain⟨b,o,i,j,t,u,n,rfl,ho,hco,hd⟩:=p;refine⟨b,o,i,j,t,u,n,rfl,k b o (λz=>?_) ho,hco,hd⟩;rw[z,ha]at ho;cases ho;rw[hc]at hco;injection hco with z;exact absurd z (by decide)
end TS
namespace L2
open PySem PySem.Spec PyProof.Rows
def G8(p:us.Perm its):∀{ys:List V},Vals ys its->∃zs,zs.Perm ys/\Vals zs us:=by
 induction p with
 |nil=>exact λ{ys} r=>⟨ys,List.Perm.refl _,r⟩
 |cons x _ ih=>
  intro ys r;cases r with
  |cons h r=>obtain⟨zs,p1,r1⟩:=ih r;exact⟨_::zs,p1.cons _,.cons h r1⟩
 |swap x y l=>
  intro ys r;cases r with
  |cons h r=>
   cases r with
   |cons h2 r=>exact⟨_::_::_,List.Perm.swap _ _ _,.cons h2 (.cons h r)⟩
 |trans _ _ ih1 ih2=>intro ys r;obtain⟨zs,p1,r1⟩:=ih2 r;obtain⟨ws,p2,r2⟩:=ih1 r1;exact⟨ws,p2.trans p1,r2⟩
def P4 (K:Zv)(a:Addr):It:=
 ⟨λi H=>∃xs x,bH K H a xs/\xs[i]?=some x,λi H v H'=>∃T,H T=none/\v=.ref T/\∀xs,bH K H a xs->∃x,xs[i]?=some x/\H'=upd H T (.tup [.int i,x]),λi H=>∃xs,bH K H a xs/\xs.length<=i⟩
def Ii{P:Program}{w:World}{K:Zv}{elts:A03}{x1:Nat}{pos:Pos}(a e it:Addr)(hne:e≠it) : Turn P w K (.Tuple elts x1 pos) (P4 K a) [e,it] e (λi h=>(∃old,IsEnum h e it i old)/\h.IsListIter it a i) where
 mem:=by simp
 obj:=λi h st b hb=>by
  obtain⟨⟨old,he⟩,o,e1,c,d⟩:=st;rcases VF.mp hb with z|z
  .subst z;exact⟨_,he,λv q=>by cases q⟩
  .have z:b=it:=by simpa using z
   subst z;exact⟨o,e1,λv q=>by rw[d]at q;cases q⟩
 keep:=λi h h' st k=>by
  obtain⟨⟨old,he⟩,li⟩:=st;exact⟨⟨old,k e (by simp) _ he⟩,li.at λo q=>k it (by simp) o q⟩
 item:=by
  intro X hP hw hK hc i pins s U H E I hf st hg;subst hP hw hK;obtain⟨xs,x,hq,hx⟩:=hg;obtain⟨its,rv,p,hz⟩:=I.list hq;obtain⟨u,hu,ru⟩:=rv.get hx;obtain⟨⟨old,he⟩,hit⟩:=st;have fe:=hf e (by simp)
  have fi:=hf it (by simp)
  refine wpAny_pyNext_enum_item he hit p.isList (x:=u) (by simpa using hu) hne λh1 heo hit1 ht1 hz1 hk1=>⟨_,rfl,?_⟩
  refine wpAny_letOwnedTupleGo_enum heo λh2 he2 hs2=>?_
  have elt:e<s.heap.objs.size:=VC he;have ht2:h2.get? s.heap.objs.size=some { cls:=.type "tuple",data:=.seq #[.int i s.toks,u] }:=(hs2.2 _ (Xc elt)).trans ht1;have hfr:H s.heap.objs.size=none:=I.hok.fresh (V4 _);have k2:∀b o,b≠e->b≠it->s.heap.get? b=some o->h2.get? b=some o:=λb o b1 b2 q=>hs2.extBut b o b1 (hk1 b o b1 b2 q)
  have neT:∀b o,H b=some o->b≠s.heap.objs.size:=λb o q z=>by rw[z,hfr]at q;cases q
  have neS:∀b o,s.heap.get? b=some o->b≠s.heap.objs.size:=λb o q=>VO (VC q)
  have nt:∀b o,H b=some o->b≠e/\b≠it:=λb o q=>⟨(λz=>by rw[z,fe.1]at q;cases q),(λz=>by rw[z,fi.1]at q;cases q)⟩
  have nin:∀b,b∉[e,it]->b≠e/\b≠it:=λb hb=>⟨λz=>hb (by simp[z]),λz=>hb (by simp[z])⟩
  have I2:Inv X pins U (upd H s.heap.objs.size (.tup [.int i,x])) { s with heap:=h2,toks:=s.toks+1 }:=by
   refine I.step (g':=s.gens) (d':=s.drawn) (ch:=[e,it]) (λb hb=>?_) (λb o _ _ hc' q _=>k2 b o (nin b hc').1 (nin b hc').2 q) (λb o _ _ hc' q _=>⟨o.slots,k2 b o (nin b hc').1 (nin b hc').2 q⟩)
    (λb o _ q n=>by rw[ai (neS b o q)];exact n) (λb o hc' q=>⟨o,k2 b o (nin b hc').1 (nin b hc').2 q⟩) (λb ys q=>by rw[ai (neT b _ q)];exact q) (λb o v q=>by rw[ai (neT b _ q)];exact q)
    (λb ps q=>⟨#[],by rw[ai (neT b _ q),q];simp⟩) (λm hm=>?_) (λb o q=>?_) I.bare
   .rcases VF.mp hb with z|z
    .subst z;exact⟨fe.2.2.2.1,fe.2.1,fe.2.2.2.2.1,fe.2.2.2.2.2⟩
    .have z:b=it:=by simpa using z
     subst z;exact⟨fi.2.2.2.1,fi.2.1,fi.2.2.2.2.1,fi.2.2.2.2.2⟩
   .obtain⟨o,es,ep,ho,r⟩:=hm;exact⟨o,es,ep,k2 _ o (Ne.symm fe.2.1) (Ne.symm fi.2.1) ho,r⟩
   .by_cases z:b=s.heap.objs.size
    .subst z;rw[av]at q;cases q;exact⟨(by show 2<=sizeLine;decide),[.int i s.toks,u],.cons ⟨_,rfl⟩ (.cons ru .nil),_,ht2,rfl,_,rfl⟩
    .rw[ai z]at q;refine(I.hok b o q).stay (λc v hc' r=>k2 c v ?_ ?_ r) (λc r=>by rw[ai (neT c _ r)];exact r) λc ys r=>by rw[ai (neT c _ r)];exact r
     .rcases hc' with y|y
      .rw[y];exact(nt b o q).1
      .exact(nt c _ y).1
     .rcases hc' with y|y
      .rw[y];exact(nt b o q).2
      .exact(nt c _ y).2
  refine⟨.ref s.heap.objs.size,_,I2,rfl,⟨s.heap.objs.size,hfr,rfl,λys hy=>⟨x,by rw[I.nV hy hq];exact hx,rfl⟩⟩,⟨⟨_,he2⟩,?_⟩,λb hb=>?_⟩
  .exact hit1.at λo q=>hs2.extBut it o (Ne.symm hne) q
  .rcases VF.mp hb with z|z
   .subst z;rw[ai (VO elt)];exact fe.1
   .have z:b=it:=by simpa using z
    subst z;obtain⟨o,q,_⟩:=id hit;rw[ai (VO (VC q))];exact fi.1
 done:=by
  intro X hP hw hK hc i pins s U H E I hf st hg;subst hP hw hK;obtain⟨xs,hq,hx⟩:=hg;obtain⟨its,rv,p,hz⟩:=I.list hq;obtain⟨⟨old,he⟩,hit⟩:=st;obtain⟨f0,f1,f2,f3,f4,f5⟩:=hf it (by simp)
  have hl:=rv.length;exact wpAny_pyNext_enum_end (I.ok.hd hc) he hit p.isList (by simp;lia) λh' eb=>⟨rfl,I.turned (t':=s.toks) (λb o hb q=>eb b o hb q) f0 f1 f3 f4 f5⟩
 self:=λ_ _ _ _ _ st h=>by
  obtain⟨⟨old,he⟩,_⟩:=st;exact wpAny_pyIter_enum he h
section
variable{X:Cx}
inductive Gy(K:Zv)(R:(It->Hp->Prop))(vs:List V)(H1:Hp):Prop
 |mk:∀a,(vs=[.ref a])->((∃xs,bH K H1 a xs))->(R (P4 K a) H1)->Gy K R vs H1
def Sh (K:Zv)(ta:TA):TI:=λU H R=>ta U H λvs H1=>Gy K R vs H1
def Ly{elts:A03}{x1:Nat}{tp p pos:Pos}{e:Expr}{ta:TA}(hg:Gl X "enumerate")(hm:X.mg "enumerate"=none)(ha:PA X [e] ta)(hs:starEach [e] X.env=[(false,eval e X.env)]:=by rfl) : PI X (.Tuple elts x1 tp) (.Call (.Name "enumerate" p) [e] [] pos) (Sh X.K ta):=by
 intro pins s U H R I h;refine Call_ (iQ I hg hm boot_enumerate (Xp (aH (ha pos pins s U H _ I h) λus s1 ⟨vs,H1,I1,r1,q1⟩=>?_) hs rfl));obtain⟨a,ev,⟨xs,hq⟩,q⟩:=q1;subst ev;obtain⟨u,rfl,ru⟩:=r1.one;cases ru;obtain⟨its,rv,pl,hz⟩:=I1.list hq;refine call_enumerate_list pl.isList λh' he hit hsz hk=>?_;refine wpAny_pyIter_enum he ?_;have I2:Inv X pins U H1 { s1 with heap:=h' }:=I1.kept (t':=s1.toks) hk;refine⟨s1.heap.objs.size+1,[s1.heap.objs.size+1,s1.heap.objs.size],_,_,H1,rfl,I2,Ii a _ _ (Nat.succ_ne_self _),⟨⟨_,he⟩,hit⟩,λb hb=>?_,q⟩;have hb:s1.heap.objs.size<=b:=by
  rcases VF.mp hb with z|z;{rw[z];exact Nat.le_succ _};have z:b=s1.heap.objs.size:=by simpa using z
  rw[z];exact V4 _
 exact I1.rV hb (I1.hok.fresh hb)
end
section
variable{prog:Program}{w:World}{A:Around}{R:Result->Shared->Prop}{s:Shared}
abbrev oQ (prog:Program)(w:World)(A:Around)(env:Env)(R:Result->Shared->Prop):Zn:=notedBy (model prog w) A env λe s'=>R (.error e) s'
def NC (K:Zv)(a b:Addr):It:=
 ⟨λi H=>∃xs ys x y,bH K H a xs/\bH K H b ys/\xs[i]?=some x/\ys[i]?=some y,λi H v H'=>∃T,H T=none/\v=.ref T/\∀xs ys,bH K H a xs->bH K H b ys->∃x y,xs[i]?=some x/\ys[i]?=some y/\H'=upd H T (.tup [x,y]),
  λi H=>∃xs ys,bH K H a xs/\bH K H b ys/\(xs.length<=i\/ys.length<=i)⟩
def Jk{P:Program}{w:World}{K:Zv}{elts:A03}{x1:Nat}{pos:Pos}(a b z TI TO i1 i2:Addr)(D:PySem.ZipApart z TI TO i1 i2 a b) : Turn P w K (.Tuple elts x1 pos) (NC K a b) [z,TI,TO,i1,i2] z (λi h=>PySem.IsZip h z TI TO .none/\PySem.IsPair h TI (.ref i1) (.ref i2)/\(∃u v,PySem.IsPair h TO u v)/\h.IsListIter i1 a i/\h.IsListIter i2 b i) where
 mem:=by simp
 obj:=λi h st c hc=>by
  obtain⟨h1,h2,⟨u,v,h3⟩,h4,h5⟩:=st;simp only[VF,WH,XA]at hc;rcases hc with rfl|rfl|rfl|rfl|rfl
  .exact⟨_,h1,λv q=>by cases q⟩
  .exact⟨_,h2,λv q=>by cases q⟩
  .exact⟨_,h3,λv q=>by cases q⟩
  .obtain⟨o,e1,_,d⟩:=h4;exact⟨o,e1,λv q=>by rw[d]at q;cases q⟩
  .obtain⟨o,e1,_,d⟩:=h5;exact⟨o,e1,λv q=>by rw[d]at q;cases q⟩
 keep:=λi h h' st k=>by
  obtain⟨h1,h2,⟨u,v,h3⟩,h4,h5⟩:=st;exact⟨k z (by simp) _ h1,k TI (by simp) _ h2,⟨u,v,k TO (by simp) _ h3⟩,h4.at λo q=>k i1 (by simp) o q,h5.at λo q=>k i2 (by simp) o q⟩
 item:=by
  intro X hP hw hK hc i pins s U H E I hf st hg;subst hP hw hK;obtain⟨xs,ys,x,y,hq,hq2,hx,hy⟩:=hg;obtain⟨its,rv,p,_⟩:=I.list hq;obtain⟨its2,rv2,p2,_⟩:=I.list hq2;obtain⟨u,hu,ru⟩:=rv.get hx;obtain⟨u2,hu2,ru2⟩:=rv2.get hy;obtain⟨h1,h2,⟨ua,ub,h3⟩,h4,h5⟩:=st;have fz:=hf z (by simp)
  have fI:=hf TI (by simp)
  have fO:=hf TO (by simp)
  have f1:=hf i1 (by simp)
  have f2:=hf i2 (by simp)
  refine PySem.wpAny_pyNext_zip_item D h1 h2 h3 h4 h5 p.isList p2.isList (x:=u) (y:=u2) (by simpa using hu) (by simpa using hu2) λhA a1 a2 a3 a4 a5 a6 a7=>⟨_,rfl,?_⟩
  refine PySem.wpAny_letOwnedTupleGo_zip a1 λhB b1 hs=>?_
  have zlt:z<s.heap.objs.size:=VC h1;have ht2:hB.get? s.heap.objs.size=some { cls:=.type "tuple",data:=.seq #[u,u2] }:=(hs.2 _ (Xc zlt)).trans a5;have hfr:H s.heap.objs.size=none:=I.hok.fresh (V4 _);have k2:∀c o,c≠z->c≠TO->c≠i1->c≠i2->s.heap.get? c=some o->hB.get? c=some o:=λc o c1 c2 c3 c4 q=>hs.extBut c o c1 (a7 c o c1 c2 c3 c4 q)
  have neT:∀c o,H c=some o->c≠s.heap.objs.size:=λc o q z=>by rw[z,hfr]at q;cases q
  have neS:∀c o,s.heap.get? c=some o->c≠s.heap.objs.size:=λc o q=>VO (VC q)
  have nt:∀c o,H c=some o->c≠z/\c≠TO/\c≠i1/\c≠i2:=λc o q=>⟨(λe=>by rw[e,fz.1]at q;cases q),(λe=>by rw[e,fO.1]at q;cases q),(λe=>by rw[e,f1.1]at q;cases q),(λe=>by rw[e,f2.1]at q;cases q)⟩
  have nin:∀c,c∉[z,TO,i1,i2]->c≠z/\c≠TO/\c≠i1/\c≠i2:=λc hc=>⟨λe=>hc (by simp[e]),λe=>hc (by simp[e]),λe=>hc (by simp[e]),λe=>hc (by simp[e])⟩
  have kk:∀c o,(c≠z/\c≠TO/\c≠i1/\c≠i2)->s.heap.get? c=some o->hB.get? c=some o:=λc o n q=>k2 c o n.1 n.2.1 n.2.2.1 n.2.2.2 q
  have I2:Inv X pins U (upd H s.heap.objs.size (.tup [x,y])) { s with heap:=hB }:=by
   refine I.step (g':=s.gens) (d':=s.drawn) (t':=s.toks) (ch:=[z,TO,i1,i2]) (λc hc=>?_) (λc o _ _ hc' q _=>kk c o (nin c hc') q) (λc o _ _ hc' q _=>⟨o.slots,kk c o (nin c hc') q⟩)
    (λc o _ q n=>by rw[ai (neS c o q)];exact n) (λc o hc' q=>⟨o,kk c o (nin c hc') q⟩) (λc ys q=>by rw[ai (neT c _ q)];exact q) (λc o v q=>by rw[ai (neT c _ q)];exact q)
    (λc ps q=>⟨#[],by rw[ai (neT c _ q),q];simp⟩) (λm hm=>?_) (λc o q=>?_) I.bare
   .simp only[VF,WH,XA]at hc;rcases hc with rfl|rfl|rfl|rfl
    .exact⟨fz.2.2.2.1,fz.2.1,fz.2.2.2.2.1,fz.2.2.2.2.2⟩
    .exact⟨fO.2.2.2.1,fO.2.1,fO.2.2.2.2.1,fO.2.2.2.2.2⟩
    .exact⟨f1.2.2.2.1,f1.2.1,f1.2.2.2.2.1,f1.2.2.2.2.2⟩
    .exact⟨f2.2.2.2.1,f2.2.1,f2.2.2.2.2.1,f2.2.2.2.2.2⟩
   .obtain⟨o,es,ep,ho,r⟩:=hm;exact⟨o,es,ep,kk _ o ⟨Ne.symm fz.2.1,Ne.symm fO.2.1,Ne.symm f1.2.1,Ne.symm f2.2.1⟩ ho,r⟩
   .by_cases e:c=s.heap.objs.size
    .subst e;rw[av]at q;cases q;exact⟨(by show 2<=sizeLine;decide),[u,u2],.cons ru (.cons ru2 .nil),_,ht2,rfl,_,rfl⟩
    .rw[ai e]at q;refine(I.hok c o q).stay (λd v hd r=>kk d v ?_ r) (λd r=>by rw[ai (neT d _ r)];exact r) λd ys r=>by rw[ai (neT d _ r)];exact r
     rcases hd with y|y
     .rw[y];exact nt c o q
     .exact nt d _ y
  refine⟨.ref s.heap.objs.size,_,I2,rfl,⟨s.heap.objs.size,hfr,rfl,λxs2 ys2 hx2 hy2=>⟨x,y,by rw[I.nV hx2 hq];exact hx,by rw[I.nV hy2 hq2];exact hy,rfl⟩⟩,⟨b1,?_,⟨_,_,hs.extBut _ _ D.TOz a2⟩,a3.at λo q=>hs.extBut _ _ D.i1z q,a4.at λo q=>hs.extBut _ _ D.i2z q⟩,λc hc=>?_⟩
  .exact k2 _ _ D.TIz D.TITO D.TIi1 D.TIi2 h2
  .have old:∀c,(∃o,s.heap.get? c=some o)->H c=none->upd H s.heap.objs.size (.tup [x,y]) c=none:=λc ⟨o,q⟩ hn=>by rw[ai (neS c o q)];exact hn
   simp only[VF,WH,XA]at hc;rcases hc with rfl|rfl|rfl|rfl|rfl
   .exact old _ ⟨_,h1⟩ fz.1
   .exact old _ ⟨_,h2⟩ fI.1
   .exact old _ ⟨_,h3⟩ fO.1
   .obtain⟨o,q,_⟩:=id h4;exact old _ ⟨o,q⟩ f1.1
   .obtain⟨o,q,_⟩:=id h5;exact old _ ⟨o,q⟩ f2.1
 done:=by
  intro X hP hw hK hc i pins s U H E I hf st hg;subst hP hw hK;obtain⟨xs,ys,hq,hq2,hx⟩:=hg;obtain⟨its,rv,p,_⟩:=I.list hq;obtain⟨its2,rv2,p2,_⟩:=I.list hq2;obtain⟨h1,h2,⟨ua,ub,h3⟩,h4,h5⟩:=st;have hl:=rv.length;have hl2:=rv2.length;have fz:=hf z (by simp)
  have fO:=hf TO (by simp)
  have f1:=hf i1 (by simp)
  have f2:=hf i2 (by simp)
  refine PySem.wpAny_pyNext_zip_end (I.ok.hd hc) D h1 h2 h3 h4 h5 p.isList p2.isList (hx.imp (λe=>by simp;lia) (λe=>by simp;lia)) λhA k=>⟨rfl,?_⟩
  have nin:∀c,c∉[z,TO,i1,i2]->c≠z/\c≠TO/\c≠i1/\c≠i2:=λc hc=>⟨λe=>hc (by simp[e]),λe=>hc (by simp[e]),λe=>hc (by simp[e]),λe=>hc (by simp[e])⟩
  have kk:∀c o,(c≠z/\c≠TO/\c≠i1/\c≠i2)->s.heap.get? c=some o->hA.get? c=some o:=λc o n q=>k c o n.1 n.2.1 n.2.2.1 n.2.2.2 q
  have nt:∀c o,H c=some o->c≠z/\c≠TO/\c≠i1/\c≠i2:=λc o q=>⟨(λe=>by rw[e,fz.1]at q;cases q),(λe=>by rw[e,fO.1]at q;cases q),(λe=>by rw[e,f1.1]at q;cases q),(λe=>by rw[e,f2.1]at q;cases q)⟩
  refine I.step (g':=s.gens) (d':=s.drawn) (t':=s.toks) (ch:=[z,TO,i1,i2]) (λc hc=>?_) (λc o _ _ hc' q _=>kk c o (nin c hc') q) (λc o _ _ hc' q _=>⟨o.slots,kk c o (nin c hc') q⟩)
   (λc o _ q n=>n) (λc o hc' q=>⟨o,kk c o (nin c hc') q⟩) (λc ys q=>q) (λc o v q=>q) (λc ps q=>⟨#[],by rw[q];simp⟩) (λm hm=>?_) (λc o q=>?_) I.bare
  .simp only[VF,WH,XA]at hc;rcases hc with rfl|rfl|rfl|rfl
   .exact⟨fz.2.2.2.1,fz.2.1,fz.2.2.2.2.1,fz.2.2.2.2.2⟩
   .exact⟨fO.2.2.2.1,fO.2.1,fO.2.2.2.2.1,fO.2.2.2.2.2⟩
   .exact⟨f1.2.2.2.1,f1.2.1,f1.2.2.2.2.1,f1.2.2.2.2.2⟩
   .exact⟨f2.2.2.2.1,f2.2.1,f2.2.2.2.2.1,f2.2.2.2.2.2⟩
  .obtain⟨o,es,ep,ho,r⟩:=hm;exact⟨o,es,ep,kk _ o ⟨Ne.symm fz.2.1,Ne.symm fO.2.1,Ne.symm f1.2.1,Ne.symm f2.2.1⟩ ho,r⟩
  .refine(I.hok c o q).stay (λd v hd r=>kk d v ?_ r) (λd r=>r) λd ys r=>r
   rcases hd with y|y
   .rw[y];exact nt c o q
   .exact nt d _ y
 self:=λ_ _ _ _ _ st h=>PySem.wpAny_pyIter_zip st.1 h
end
section
variable{X:Cx}
inductive J7(K:Zv)(R:(It->Hp->Prop))(vs:List V)(H1:Hp):Prop
 |mk:∀a b,(vs=[.ref a,.ref b])->((∃xs,bH K H1 a xs))->((∃ys,bH K H1 b ys))->(R (NC K a b) H1)->J7 K R vs H1
def Dl (K:Zv)(ta:TA):TI:=λU H R=>ta U H λvs H1=>J7 K R vs H1
def P5{x1:Nat}(hg:Gl X "zip")(hm:X.mg "zip"=none)(ha:PA X [e1,e2] ta)(hs:starEach [e1,e2] X.env=[(false,eval e1 X.env),(false,eval e2 X.env)]:=by rfl)(hs2:starEach [e2] X.env=[(false,eval e2 X.env)]:=by rfl) : PI X (.Tuple elts x1 tp) (.Call (.Name "zip" p) [e1,e2] [] pos) (Dl X.K ta):=by
 intro pins s U H R I h;refine Call_ (iQ I hg hm PyProof.Rows.boot_zip (Xp (aH (ha pos pins s U H _ I h) λus s1 ⟨vs,H1,I1,r1,q1⟩=>?_) (by rw[hs,hs2]) (by rw[hs2];rfl)));obtain⟨a,b,ev,⟨xs,hq⟩,⟨ys,hq2⟩,q⟩:=q1;subst ev;obtain⟨u1,u2,rfl,ru1,ru2⟩:=r1.two;cases ru1;cases ru2;obtain⟨its,rv,pl,_⟩:=I1.list hq;obtain⟨its2,rv2,pl2,_⟩:=I1.list hq2;have la:a<s1.heap.objs.size:=by obtain⟨o,ho,_⟩:=pl.isList;exact VC ho
 have lb:b<s1.heap.objs.size:=by obtain⟨o,ho,_⟩:=pl2.isList;exact VC ho
 refine PySem.call_zip_2 pl.isList pl2.isList λh' hz h2 h3 h4 h5 hsz hk=>?_;refine PySem.wpAny_pyIter_zip hz ?_;have I2:Inv X pins U H1 { s1 with heap:=h' }:=I1.kept (t':=s1.toks) hk;have ga:∀k:Nat,a≠s1.heap.objs.size+k:=λk=>VO (Vt la (Xi _ _));have gb:∀k:Nat,b≠s1.heap.objs.size+k:=λk=>VO (Vt lb (Xi _ _));have D:PySem.ZipApart (s1.heap.objs.size+4) (s1.heap.objs.size+2) (s1.heap.objs.size+3) s1.heap.objs.size (s1.heap.objs.size+1) a b:=by constructor<;>first|exact ga 4|exact ga 3|exact ga 1|exact ga 0|exact gb 4|exact gb 3|exact gb 1|exact gb 0|exact VO (by lia)|exact Xc (by lia)
 refine⟨s1.heap.objs.size+4,[s1.heap.objs.size+4,s1.heap.objs.size+2,s1.heap.objs.size+3,s1.heap.objs.size,s1.heap.objs.size+1],_,_,H1,rfl,I2,Jk a b _ _ _ _ _ D,⟨hz,h2,⟨_,_,h3⟩,h4,h5⟩,λc hc=>?_,q⟩;have hb:s1.heap.objs.size<=c:=by simp only[VF,WH,XA]at hc;rcases hc with rfl|rfl|rfl|rfl|rfl;{exact Xi _ _};{exact Xi _ _};{exact Xi _ _};{exact V4 _};exact Xi _ _
 exact I1.rV hb (I1.hok.fresh hb)
theorem nh:∀{ns:A06}{us:A00},Vals (ns.map V.int) us->∃ps:List (Int×Tok),us=ps.map (λp=>Value.int p.1 p.2)/\ns=ps.map (·.1)
 |[],_,.nil=>⟨[],rfl,rfl⟩
 |n::ns,_,.cons h r=>by obtain⟨t,rfl⟩:=h;obtain⟨ps,rfl,rfl⟩:=nh r;exact⟨(n,t)::ps,rfl,rfl⟩
def HM(hc:X.calm=true):b8 X (.builtin "max") (λxs H Q=>∃(a:Addr)(ns:A06),xs=[.ref a]/\bH X.K H a (ns.map V.int)/\ns≠[]/\∀M,M∈ns->(∀n∈ns,n<=M)->Q (.int M) H):=by
 intro pins s U H xs us Q I r h;obtain⟨a,ns,rfl,hq,ne,q⟩:=h;obtain⟨u,rfl,ru⟩:=vals1 r;cases ru;obtain⟨its,rv,p,_⟩:=I.list hq;obtain⟨ps,rfl,rfl⟩:=nh rv;have hl:s.heap.IsList a (intItems ps.toArray):=by have:=p.isList;simpa[intItems]using this
 refine max_intList (I.ok.hd hc) hl (by simpa using XS.mpr (λe=>ne (by rw[e];rfl))) λv h' tk hv hk=>?_;obtain⟨t,rfl⟩:=Xv hv;obtain⟨g1,g2⟩:=argBest_gt (numAt ps.toArray) (ps.toArray.size-1);have pos:0<ps.length:=XS.mpr λe=>ne (by rw[e];rfl);refine⟨.int _,H,I.kept (t':=tk) hk,⟨_,rfl⟩,q _ ?_ λn hn=>?_⟩;{rw[XT];exact getD_mem (by simp at g1⊢;lia)};obtain⟨j,hj,rfl⟩:=mem_getD hn;rw[V2]at hj;have e:(ps.map (·.1)).getD j 0=numAt ps.toArray j:=by rw[XT]
 rw[e];exact g2 j (by simp;lia)
end
end L2
namespace L2
open PySem PySem.Spec PyProof.Rows PySem.W
variable{X:Cx}
def E7(hc:X.calm=true):b8 X (.builtin "min") (λxs H Q=>∃(a:Addr)(ns:A06),xs=[.ref a]/\bH X.K H a (ns.map V.int)/\ns≠[]/\∀M,M∈ns->(∀n∈ns,M<=n)->Q (.int M) H):=by
 intro pins s U H xs us Q I r h;obtain⟨a,ns,rfl,hq,ne,q⟩:=h;obtain⟨u,rfl,ru⟩:=vals1 r;cases ru;obtain⟨its,rv,p,_⟩:=I.list hq;obtain⟨ps,rfl,rfl⟩:=nh rv;have hl:s.heap.IsList a (intItems ps.toArray):=by have:=p.isList;simpa[intItems]using this
 refine min_intList (I.ok.hd hc) hl (by simpa using XS.mpr (λe=>ne (by rw[e];rfl))) λv h' tk hv hk=>?_;obtain⟨t,rfl⟩:=Xv hv;obtain⟨g1,g2⟩:=argBest_lt (numAt ps.toArray) (ps.toArray.size-1);have pos:0<ps.length:=XS.mpr λe=>ne (by rw[e];rfl);refine⟨.int _,H,I.kept (t':=tk) hk,⟨_,rfl⟩,q _ ?_ λn hn=>?_⟩;{rw[XT];exact getD_mem (by simp at g1⊢;lia)};obtain⟨j,hj,rfl⟩:=mem_getD hn;rw[V2]at hj;have e:(ps.map (·.1)).getD j 0=numAt ps.toArray j:=by rw[XT]
 rw[e];exact g2 j (by simp;lia)
theorem rq(ns:A06):∀k,k<=ns.length->preSum (λi=>ns.getD i 0) k=(ns.take k).sum
 |0,_=>rfl
 |k+1,h=>by have ih:=rq ns k (by lia);rw[preSum,ih,Xj,VG (show k<ns.length by lia),VH,VG (show k<ns.length by lia)];rw[YK];simp
def int_at{ns:A06}{its:A00}(rv:Vals (ns.map V.int) its){i:Nat}(h:its[i]?=some v):∃t,v=.int (ns.getD i 0) t:=by
 obtain⟨x,hx,rx⟩:=uW rv i v h;rw[VA]at hx;cases e:ns[i]? with
 |none=>rw[e]at hx;cases hx
 |some b=>rw[e]at hx;cases hx;obtain⟨t,rfl⟩:=rx;exact⟨t,by rw[VH,e];rfl⟩
def GU(hc:X.calm=true):b8 X (.builtin "sum") (λxs H Q=>∃(a:Addr)(ns:A06),xs=[.ref a]/\bH X.K H a (ns.map V.int)/\Q (.int ns.sum) H):=by
 intro pins s U H xs us Q I r h;obtain⟨a,ns,rfl,hq,q⟩:=h;obtain⟨u,rfl,ru⟩:=vals1 r;cases ru;obtain⟨its,rv,p,_⟩:=I.list hq;have hl:=p.isList;have hlt:a<s.heap.objs.size:=by obtain⟨o,ho,_⟩:=id hl;exact VC ho
 have hh:X.A.in1.handled=none:=by simp[I.ok.hd hc]
 have hn:its.toArray.size=ns.length:=by rw[VM,<-rv.length,V2]
 refine call_sum_walkAnyB (ZU hl ?_);refine⟨_,_,_,_,_,_,_,λi=>ns.getD i 0,rfl,(Walks.list hh _ a (VO hlt) its.toArray).toS,?_,?_,?_,?_⟩;{exact⟨⟨_,W0 _ rfl,rfl,rfl⟩,hl.push _⟩};{intro b hb;show b<(s.heap.push _).objs.size;rw[Yp];rcases VF.mp hb with rfl|hb;{exact Xw _};rcases VF.mp hb with rfl|hb;{exact YL hlt};cases hb}
 .intro i v hP;have hP':its[i]?=some v:=by simpa using hP
  obtain⟨t,rfl⟩:=int_at rv hP';exact .inl ⟨t,rfl⟩
 intro s' t' mv;obtain⟨h',g,d,t,os⟩:=s';obtain⟨m1,m2,m3,m4,m5⟩:=mv;dsimp only at m1 m2 m3 m4;subst m2 m3 m4;rw[hn,rq ns _ (V4 _),Wd];exact⟨.int _,H,I.kept (t':=t) (old_kept m1),⟨_,rfl⟩,q⟩
end L2
namespace Dv
open PySem L2 PySem.W
section
variable{K:Frag}{H Hm:Hp}{P:Kd->PyData->Prop}{Q:VK}
def bO (K:Frag)(H Hm:Hp)(P:Kd->PyData->Prop)(Q:VK):Prop:=∀k v u H' Hm' fp,P k v->ah H H'->ah Hm Hm'->ah Hm' H'->(∀a,H a≠none->OE (Hm' a) (Hm a))->Own K H' Hm' k u v fp->(∀a∈fp,H a=none/\Hm' a=none)->Q u H'
def bO.sc(q:bO K H Hm P Q)(s:ah Hm H)(p:P .sh v)(r:Rp K Hm u v):Q u H:=q _ _ _ _ _ [] p (ah.refl _) (ah.refl _) s (λ_ _=>.inl rfl) (.sh r) λ_ z=>by cases z
def fL(s:ah Hm H){p:Addr}(h:H p=none):Hm p=none:=by
 cases e:Hm p with
 |none=>rfl
 |some o=>rw[s _ _ e]at h;cases h
def bO.nl(q:bO K H Hm P Q)(s:ah Hm H){p:Addr}(pp:P (.ow false) (.list ds))(hp:H p=none)(r:ay K Hm xs ds):Q (.ref p) (upd H p (.lst xs)):=
 q _ _ _ _ Hm [p] pp (bQ hp) (ah.refl _) (s.trans (bQ hp)) (λ_ _=>.inl rfl) (.ow av r) λa ha=>by rw[V6.mp ha];exact⟨hp,fL s hp⟩
def bO.nt(q:bO K H Hm P Q)(s:ah Hm H){p:Addr}(pp:P .sh (.tuple ds))(hp:H p=none)(r:ay K Hm xs ds):Q (.ref p) (upd H p (.tup xs)):=by
 have n:=fL s hp;have s2:=bQ (o:=.tup xs) n;refine q _ _ _ _ (upd Hm p (.tup xs)) [] pp (bQ hp) s2 (λb o e=>?_) (λa ha=>.inl (ai λz=>ha (z▸hp))) (.sh (.tup av (r.mono s2))) λ_ z=>by cases z
 by_cases c:b=p;{rw[c,av]at e⊢;exact e};rw[ai c]at e⊢;exact s _ _ e
def r2 (r:R2):List V->Hp->VK->Prop:=λvs H Q=>match vs with
 |[x,y]=>r x y H Q
 |_=>False
def r1 (r:V->Hp->VK->Prop):List V->Hp->VK->Prop:=λvs H Q=>match vs with
 |[x]=>r x H Q
 |_=>False
def dH(h:ay K H vs [a]):∃x,vs=[x]/\Rp K H x a:=by
 cases h with
 |cons h t=>cases t;exact⟨_,rfl,h⟩
def fV(h:ay K H vs [a,b]):∃x y,vs=[x,y]/\Rp K H x a/\Rp K H y b:=by
 cases h with
 |cons h t=>obtain⟨y,rfl,h2⟩:=dH t;exact⟨_,_,rfl,h,h2⟩
def bE.or(h:bE X f r)(k:bE X f s):bE X f λx y H Q=>r x y H Q\/s x y H Q:=λpins st U H x y v u Q I a b z=>z.elim (h pins st U H x y v u Q I a b) (k pins st U H x y v u Q I a b)
variable{X:Cx}{Ex:XK}{Y:A05}
def jr(ho:bE X (binaryOp op) r)(D:cM X.K f (r2 r))(S:aN X Ex Y [a,b] as):SE X Ex Y (.BinOp a op b pos) (aa f as):=gk (r:=r2 r) S (λU H Q h=>WE.of (RC ho bf bf) h) D
def Sm(ho:Ld X (unaryOp op) r)(D:cM X.K f (r1 r))(S:aN X Ex Y [a] as):SE X Ex Y (.UnaryOp op a pos) (aa f as):=gk (r:=r1 r) S (λU H Q h=>WE.of (Sl ho bf) h) D
def tM(ho:bE X (compareOp op) r)(hm:behindInMarks op b=false)(D:cM X.K f (r2 r))(S:aN X Ex Y [a,b] as):SE X Ex Y (.Compare a [op] [b] pos) (aa f as):=gk (r:=r2 r) S (λU H Q h=>WE.of (MK ho bf bf hm) h) D
def RN(ho:m7 X r)(hs:kg b)(D:cM X.K f (r2 r))(S:aN X Ex Y [a,b] as):SE X Ex Y (.Subscript a b pos) (aa f as):=gk (r:=r2 r) S (λU H Q h=>WE.of (DF ho bf bf hs) h) D
def nK (g:Int->Int->PyData):DR:=λds P=>match ds with
 |[.int a,.int b]=>P .sh (g a b)
 |_=>False
def qG (C:Int->Int->Prop)(g:Int->Int->PyData):DR:=λds P=>match ds with
 |[.int a,.int b]=>C a b/\P .sh (g a b)
 |_=>False
def wc{Z:Prop}{f:Int->Int->Prop}(h:match ds with|[PyData.int a,.int b]=>f a b|_=>False)(k:∀a b,ds=[.int a,.int b]->f a b->Z):Z:=by split at h;{exact k _ _ rfl h};exact h.elim
def jf{g:Int->Int->PyData}{gv:Int->Int->V}(hg:∀a b Hm,Rp K Hm (gv a b) (g a b)):cM K (nK g) (r2 (oZ gv)):=by intro H Hm vs ds P Q s r h q;refine wc h λa b e p=>?_;subst e;obtain⟨x,y,rfl,h1,h2⟩:=fV r;cases h1;cases h2;exact⟨a,b,rfl,rfl,bO.sc q s p (hg a b Hm)⟩
def nH{g:Int->Int->PyData}{gv:Int->Int->V}(hg:∀a b Hm,Rp K Hm (gv a b) (g a b)):cM K (qG C g) (r2 (rI C gv)):=by intro H Hm vs ds P Q s r h q;refine wc h λa b e p=>?_;subst e;obtain⟨x,y,rfl,h1,h2⟩:=fV r;cases h1;cases h2;exact⟨a,b,rfl,rfl,p.1,bO.sc q s p.2 (hg a b Hm)⟩
end
inductive Gq(K:Frag) (x:V) (y:V)(H:Hp)(Q:VK):Prop
 |mk:∀l b xs zs,(x=.ref l)->(y=.ref b)->(bW K H l xs)->(bW K H b zs)->(xs.length+zs.length<=sizeLine)->(∀p,H p=none->Q (.ref p) (upd H p (.lst (xs++zs))))->Gq K x y H Q
def Km (K:Frag):R2:=λx y H Q=>Gq K x y H Q
section
variable{X:Cx}
def LJ:bE X (binaryOp .Add) (Km X.K):=by
 intro pins s U H x y v u Q I rx ry h;obtain⟨l,b,xs,zs,rfl,rfl,hH,hB,hz,q⟩:=h;cases rx;cases ry;obtain⟨z,its,n,r,e⟩:=hH.get I;obtain⟨z2,its2,n2,r2,e2⟩:=hB.get I;have hl:=r.length;have hl2:=r2.length;refine PySem.P.add_list e e2 ?_ (by rw[VM,VM];lia);have ea:its.toArray++its2.toArray=(its++its2).toArray:=by simp
 rw[ea];exact⟨.ref _,_,I.ON (t':=s.toks) (r.append r2) (by rw[VI];lia),rfl,q _ I.fresh⟩
def SK (f:PyData->Prop):Zy->Prop
 |[x]=>f x
 |_=>False
def CG (f:PyData->PyData->Prop):Zy->Prop
 |[x,y]=>f x y
 |_=>False
def S6 (f:PyData->PyData->PyData->Prop):Zy->Prop
 |[x,y,z]=>f x y z
 |_=>False
def Av (d:PyData)(f:Int->Prop):Prop:=match d with
 |.int i=>f i
 |_=>False
def qE(r:Rp K H x d)(h:Av d f):∃i,x=.int i/\f i:=by
 cases r with
 |int i=>exact⟨i,rfl,h⟩
 |_=>exact h.elim
def Ny(r:ay K H vs ds)(h:SK f ds):∃x d,vs=[x]/\ds=[d]/\Rp K H x d/\f d:=by
 cases r with
 |nil=>exact h.elim
 |cons h1 r=>
  cases r with
  |nil=>exact⟨_,_,rfl,rfl,h1,h⟩
  |cons=>exact h.elim
def pN(r:ay K H vs ds)(h:CG f ds):∃x y d e,vs=[x,y]/\ds=[d,e]/\Rp K H x d/\Rp K H y e/\f d e:=by
 cases r with
 |nil=>exact h.elim
 |cons h1 r=>
  cases r with
  |nil=>exact h.elim
  |cons h2 r=>
   cases r with
   |nil=>exact⟨_,_,_,_,rfl,rfl,h1,h2,h⟩
   |cons=>exact h.elim
def OX(r:ay K H vs ds)(h:S6 f ds):∃x y z d e d',vs=[x,y,z]/\ds=[d,e,d']/\Rp K H x d/\Rp K H y e/\Rp K H z d'/\f d e d':=by
 cases r with
 |nil=>exact h.elim
 |cons h1 r=>
  cases r with
  |nil=>exact h.elim
  |cons h2 r=>
   cases r with
   |nil=>exact h.elim
   |cons h3 r=>
    cases r with
    |nil=>exact⟨_,_,_,_,_,_,rfl,rfl,h1,h2,h3,h⟩
    |cons=>exact h.elim
def cN:DR:=λds P=>CG (λx y=>match x,y with
 |.int a,.int b=>P .sh (.int (a+b))
 |.list a,.list b=>a.length+b.length<=sizeLine/\P (.ow false) (.list (a++b))
 |.tuple a,.tuple b=>(a≠[]/\a.length+b.length<=sizeLine)/\P .sh (.tuple (a++b))
 |.str a,.str b=>a.length+b.length<=sizeLine/\P .sh (.str (a++b))
 |_,_=>False) ds
def KQ (K:Frag):R2:=λx y H Q=>(((oZ λi j=>.int (i+j)) x y H Q\/Km K x y H Q)\/KJ K x y H Q)\/∃i j,x=.str i/\y=.str j/\i.length+j.length<=sizeLine/\Q (.str (i++j)) H
def Me:bE X (binaryOp .Add) (KQ X.K):=((OV.or LJ).or LO).or D9
def LW:cM K cN (r2 (KQ K)):=by
 intro H Hm vs ds P Q s r h q;obtain⟨x,y,d,e,rfl,rfl,h1,h2,h⟩:=pN r h;cases h1 with
 |int a=>
  cases h2 with
  |int b=>exact .inl (.inl (.inl ⟨_,_,rfl,rfl,bO.sc q s h (.int _)⟩))
  |_=>exact h.elim
 |lst a1 r1=>
  cases h2 with
  |lst a2 r2=>exact .inl (.inl (.inr ⟨_,_,_,_,rfl,rfl,bW.mono s a1,bW.mono s a2,by rw[r1.len,r2.len];exact h.1,λp hp=>bO.nl q s h.2 hp (r1.app r2)⟩))
  |_=>exact h.elim
 |@tup a xs ds1 a1 r1=>
  cases h2 with
  |@tup b ys ds2 a2 r2=>refine .inl (.inr ⟨_,_,_,_,rfl,rfl,bR.of (s _ _ a1),bR.of (s _ _ a2),λz=>h.1.1 ?_,by rw[r1.len,r2.len];exact h.1.2,λz=>?_,λ_ p hp=>bO.nt q s h.2 hp (r1.app r2)⟩);{subst z;cases r1;rfl};subst z;cases r2;have h:P .sh (.tuple (ds1++[])):=h.2;rw[WO]at h;exact bO.sc q s h (.tup a1 r1)
  |_=>exact h.elim
 |str a=>
  cases h2 with
  |str b=>exact .inr ⟨_,_,rfl,rfl,h.1,bO.sc q s h.2 (.str _)⟩
  |_=>exact h.elim
 |_=>exact h.elim
end
inductive Hz(K:Frag) (x:V) (y:V)(H:Hp)(Q:VK):Prop
 |mk:∀l k xs,(x=.ref l)->(y=.int k)->(bW K H l xs)->(-(2^63)<=k)->(k<2^63)->(xs.length*k.toNat<=sizeLine)->(∀p,H p=none->Q (.ref p) (upd H p (.lst (List.replicate k.toNat xs).flatten)))->Hz K x y H Q
def J8 (K:Frag):R2:=λx y H Q=>Hz K x y H Q
section
variable{X:Cx}
open PyProof.Rows in
def MG:bE X (binaryOp .Mult) (J8 X.K):=by
 intro pins s U H x y v u Q I rx ry h;obtain⟨l,k,xs,rfl,rfl,hH,h1,h2,hz,q⟩:=h;cases rx;obtain⟨t,rfl⟩:=ry;obtain⟨z,its,n,r,e⟩:=hH.get I;have hl:=r.length;have hlen:its.toArray.size*k.toNat<=sizeLine:=by rw[VM,<-hl];exact hz
 have hcap:¬its.toArray.size*k.toNat>(2^63-1)/8:=by
  have:(sizeLine:Nat)<=(2^63-1)/8:=by decide
  lia
 have hfit:¬(!Builtin.List.listFitsIndex k)=true:=by rw[fitsIndex_both h1 h2];exact VQ
 have hlong:¬Builtin.List.listTooLong (its.toArray.size*k.toNat)=true:=by rw[su hlen];exact VQ
 have hnew:List.foldl (λx1 x2=>x1++x2) #[] (List.replicate (if its.toArray.isEmpty=true then 0 else k.toNat) its.toArray)=(List.replicate k.toNat its).flatten.toArray:=by
  have f0:∀m:Nat,List.foldl (λx1 x2=>x1++x2) #[] (List.replicate m its.toArray)=(List.replicate m its).flatten.toArray:=λm=>by have:=foldl_rep its m [];rw[Xk]at this;exact this
  rw[f0];cases its with
  |nil=>simp
  |cons a r'=>rw[if_neg (by simp)]
 refine wpAny_binaryOp_repeat_ref (T:="list") (U:="int") (by decide) ⟨_,e,rfl⟩ (λs'=>typeIs_int s' k t) noFill_list_mul F.fills_int_mul F.slot_int_rmul repeat_list F.slot_int_index.lookup
  (XO F.slot_int_rmul (typeIs_int s k t) F.entry_int_rmul (F.args_int_rmul_2 _ _) (int___rmul___int_list k t l its.toArray n)
   ⟨e,rfl,⟨_,e,rfl⟩,XO F.slot_list_mul ⟨_,e,rfl⟩ F.entry_list_mul (F.args_list_mul_2 _ _) (AutoListH.list___mul___list_int_3 l its.toArray n k t hfit hcap hlong) ⟨e,?_⟩⟩)
 rw[hnew];exact⟨.ref _,_,I.ON (t':=s.toks) (r.rep k.toNat) (by rw[len_rep,Nat.mul_comm];exact hz),rfl,q _ I.fresh⟩
end
theorem ay.rep(r:ay K H xs ds):∀n:Nat,ay K H (List.replicate n xs).flatten (List.replicate n ds).flatten
 |0=>.nil
 |n+1=>by rw[Xf,Xf,Xr,Xr];exact r.app (r.rep n)
def dW:DR:=λds P=>match ds with
 |[.int a,.int b]=>vG a b/\P .sh (.int (a*b))
 |[.list a,.int k]=>(-(2^63)<=k/\k<2^63/\a.length*k.toNat<=sizeLine)/\P (.ow false) (.list (List.replicate k.toNat a).flatten)
 |_=>False
def Kw (K:Frag):R2:=λx y H Q=>(rI vG λi j=>.int (i*j)) x y H Q\/J8 K x y H Q
def LF:bE X (binaryOp .Mult) (Kw X.K):=Qn.or MG
def Mg:cM K dW (r2 (Kw K)):=by
 intro H Hm vs ds P Q s r h q;unfold dW at h;split at h;{obtain⟨x,y,rfl,h1,h2⟩:=fV r;cases h1;cases h2;exact .inl ⟨_,_,rfl,rfl,h.1,bO.sc q s h.2 (.int _)⟩}
 .obtain⟨x,y,rfl,h1,h2⟩:=fV r;cases h2;cases h1 with
  |lst a1 r1=>exact .inr ⟨_,_,_,rfl,rfl,bW.mono s a1,h.1.1,h.1.2.1,by rw[r1.len];exact h.1.2.2,λp hp=>bO.nl q s h.2 hp (r1.rep _)⟩
 exact h.elim
end Dv
namespace L2
open PySem PySem.Spec PyProof.Rows
variable{prog:Program}{w:World}{A:Around}{E:Zn}{s:Shared}
def xw{t sl:Addr}{items:Zx}{vl vu:Value}{lo hi:Option Int}{Q:Zn}(ht:IsTup s.heap t items)(hs:s.heap.IsSliceOf sl vl vu .none)(pl:IsPart vl lo)(pu:IsPart vu hi)(w0:HT.aK items.size 0 lo=0)(w1:HT.aK items.size items.size hi=items.size)(h:Q (.ref t) s):wpAny (model prog w) A (getItem (.ref t) (.ref sl)) Q E s:=by
 obtain⟨os,hos,hcs,hds⟩:=id hs;have hTs:s.TypeIs (.ref sl) "slice":=⟨os,hos,hcs⟩;unfold getItem;refine W9 (?_:_);refine V0 (wpAny_sequenceKey ht.typeIs (by decide) (?_:_));refine V0 (Yh (name:=Str.ofString "__getitem__") ht.typeIs Yi
  (Wu Yi ht.typeIs entry_tuple_getitem (?_:_) (args_tuple_getitem _ _)))
 refine id (?_:wpAny _ _ (Builtin.Tuple.tupleItemsOf (.ref t)>>=_) _ _ s);refine V0 (tupleItemsOf_ ht (?_:_));refine V0 (Xq hTs (?_:_));rw[if_pos (by decide)];refine V0 (HT.k9 hs pl pu (?_:_));have yes:(((HT.aK items.size 0 lo:Nat):Int)==0&&(1:Int)==1&&(HT.aK items.size items.size hi-HT.aK items.size 0 lo)==items.size)=true:=by rw[w0,w1,YM];simp
 refine id (?_:wpAny _ _ (if(((HT.aK items.size 0 lo:Nat):Int)==0&&(1:Int)==1&&(HT.aK items.size items.size hi-HT.aK items.size 0 lo)==items.size)=true then _ else _) _ _ s);rw[if_pos yes];refine V0 (m:=Builtin.Tuple.tupleIsExact _) (V0 (Xq ht.typeIs (V1 (?_:_))));rw[if_pos (by decide)];refine V0 (Ww (?_:_));exact V1 ⟨_,rfl,V1 h⟩
variable{X:Cx}
def KO (K:Zv):V->Option Int->Option Int->Hp->VK->Prop:=λx lo hi H Q=>∃a xs,x=.ref a/\bR K H a xs /\
 (HT.aK xs.length 0 lo=0/\HT.aK xs.length xs.length hi=xs.length->Q (.ref a) H)/\(¬(HT.aK xs.length 0 lo=0/\HT.aK xs.length xs.length hi=xs.length)->∀p,H p=none->Q (.ref p) (upd H p (.tup (nQ xs lo hi))))
def L5:GI X (KO X.K):=by
 intro pins s U H x v vl vu lo hi sl Q I rx hs pl pu h;obtain⟨a,xs,rfl,hx,q1,q2⟩:=h;by_cases c:HT.aK xs.length 0 lo=0/\HT.aK xs.length xs.length hi=xs.length
 .cases rx;obtain⟨its,r,ht,hz⟩:=I.tuple hx;have hlen:its.toArray.size=xs.length:=by rw[VM];exact r.length.symm
  refine⟨"tuple",_,Zf,ht.typeIs,?_⟩;exact xw ht hs pl pu (by rw[hlen];exact c.1) (by rw[hlen];exact c.2) ⟨.ref a,H,I,rfl,q1 c⟩
 exact QL pins s U H (.ref a) v vl vu lo hi sl Q I rx hs pl pu ⟨a,xs,rfl,hx,c,q2 c⟩
end L2
namespace Dv
open PySem L2 PySem.W
def dl:Nat->PyData->Bool
 |_,.none=>true
 |_,.int _=>true
 |_,.str x=>PyData.strOk x
 |n+1,.list ds=>ds.all (dl n)
 |n+1,.tuple ds=>ds.all (dl n)
 |_,_=>false
theorem kj:∀{ds:Zy},(∀d∈ds,d.canLay0=true)->PyData.canLayAll0 ds=true
 |[],_=>rfl
 |d::ds,h=>by rw[PyData.canLayAll0,h d V3,kj λe he=>h e (V8 _ he)];rfl
theorem pG{n:Nat}:∀{ds:Zy},(∀d∈ds,d.depth<=n)->PyData.depthAll ds<=n
 |[],_=>by rw[PyData.depthAll];exact W3 _
 |d::ds,h=>by rw[PyData.depthAll];exact Nat.max_le.mpr ⟨h d V3,pG λe he=>h e (V8 _ he)⟩
theorem fm:∀{n:Nat}{d:PyData},dl n d=true->d.canLay0=true/\d.depth<=n
 |_,.none,_=>⟨rfl,W3 _⟩
 |_,.int _,_=>⟨rfl,W3 _⟩
 |n,.str x,h=>⟨by cases n<;>exact h,W3 _⟩
 |n+1,.list ds,h=>by have h:ds.all (dl n)=true:=h;rw[VW]at h;refine⟨by rw[PyData.canLay0];exact kj λd hd=>(fm (h d hd)).1,?_⟩;rw[PyData.depth];have:=pG (n:=n) (ds:=ds) λd hd=>(fm (h d hd)).2;lia
 |n+1,.tuple ds,h=>by have h:ds.all (dl n)=true:=h;rw[VW]at h;refine⟨by rw[PyData.canLay0];exact kj λd hd=>(fm (h d hd)).1,?_⟩;rw[PyData.depth];have:=pG (n:=n) (ds:=ds) λd hd=>(fm (h d hd)).2;lia
 |0,.list _,h=>by cases h
 |0,.tuple _,h=>by cases h
 |n,.bool _,h=>by cases n<;>cases h
 |n,.dict _,h=>by cases n<;>cases h
theorem mU:∀{ds:Zy},(∀d∈ds,nd d=true)->nd.nds ds=true
 |[],_=>rfl
 |d::ds,h=>by rw[nd.nds,h d V3,mU λe he=>h e (V8 _ he)];rfl
theorem jm:∀{n:Nat}{d:PyData},dl n d=true->nd d=true
 |_,.none,_=>rfl
 |_,.int _,_=>rfl
 |_,.str _,_=>rfl
 |_,.bool _,_=>rfl
 |n+1,.list ds,h=>by have h:ds.all (dl n)=true:=h;rw[VW]at h;rw[nd];exact mU λd hd=>jm (h d hd)
 |n+1,.tuple ds,h=>by have h:ds.all (dl n)=true:=h;rw[VW]at h;rw[nd];exact mU λd hd=>jm (h d hd)
 |0,.list _,h=>by cases h
 |0,.tuple _,h=>by cases h
 |n,.dict _,h=>by cases n<;>cases h
theorem qc(hf:∀a b,f a=true->f b=true->SeqAt.noMix a b=true):∀{xs ys:Zy},xs.all f=true->ys.all f=true->SeqAt.noMixAll xs ys=true
 |[],[],_,_=>rfl
 |[],_::_,_,_=>rfl
 |_::_,[],_,_=>rfl
 |x::xs,y::ys,h1,h2=>by rw[VL,VB]at h1 h2;rw[SeqAt.noMixAll,hf x y h1.1 h2.1,qc hf h1.2 h2.2];rfl
def Ga:∀(n:Nat)(a b:PyData),dl n a=true->dl n b=true->SeqAt.noMix a b=true:=by
 intro n;induction n with
 |zero=>intro a b ha hb;cases a<;>first|(cases ha;done)|(cases b<;>first|(cases hb;done)|rfl)
 |succ n ih=>
  intro a b ha hb;cases a with
  |list xs=>
   cases b with
   |list ys=>rw[SeqAt.noMix];exact qc ih ha hb
   |dict _=>cases hb
   |bool _=>cases hb
   |_=>rfl
  |tuple xs=>
   cases b with
   |tuple ys=>rw[SeqAt.noMix];exact qc ih ha hb
   |dict _=>cases hb
   |bool _=>cases hb
   |_=>rfl
  |dict _=>cases ha
  |bool _=>cases ha
  |_=>cases b<;>first|(cases hb;done)|rfl
def yc{n:Nat}(ha:dl n a=true)(hb:dl n b=true):PyData.eqv a b=decide (a=b):=by rw[<-SeqAt.same_eq_eqv a b (Ga n a b ha hb),Wg,PyProof.Rows.same_iff,XD]
def wo{n:Nat}(h:dl n d=true)(l:n<=60):SeqAt.shaped d=true:=by obtain⟨h1,h2⟩:=fm h;unfold SeqAt.shaped;rw[h1,Vu (VX h2 (by lia))];rfl
def Lh (a b:PyData)(P:Bool->Prop):Prop:=match a,b with
 |.int a,.int b=>P (decide (a=b))
 |.str a,.str b=>P (decide (a=b))
 |.bool a,.bool b=>P (decide (a=b))
 |.none,.none=>P true
 |a,b=>(dl 8 a=true/\dl 8 b=true)/\P (decide (a=b))
def jC:DR:=λds P=>match ds with
 |[a,b]=>Lh a b λc=>P .sh (.bool c)
 |_=>False
def oX:DR:=λds P=>match ds with
 |[a,b]=>Lh a b λc=>P .sh (.bool !c)
 |_=>False
def sR (K:Frag)(neg:Bool):R2:=λx y H Q=>Je K neg x y H Q\/(if neg then Tq x y H Q else SH x y H Q)
section
variable{X:Cx}
def Ez(hu:X.A.units+64<cLine):bE X (compareOp .Eq) (sR X.K false):=(Qm hu).or (Sv (X:=X))
def FI(hu:X.A.units+64<cLine):bE X (compareOp .NotEq) (sR X.K true):=(OG hu).or (RD (X:=X))
def FD(neg:Bool)(s:ah Hm H)(h1:Rp K Hm x a)(h2:Rp K Hm y b)(h:Lh a b Pb)(q:∀c,Pb c->Q (.bl (if neg then !c else c)) H):sR K neg x y H Q:=by
 have gen:dl 8 a=true/\dl 8 b=true->Pb (decide (a=b))->sR K neg x y H Q:=λhd p=>by
  refine .inl ⟨a,b,(h1.mono s).qT (jm hd.1),(h2.mono s).qT (jm hd.2),wo hd.1 (by decide),wo hd.2 (by decide),Ga 8 a b hd.1 hd.2,?_⟩;have e:Spec.same a b=decide (a=b):=by rw[Wg,PyProof.Rows.same_iff,XD]
  rw[e];exact q _ p
 have sc:JR x y=true->Pb (decide (x=y))->sR K neg x y H Q:=λhs p=>by
  refine .inr ?_;cases neg with
  |true=>exact⟨hs,q _ p⟩
  |false=>exact⟨hs,q _ p⟩
 unfold Lh at h;split at h;{cases h1;cases h2;refine sc rfl ?_;simpa using h};{cases h1;cases h2;refine sc rfl ?_;simpa using h};{cases h1;cases h2;refine sc rfl ?_;simpa using h};{cases h1;cases h2;exact gen ⟨rfl,rfl⟩ (by simpa using h)};exact gen h.1 h.2
def GJ:cM K jC (r2 (sR K false)):=by intro H Hm vs ds P Q s r h q;unfold jC at h;split at h;{obtain⟨x,y,rfl,h1,h2⟩:=fV r;exact FD false s h1 h2 h λc p=>bO.sc q s p (.bl _)};exact h.elim
def Ho:cM K oX (r2 (sR K true)):=by intro H Hm vs ds P Q s r h q;unfold oX at h;split at h;{obtain⟨x,y,rfl,h1,h2⟩:=fV r;exact FD true s h1 h2 h λc p=>bO.sc q s p (.bl _)};exact h.elim
def dO (neg:Bool):DR:=λds P=>match ds with
 |[a,.none]=>P .sh (.bool (if neg then !decide (a=.none)else decide (a=.none)))
 |_=>False
def Mu(h:Rp K H x d):decide (x=.aW)=decide (d=.none):=by cases h<;>simp
def M7:cM K (dO false) (r2 λx y H Q=>y=.aW/\Q (.bl (decide (x=.aW))) H):=by intro H Hm vs ds P Q s r h q;unfold dO at h;split at h;{obtain⟨x,y,rfl,h1,h2⟩:=fV r;cases h2;refine⟨rfl,?_⟩;rw[Mu h1];exact bO.sc q s h (.bl _)};exact h.elim
def Lf (neg:Bool):DR:=λds P=>match ds with
 |[d,.list xs]=>(xs.all (dl 8)=true/\dl 8 d=true)/\P .sh (.bool (if neg then !decide (d∈xs)else decide (d∈xs)))
 |[d,.tuple xs]=>(xs.all (dl 8)=true/\dl 8 d=true)/\P .sh (.bool (if neg then !decide (d∈xs)else decide (d∈xs)))
 |_=>False
end
inductive Lr(K:Frag)(neg:Bool) (x:V) (y:V)(H:Hp)(Q:VK):Prop
 |mk:∀(d:PyData)(xs:Zy),(jQ K H x d)->((jQ K H y (.list xs)\/jQ K H y (.tuple xs)))->(PyData.canLayAll0 xs=true)->(d.canLay0=true)->(d.depth<=60)->(Q (.bl (if neg then !xs.any λy=>PyData.eqv y d else xs.any λy=>PyData.eqv y d)) H)->Lr K neg x y H Q
def DN (K:Frag)(neg:Bool):R2:=λx y H Q=>Lr K neg x y H Q
section
variable{X:Cx}
def OP(hu:X.A.units+64<cLine):bE X (compareOp .In) (DN X.K false):=by intro pins s U H x y v u Q I rx ry h;obtain⟨d,xs,hx,hy,l1,l2,dp,q⟩:=h;obtain⟨bs,rb⟩:=I.reads hx rx;rcases hy with hy|hy;{obtain⟨as,ra⟩:=I.reads hy ry;exact SeqAt.in_list_reads ra rb l1 l2 (by lia) ⟨.bl _,H,I,rfl,q⟩};obtain⟨as,ra⟩:=I.reads hy ry;exact SeqAt.in_tuple_reads ra rb l1 l2 (by lia) ⟨.bl _,H,I,rfl,q⟩
def Gz(hu:X.A.units+64<cLine):bE X (compareOp .NotIn) (DN X.K true):=by intro pins s U H x y v u Q I rx ry h;obtain⟨d,xs,hx,hy,l1,l2,dp,q⟩:=h;obtain⟨bs,rb⟩:=I.reads hx rx;rcases hy with hy|hy;{obtain⟨as,ra⟩:=I.reads hy ry;exact SeqAt.notIn_list_reads ra rb l1 l2 (by lia) ⟨.bl _,H,I,rfl,q⟩};obtain⟨as,ra⟩:=I.reads hy ry;exact SeqAt.notIn_tuple_reads ra rb l1 l2 (by lia) ⟨.bl _,H,I,rfl,q⟩
def Bw{n:Nat}{xs:Zy}(h:xs.all (dl n)=true)(hd:dl n d=true):(xs.any λy=>PyData.eqv y d)=decide (d∈xs):=by rw[Wg,Yq,XD];rw[VW]at h;constructor;{rintro⟨y,hy,e⟩;rw[yc (h y hy) hd,XD]at e;exact e▸hy};intro m;exact⟨d,m,by rw[yc hd hd];simp⟩
def Nd{K:Frag}(neg:Bool):cM K (Lf neg) (r2 (DN K neg)):=by intro H Hm vs ds P Q s r h q;unfold Lf at h;split at h;{rename_i d xs;obtain⟨x,y,rfl,h1,h2⟩:=fV r;obtain⟨⟨ha,hd⟩,p⟩:=h;refine⟨d,xs,(h1.mono s).qT (jm hd),.inl ((h2.mono s).qT (by rw[nd];exact mU λd hd=>jm (VW.mp ha d hd))),kj λe he=>(fm (VW.mp ha e he)).1,(fm hd).1,VX (fm hd).2 (by decide),?_⟩;rw[Bw ha hd];exact bO.sc q s p (.bl _)};{rename_i d xs;obtain⟨x,y,rfl,h1,h2⟩:=fV r;obtain⟨⟨ha,hd⟩,p⟩:=h;refine⟨d,xs,(h1.mono s).qT (jm hd),.inr ((h2.mono s).qT (by rw[nd];exact mU λd hd=>jm (VW.mp ha d hd))),kj λe he=>(fm (VW.mp ha e he)).1,(fm hd).1,VX (fm hd).2 (by decide),?_⟩;rw[Bw ha hd];exact bO.sc q s p (.bl _)};exact h.elim
def K3:DR:=λds P=>match ds with
 |[.list xs,.int i]=>∃d,dS xs i=some d/\P .sh d
 |[.tuple xs,.int i]=>∃d,dS xs i=some d/\P .sh d
 |_=>False
theorem ay.dS(r:ay K H vs ds){i:Int}(h:L2.dS ds i=some d):∃v,L2.dS vs i=some v/\Rp K H v d:=by
 unfold L2.dS at h⊢;rw[r.len];cases e:lQ ds.length i with
 |none=>rw[e]at h;cases h
 |some j=>rw[e]at h;exact r.get h
def Qo:cM K K3 (r2 (OO K)):=by
 intro H Hm vs ds P Q s r h q;unfold K3 at h;split at h
 .obtain⟨x,y,rfl,h1,h2⟩:=fV r;obtain⟨d,e,p⟩:=h;cases h2;cases h1 with
  |lst a1 r1=>obtain⟨v,e2,rv⟩:=r1.dS e;exact .inl ⟨_,_,_,v,rfl,rfl,(bW.mono s a1).sq,e2,bO.sc q s p rv⟩
 .obtain⟨x,y,rfl,h1,h2⟩:=fV r;obtain⟨d,e,p⟩:=h;cases h2;cases h1 with
  |tup a1 r1=>obtain⟨v,e2,rv⟩:=r1.dS e;exact .inr (.inl ⟨_,_,_,v,rfl,rfl,bR.of (s _ _ a1),e2,bO.sc q s p rv⟩)
 exact h.elim
def cutD (xs:Zy)(lo hi:Option Int):Zy:=(xs.drop (HT.aK xs.length 0 lo)).take (HT.aK xs.length xs.length hi-HT.aK xs.length 0 lo)
def ay.cut(r:ay K H vs ds)(lo hi:Option Int):ay K H (nQ vs lo hi) (cutD ds lo hi):=by unfold nQ cutD;rw[r.len];exact(r.drop _).take _
def EG (d:PyData)(lo hi:Option Int)(P:Kd->PyData->Prop):Prop:=match d with
 |.list xs=>P (.ow false) (.list (cutD xs lo hi))
 |.tuple xs=>P .sh (.tuple (cutD xs lo hi))
 |_=>False
def lB (bl bh:Bool):DR:=λds P=>match bl,bh with
 |false,false=>SK (λd=>EG d none none P) ds
 |true,false=>CG (λd e=>Av e λa=>EG d (some a) none P) ds
 |false,true=>CG (λd e=>Av e λb=>EG d none (some b) P) ds
 |true,true=>S6 (λd e e'=>Av e λa=>Av e' λb=>EG d (some a) (some b) P) ds
def vd (K:Frag):V->Option Int->Option Int->Hp->VK->Prop:=λx lo hi H Q=>NW K x lo hi H Q\/KO K x lo hi H Q
def Ju:GI X (vd X.K):=λpins s U H x v vl vu lo hi sl Q I rx hs pl pu h=>h.elim (LI pins s U H x v vl vu lo hi sl Q I rx hs pl pu) (L5 pins s U H x v vl vu lo hi sl Q I rx hs pl pu)
def GP (bl bh:Bool)(K:Frag):List V->Hp->VK->Prop:=λvs H Q=>match bl,bh,vs with
 |false,false,[x]=>vd K x none none H Q
 |true,false,[x,a]=>∃i,a=.int i/\vd K x (some i) none H Q
 |false,true,[x,b]=>∃i,b=.int i/\vd K x none (some i) H Q
 |true,true,[x,a,b]=>∃i,a=.int i/\∃j,b=.int j/\vd K x (some i) (some j) H Q
 |_,_,_=>False
def C7(h:HT.aK xs.length 0 lo=0/\HT.aK xs.length xs.length hi=xs.length):cutD xs lo hi=xs:=by unfold cutD;rw[h.1,h.2,Yr,YM,Wd]
def um(q:bO K H Hm P Q)(s:ah Hm H)(h1:Rp K Hm x d)(h:EG d lo hi P):vd K x lo hi H Q:=by
 cases h1 with
 |lst a1 r1=>exact .inl ⟨_,_,rfl,(bW.mono s a1).sq,λp hp=>bO.nl q s h hp (r1.cut lo hi)⟩
 |tup a1 r1=>refine .inr ⟨_,_,rfl,bR.of (s _ _ a1),λw=>?_,λ_ p hp=>bO.nt q s h hp (r1.cut lo hi)⟩;rw[r1.len]at w;have h:P .sh (.tuple (cutD _ lo hi)):=h;rw[C7 w]at h;exact bO.sc q s h (.tup a1 r1)
 |_=>exact h.elim
def zZ(bl bh:Bool):cM K (lB bl bh) (GP bl bh K):=by
 intro H Hm vs ds P Q s r h q;cases bl with
 |false=>
  cases bh with
  |false=>obtain⟨x,d,rfl,rfl,h1,h⟩:=Ny r h;exact um q s h1 h
  |true=>obtain⟨x,y,d,e,rfl,rfl,h1,h2,h⟩:=pN r h;obtain⟨i,rfl,h⟩:=qE h2 h;exact⟨_,rfl,um q s h1 h⟩
 |true=>
  cases bh with
  |false=>obtain⟨x,y,d,e,rfl,rfl,h1,h2,h⟩:=pN r h;obtain⟨i,rfl,h⟩:=qE h2 h;exact⟨_,rfl,um q s h1 h⟩
  |true=>obtain⟨x,y,z,d,e,e',rfl,rfl,h1,h2,h3,h⟩:=OX r h;obtain⟨i,rfl,h⟩:=qE h2 h;obtain⟨j,rfl,h⟩:=qE h3 h;exact⟨_,rfl,_,rfl,um q s h1 h⟩
end
section
variable{X:Cx}{Ex:XK}{Y:A05}{a l u:Expr}{pos p2:Pos}{as:List Arg}
def NP(S:aN X Ex Y [a,l] as):SE X Ex Y (.Subscript a (.Slice (some l) none none p2) pos) (aa (lB true false) as):=gk (r:=GP true false X.K) S (λU H Q h=>WE.of (zB Ju bf (CD bf) Co) h) (zZ _ _)
def Ic(S:aN X Ex Y [a,u] as):SE X Ex Y (.Subscript a (.Slice none (some u) none p2) pos) (aa (lB false true) as):=gk (r:=GP false true X.K) S (λU H Q h=>WE.of (zB Ju bf Co (CD bf)) h) (zZ _ _)
open PyProof.Rows in
def QC(h:pQ X [a,l,u] U H λvs H1=>GP true true X.K vs H1 Q):WE X (.Subscript a (.Slice (some l) (some u) none p2) pos) U H Q:=by intro pins s I;refine Subscript_ (aH (h pins s I) λv s1 ⟨x,H1,I1,r1,q1⟩=>?_);refine wpAny_Slice ?_;rw[evalPart_some];refine aH (q1 pins s1 I1) λvl s2 ⟨y,H2,I2,pl,q2⟩=>?_;rw[evalPart_some];refine aH (q2 pins s2 I2) λvu s3 ⟨z,H3,I3,pu,q3⟩=>?_;obtain⟨i,rfl,j,rfl,q3⟩:=q3;obtain⟨t1,rfl⟩:=pl;obtain⟨t2,rfl⟩:=pu;rw[evalPart_none];refine V1 ?_;have I4:Inv X pins U H3 { s3 with heap:=s3.heap.push { cls:=.type "slice",data:=.fields #[.int i t1,.int j t2,.none] } }:=I3.kept (t':=s3.toks) λb ob q=>VS _ q;obtain⟨T,id,hT,ht,hg⟩:=Ju pins { s3 with heap:=s3.heap.push { cls:=.type "slice",data:=.fields #[.int i t1,.int j t2,.none] } } U H3 x v (.int i t1) (.int j t2) (some i) (some j) s3.heap.objs.size Q I4 r1 (Heap.IsSliceOf.new ..) (.int i t1) (.int j t2) q3;show wpAny (model X.prog X.w) X.A (subscriptTail a (.Slice (some l) (some u) none p2) v (.ref s3.heap.objs.size)) (EP X pins U Q) X.xe { s3 with heap:=s3.heap.push { cls:=.type "slice",data:=.fields #[.int i t1,.int j t2,.none] } };exact tail_any (ops:=[.ref s3.heap.objs.size,v]) ht hT hg (by with_unfolding_all rfl)
def Nn(S:aN X Ex Y [a,l,u] as):SE X Ex Y (.Subscript a (.Slice (some l) (some u) none p2) pos) (aa (lB true true) as):=gk (r:=GP true true X.K) S (λU H Q h=>QC h) (zZ _ _)
end
end Dv
namespace L2
open PySem PySem.Spec PyProof.Rows
variable{X:Cx}
def Gk(hc:X.calm=true):b8 X (.builtin "any") (λxs H Q=>∃(a:Addr)(bs:A02),xs=[.ref a]/\bH X.K H a (bs.map V.bl)/\Q (.bl (bs.any id)) H):=by
 intro pins s U H xs us Q I r h;obtain⟨a,bs,rfl,hq,q⟩:=h;obtain⟨u,rfl,ru⟩:=vals1 r;cases ru;obtain⟨its,rv,p,_⟩:=I.list hq;have hl:=p.isList;have hlt:a<s.heap.objs.size:=by obtain⟨o,ho,_⟩:=id hl;exact VC ho
 have hh:X.A.in1.handled=none:=by simp[I.ok.hd hc]
 refine call_any_walk (ZU hl ?_);refine⟨_,_,_,_,_,_,λi=>bs.getD i false,rfl,Walks.list hh _ a (VO hlt) its.toArray,⟨⟨_,W0 _ rfl,rfl,rfl⟩,hl.push _⟩,λi v s' Q' E' hP hQ=>?_,λh' tk hk=>?_⟩
 .have hP':its[i]?=some v:=by simpa using hP
  obtain⟨x,hx,rx⟩:=uW rv i v hP';rw[VA]at hx;cases e:bs[i]? with
  |none=>rw[e]at hx;cases hx
  |some b=>
   rw[e]at hx;cases hx;cases rx;have e2:bs.getD i false=b:=by rw[VH,e];rfl
   dsimp only at hQ;rw[e2]at hQ;exact XG hQ
 have kp:∀b o,s.heap.get? b=some o->h'.get? b=some o:=λb o hb=>hk b o (by
  have:=VC hb;simp only[V6];exact VO this) (VS _ hb)
 have len:its.toArray.size=bs.length:=by rw[VM,<-rv.length,V2]
 refine⟨.bl _,H,I.kept (t':=tk) kp,rfl,?_⟩;have e:(List.range its.toArray.size).any (λi=>bs.getD i false)=bs.any id:=by rw[len,Wg,Yq,Yq];constructor;{rintro⟨i,hi,h⟩;have hi':=VD.mp hi;rw[VH,VG hi']at h;exact⟨_,XU hi',h⟩};rintro⟨b,hb,h⟩;obtain⟨i,hi⟩:=W6 hb;refine⟨i,VD.mpr (Wj.mp hi).1,?_⟩;rw[VH,hi];exact h
 rw[e];exact q
def AD:b8 X (.type "range") (λxs H Q=>∃j:Int,xs=[.int j]/\∀p,H p=none->Q (.ref p) (upd H p (.qY 0 j))):=by intro pins s U H xs us Q I r h;obtain⟨j,rfl,q⟩:=h;obtain⟨u,rfl,ru⟩:=vals1 r;obtain⟨t,rfl⟩:=ru;refine call_range_1 (?_:_);exact⟨.ref s.heap.objs.size,_,I.laid (o:=.qY 0 j) (λb o e=>VS _ e) (V4 _) ⟨_,_,_,W0 _ rfl⟩,rfl,q _ (I.hok.fresh (V4 _))⟩
def Eb(hc:X.calm=true):b8 X (.type "list") (λxs H Q=>∃(a:Addr) (j:Int),xs=[.ref a]/\H a=some (.qY 0 j)/\0<=j/\j<=1000/\∀l,H l=none->Q (.ref l) (upd H l (.lst (((List.range j.toNat).map λi:Nat=>(i:Int)).map V.int)))):=by
 intro pins s U H xs us Q I r h;obtain⟨a,j,rfl,ha,j0,j1,q⟩:=h;obtain⟨u,rfl,ru⟩:=vals1 r;cases ru;obtain⟨t,u,v,e⟩:=I.hok a _ ha;refine call_list_range (n:=j.toNat) (I.ok.hd hc) e (small_one (by decide) (by decide) (by lia) (by lia)) (by rw[rangeSize_one];split<;>lia) (by lia) λh' tk acc c kp hS its=>?_;obtain⟨z1,z2⟩:=its;have rv:Vals (((List.range j.toNat).map λi:Nat=>(i:Int)).map V.int) acc.toList:=by
  have go:∀(l:A00) (k:Nat),(∀(i:Nat)(v:Value),l[i]?=some v->∃t:Tok,v=Value.int ((k+i:Nat):Int) t)->Vals (((List.range' k l.length).map λi:Nat=>(i:Int)).map V.int) l:=λl=>by
   induction l with
   |nil=>exact λk _=>.nil
   |cons x l ih=>intro k h;obtain⟨t,e⟩:=h 0 x rfl;refine .cons ⟨t,by simpa using e⟩ (ih (k+1) λi v hv=>?_);obtain⟨t,e⟩:=h (i+1) v hv;exact⟨t,by rw[e,XW,Nat.add_comm 1 i]⟩
  have:=go acc.toList 0 λi v hv=>by obtain⟨t,e⟩:=z2 i v (by simpa using hv);exact⟨t,by rw[e];simp⟩
  rw[ZP];simpa[z1]using this
 exact⟨.ref s.heap.objs.size,_,I.laid (t':=tk) kp (V4 _) (o:=.lst _) ⟨by rw[V2,V2,V9];exact VX (show j.toNat<=1000 by lia) (by decide),acc.toList,c,rv,by simpa using hS⟩,rfl,q _ (I.hok.fresh (V4 _))⟩
end L2
namespace Dv
open PySem L2 PySem.W
section
variable{X:Cx}{Ex:XK}{Y:A05}
def yY(h:PE X e (tC u))(r:∀Hm,Rp X.K Hm u v):SE X Ex Y e (dC v):=λg x E U H Hm F P Q hx R p q=>WE.of h (q _ _ _ _ _ _ _ [] p R (ah.refl _) (Tm.sh (r Hm)))
def Qc{i j:Nat}(h:PE X e (kI j))(hj:Y[j]?=some i):SE X Ex Y e (bg i):=by
 intro g x E U H Hm F P Q hx R p q;replace p:GC E i P:=p;unfold GC at p;split at p
 rotate_left
 .exact p.elim
 rename_i k d e1;rw[<-aX,Bg]at p;obtain⟨E',e2,p⟩:=p;obtain⟨v,Hm',F',h1,s,R',r⟩:=R.dm e1 e2;exact WE.of h ⟨v,bP hj h1,q _ _ _ _ _ _ _ [] p R' s (Tm.sh r)⟩
def bJ (X:Cx)(Ex:XK)(Y:A05)(e:Expr)(d:DE):Prop:=
 ∀(g:Gh)(x:XC)(E:En)(U:St)(H Hm:Hp)(F:Nat->A01)(P:En->Kd->PyData->Prop)(Q:Bool->Hp->Prop),XL X Ex x g->Rl X.K g E U H Hm F->d x E P->
  (∀E' k v H' Hm' F',P E' k v->Rl X.K g E' U H' Hm' F'->ah Hm Hm'->∃b,nC v=some b/\Q b H')->WT X e (sel Y U) H Q
def bJ.st{e:Expr}{d:DE}(h:bJ X Ex Y e d):ST X Ex Y e (bN d):=by rw[My];exact λg x E U H Hm F P Q hx R p q=>h g x E U H Hm F _ Q hx R p λE' k v H' Hm' F' ⟨b,e1,p⟩ R' s=>⟨b,e1,q _ _ _ _ _ p R' s⟩
theorem Rp.nC{b:Bool}(r:Rp K H u v)(h:Dv.nC v=some b):qg K u H b:=by
 cases r with
 |aW=>cases h;rfl
 |bl c=>cases h;rfl
 |int i=>cases h;show(!decide (i=0))=(i != 0);rw[bne,Bool.beq_eq_decide_eq]
 |str _=>cases h
 |lst a r1=>cases h;refine .inl ⟨_,a.sq,?_⟩;cases r1<;>rfl
 |tup a r1=>cases h;refine .inr (.inl ⟨_,bR.of a,?_⟩);cases r1<;>rfl
 |dk _ _=>cases h
 |dt _ _=>cases h
 |exc _ _=>cases h
 |pd _ _ _=>cases h
theorem Own.nC{b:Bool}(o:Own K H Hm k u v fp)(s:ah Hm H)(h:Dv.nC v=some b):qg K u H b:=by by_cases hk:k.rd=true;{exact(o.rp (Hm':=H) hk s λ_ _=>rfl).nC h};cases o<;>first|exact absurd rfl hk|cases h
def SE.wU(h:SE X Ex Y e d)(he:∀whole,isTrue e X.env whole=(do let v <-whole;standAt e.pos;holding [v] (truthy v))):bJ X Ex Y e d:=by intro g x E U H Hm F P Q hx R p q;refine WT.of (zj bf he) (h g x E U H Hm F P _ hx R p λE' k v u H' Hm' F' fp p' R' s T=>?_);obtain⟨b,e1,q'⟩:=q _ _ _ _ _ _ p' R' s;exact⟨b,T.own.nC R'.sub e1,q'⟩
def zM(ho:bE X (compareOp op) r)(hm:behindInMarks op b=false)(h:pQ X [a,b] U H λvs H1=>r2 r vs H1 λx H'=>∃k,qg X.K x H' k/\Q k H'):WT X (.Compare a [op] [b] pos) U H Q:=by intro pins s I;refine wpAny_isTrue_Compare1 (aH (h pins s I) λv s1 ⟨x,H1,I1,r1,q1⟩=>aH (q1 pins s1 I1) λu s2 ⟨y,H2,I2,r2,q2⟩=>aH (ho pins s2 U H2 x y v u _ I2 r1 r2 q2) λc s3 ⟨z,H3,I3,r3,q3⟩=>?_) hm;exact F8 pins s3 U H3 z c Q I3 r3 q3
def Pn(S:aN X Ex Y es as)(hr:∀U H (Q:Bool->Hp->Prop),pQ X es U H (λvs H1=>r vs H1 λx H'=>∃k,qg X.K x H' k/\Q k H')->WT X e U H Q)(D:cM X.K f r):bJ X Ex Y e (aa f as):=by
 intro g x E U H Hm F P Q hx R h q;refine hr _ _ _ (ju hx S R h λE1 os vs H1 Hm1 F1 p R1 s1 G=>?_);replace p:zO f as E1 os P:=p;unfold zO at p;rw[<-aX,eL]at p;obtain⟨ds,hf,hg⟩:=p;have off:∀a∈(cP as).flatMap F1,Hm1 a=none:=λa ha=>by obtain⟨i,_,h⟩:=Vy.mp ha;exact R1.off i a h
 have up:=ie (Hm:=Hm1) (H:=H1) off;refine D H1 (lend Hm1 H1 ((cP as).flatMap F1)) vs ds _ _ (i8 R1.sub) (nB R1 up G hf λi hi a ha=>eW (Vy.mpr ⟨i,hi,ha⟩)) hg λk v u H' Hm2 fp p sH sM sS old o fr=>?_;replace p:aA (sO as E1 k v) _:=p;rw[<-aX,Bu]at p;obtain⟨E2,ha,p⟩:=p;obtain⟨Hm',F',R',s',T⟩:=Ac R1 (is:=cP as) (tE ha) sH sM sS old o fr;obtain⟨b,e1,q'⟩:=q _ _ _ _ _ _ p R' (s1.trans s');exact⟨b,o.nC sS e1,q'⟩
def iy(ho:bE X (compareOp op) r)(hm:behindInMarks op b=false)(D:cM X.K f (r2 r))(S:aN X Ex Y [a,b] as):bJ X Ex Y (.Compare a [op] [b] pos) (aa f as):=Pn S (λU H Q h=>zM ho hm h) D
theorem Own.bool{c:Bool}(o:Own K H Hm k u (.bool c) fp):u=.bl c:=by
 cases o with
 |sh r=>cases r;rfl
theorem Own.int{i:Int}(o:Own K H Hm k u (.int i) fp):u=.int i:=by
 cases o with
 |sh r=>cases r;rfl
def yh(h:SE X Ex Y a d):SE X Ex Y (.BoolOp op [a] pos) d:=λg x E U H Hm F P Q hx R p q=>WE.of (PD bf) (h g x E U H Hm F P Q hx R p q)
def Hi{a b:Expr}{rest:A03}{pos:Pos}{d e:DE}(ha:SE X Ex Y a d)(hb:SE X Ex Y (.BoolOp .And (b::rest) pos) e):SE X Ex Y (.BoolOp .And (a::b::rest) pos) (nR d e):=by
 rw[B7];intro g x E U H Hm F P Q hx R p q;refine WE.of (Oo bf bf) (ha g x E U H Hm F _ _ hx R p λE1 k v u H1 Hm1 F1 fp p1 R1 s1 T=>?_);obtain⟨c,rfl,p1⟩:=p1;refine⟨c,T.own.bool,?_⟩;cases c with
 |true=>exact nJ (hb g x E1 U H1 Hm1 F1 P Q hx R1 p1 λE' k v u H' Hm' F' fp p' R' s' T'=>q _ _ _ _ _ _ _ _ p' R' (s1.trans s') T')
 |false=>exact nP (q _ _ _ _ _ _ _ [] p1 R1 s1 (Tm.sh (.bl false)))
def Ru{a b:Expr}{rest:A03}{pos:Pos}{d e:DE}(ha:SE X Ex Y a d)(hb:SE X Ex Y (.BoolOp .Or (b::rest) pos) e):SE X Ex Y (.BoolOp .Or (a::b::rest) pos) (oS d e):=by
 rw[Ft];intro g x E U H Hm F P Q hx R p q;refine WE.of (Sd bf bf) (ha g x E U H Hm F _ _ hx R p λE1 k v u H1 Hm1 F1 fp p1 R1 s1 T=>?_);obtain⟨c,rfl,p1⟩:=p1;refine⟨c,T.own.bool,?_⟩;cases c with
 |true=>exact nJ (q _ _ _ _ _ _ _ [] p1 R1 s1 (Tm.sh (.bl true)))
 |false=>exact nP (hb g x E1 U H1 Hm1 F1 P Q hx R1 p1 λE' k v u H' Hm' F' fp p' R' s' T'=>q _ _ _ _ _ _ _ _ p' R' (s1.trans s') T')
def WW (X:Cx)(e:Expr):TT:=λU H Q=>∀(whole:Sem Value)(pins:Zq)(s:Shared),Inv X pins U H s->wpAny (model X.prog X.w) X.A (isTrue e X.env whole) (TP X pins U Q) X.xe s
def pw_ww:PW X e (WW X e):=λwh pins s _ _ _ I h=>h wh pins s I
def WW.of(h:PW X e t)(q:t U H Q):WW X e U H Q:=λwh pins s I=>h wh pins s U H Q I q
def m9 (X:Cx)(Ex:XK)(Y:A05)(e:Expr)(d:DE):Prop:=
 ∀(g:Gh)(x:XC)(E:En)(U:St)(H Hm:Hp)(F:Nat->A01)(P:En->Kd->PyData->Prop)(Q:Bool->Hp->Prop),XL X Ex x g->Rl X.K g E U H Hm F->d x E P->
  (∀E' k v H' Hm' F',P E' k v->Rl X.K g E' U H' Hm' F'->ah Hm Hm'->∃b,nC v=some b/\Q b H')->WW X e (sel Y U) H Q
def m9.wU(h:m9 X Ex Y e d):bJ X Ex Y e d:=λg x E U H Hm F P Q hx R p q=>WT.of (PW.pt pw_ww) (h g x E U H Hm F P Q hx R p q)
def j7(h:bJ X Ex Y a d):m9 X Ex Y (.BoolOp op [a] pos) d:=λg x E U H Hm F P Q hx R p q=>by
 cases op with
 |And=>exact WW.of (pw_and1 jY) (h g x E U H Hm F P Q hx R p q)
 |Or=>exact WW.of (pw_or1 jY) (h g x E U H Hm F P Q hx R p q)
def BS{a b:Expr}{rest:A03}{pos:Pos}{d e:DE}(ha:bJ X Ex Y a d)(hb:m9 X Ex Y (.BoolOp .And (b::rest) pos) e):m9 X Ex Y (.BoolOp .And (a::b::rest) pos) (nR d e):=by
 rw[B7];intro g x E U H Hm F P Q hx R p q;refine WW.of (pw_and jY pw_ww) (ha g x E U H Hm F _ _ hx R p λE1 k v H1 Hm1 F1 p1 R1 s1=>?_);obtain⟨c,rfl,p1⟩:=p1;refine⟨c,rfl,?_⟩;cases c with
 |true=>exact nJ (hb g x E1 U H1 Hm1 F1 P Q hx R1 p1 λE' k v H' Hm' F' p' R' s'=>q _ _ _ _ _ _ p' R' (s1.trans s'))
 |false=>obtain⟨b,e1,q'⟩:=q _ _ _ _ _ _ p1 R1 s1;cases e1;exact nP q'
def mK{a b:Expr}{rest:A03}{pos:Pos}{d e:DE}(ha:bJ X Ex Y a d)(hb:m9 X Ex Y (.BoolOp .Or (b::rest) pos) e):m9 X Ex Y (.BoolOp .Or (a::b::rest) pos) (oS d e):=by
 rw[Ft];intro g x E U H Hm F P Q hx R p q;refine WW.of (pw_or jY pw_ww) (ha g x E U H Hm F _ _ hx R p λE1 k v H1 Hm1 F1 p1 R1 s1=>?_);obtain⟨c,rfl,p1⟩:=p1;refine⟨c,rfl,?_⟩;cases c with
 |true=>obtain⟨b,e1,q'⟩:=q _ _ _ _ _ _ p1 R1 s1;cases e1;exact nJ q'
 |false=>exact nP (hb g x E1 U H1 Hm1 F1 P Q hx R1 p1 λE' k v H' Hm' F' p' R' s'=>q _ _ _ _ _ _ p' R' (s1.trans s'))
def Hw(ho:bE X (compareOp op) (oZ λi j=>.bl (f i j)))(ho':bE X (compareOp op') (oZ λi j=>.bl (f' i j)))(hm:lastMarks [op,op'] [b,c]=false)(ha:SE X Ex Y a da)(hb:SE X Ex Y b db)(hc:SE X Ex Y c dc):bJ X Ex Y (.Compare a [op,op'] [b,c] pos) (pR f f' da db dc):=by rw[EB];intro g x E U H Hm F P Q hx R p q;refine WT.of (Im ho ho' bf bf bf hm) (ha g x E U H Hm F _ _ hx R p λE1 k1 v1 u1 H1 Hm1 F1 fp1 p1 R1 s1 T1=>?_);obtain⟨i,rfl,p1⟩:=p1;cases T1.own.int;refine hb g x E1 U H1 Hm1 F1 _ _ hx R1 p1 λE2 k2 v2 u2 H2 Hm2 F2 fp2 p2 R2 s2 T2=>?_;obtain⟨j,rfl,p2⟩:=p2;cases T2.own.int;refine⟨i,j,rfl,rfl,f i j,rfl,?_⟩;by_cases z:f i j=true;{rw[if_pos z]at p2⊢;refine hc g x E2 U H2 Hm2 F2 _ _ hx R2 p2 λE3 k3 v3 u3 H3 Hm3 F3 fp3 p3 R3 s3 T3=>?_;obtain⟨k,rfl,p3⟩:=p3;cases T3.own.int;obtain⟨b',e1,q'⟩:=q _ _ _ _ _ _ p3 R3 (s1.trans (s2.trans s3));cases e1;exact⟨j,k,rfl,rfl,_,rfl,q'⟩};rw[if_neg z]at p2⊢;obtain⟨b',e1,q'⟩:=q _ _ _ _ _ _ p2 R2 (s1.trans s2);cases e1;exact⟨_,rfl,q'⟩
def xU(hc:ST X Ex Y c t)(ha:SE X Ex Y a d)(hb:SE X Ex Y b e):SE X Ex Y (.IfExp c a b pos) (wV t d e):=by
 rw[P7];intro g x E U H Hm F P Q hx R p q;refine WE.of (IK jY bf bf) (hc g x E U H Hm F _ _ hx R p λE1 b H1 Hm1 F1 p1 R1 s1=>?_);cases b with
 |true=>exact nJ (ha g x E1 U H1 Hm1 F1 P Q hx R1 (by simpa using p1) λE' k v u H' Hm' F' fp p' R' s' T'=>q _ _ _ _ _ _ _ _ p' R' (s1.trans s') T')
 |false=>exact nP (hb g x E1 U H1 Hm1 F1 P Q hx R1 (by simpa using p1) λE' k v u H' Hm' F' fp p' R' s' T'=>q _ _ _ _ _ _ _ _ p' R' (s1.trans s') T')
def T8{i j:Nat}(h:PE X e (kI j))(hj:Y[j]?=some i)(he:∀whole,isTrue e X.env whole=(do let v <-whole;standAt e.pos;holding [v] (truthy v))):ST X Ex Y e (Kl i):=by
 intro g x E U H Hm F P Q hx R p q;replace p:HE E i P:=p;unfold HE at p;split at p
 rotate_left
 .exact p.elim
 rename_i k d e1;rw[d7,<-Lo]at p;obtain⟨hk,b,ht,p⟩:=p;obtain⟨v,h1,h2⟩:=R.slot i k d e1;exact WT.of (zj h he) ⟨v,bP hj h1,b,h2.nC R.sub ht,q _ _ _ _ _ p R (ah.refl _)⟩
def QG(ha:ST X Ex Y a t):ST X Ex Y (.UnaryOp .Not a pos) (Lb t):=by intro g x E U H Hm F P Q hx R p q;exact WT.of (O9 jY) (ha g x E U H Hm F _ _ hx R p λE1 b H1 Hm1 F1 p1 R1 s1=>q _ _ _ _ _ p1 R1 s1)
def noStar:Expr->Bool
 |.Starred ..=>false
 |_=>true
def aR(h:noStar e=true):starEach (e::es) env=(false,eval e env)::starEach es env:=by cases e<;>first|rfl|cases h
theorem eO:∀{es:A03},es.all noStar=true->(backTo pos (starEach es env)).any (·.1)=false
 |[],_=>rfl
 |e::es,h=>by rw[VL,VB]at h;rw[aR h.1];show(false||(backTo pos (starEach es env)).any (·.1))=false;rw[eO h.2];rfl
end
section
variable{X:Cx}{Ex:XK}{Y:A05}
theorem dh:∀{es:A03},es.all noStar=true->PA X es (pQ X es)
 |[],_=>nk
 |e::es,h=>by rw[VL,VB]at h;exact iu bf (dh h.2) (aR h.1)
def fD{x:Str}{id:String}{p pos:Pos}{e:Expr}{es:A03}{as:List Arg}{f:DR}{r:List V->Hp->VK->Prop}(hc:b8 X (.builtin id) r)(D:cM X.K f r)(hg:Gl X x)(hm:X.mg x=none)(hv:bootBuiltins x=some (.builtin id))(hn:x≠"__name__")(hd:(x==("__debug__":Str))=false)(ns:(e::es).all noStar=true)(S:aN X Ex Y (e::es) as):SE X Ex Y (.Call (.Name x p) (e::es) [] pos) (aa f as):=
 gk S (λU H Q h=>WE.of (Ad hc hg hm hv (dh ns) hn hd (aR (by rw[VL,VB]at ns;exact ns.1)) (eO (by rw[VL,VB]at ns;exact ns.2))) h) D
def qb(hc:b8 X (.type T) r)(D:cM X.K f r)(hg:Gl X x)(hm:X.mg x=none)(hv:bootBuiltins x=some (.type T))(hn:x≠"__name__")(hd:(x==("__debug__":Str))=false)(ns:(e::es).all noStar=true)(S:aN X Ex Y (e::es) as):SE X Ex Y (.Call (.Name x p) (e::es) [] pos) (aa f as):=
 gk S (λU H Q h=>WE.of (lS hc hg hm hv (dh ns) hn hd (aR (by rw[VL,VB]at ns;exact ns.1)) (eO (by rw[VL,VB]at ns;exact ns.2))) h) D
def cE:DR:=λds P=>ds.length<=sizeLine/\P (.ow false) (.list ds)
def cJ:DR:=λds P=>ds.length<=sizeLine/\P .sh (.tuple ds)
def Mc:cM K cE λxs H Q=>xs.length<=sizeLine/\∀p,H p=none->Q (.ref p) (upd H p (.lst xs)):=λH Hm vs ds P Q s r h q=>⟨by rw[r.len];exact h.1,λp hp=>bO.nl q s h.2 hp r⟩
def Mh:cM K cJ λxs H Q=>xs.length<=sizeLine/\∀p,H p=none->Q (.ref p) (upd H p (.tup xs)):=λH Hm vs ds P Q s r h q=>⟨by rw[r.len];exact h.1,λp hp=>bO.nt q s h.2 hp r⟩
def Ow(ns:es.all noStar=true)(S:aN X Ex Y es as):SE X Ex Y (.List es pos) (aa cE as):=gk S (λU H Q h=>WE.of (Nt (dh ns)) h) Mc
def Qh{k:Nat}(ns:es.all noStar=true)(S:aN X Ex Y es as):SE X Ex Y (.Tuple es k pos) (aa cJ as):=gk S (λU H Q h=>WE.of (O0 (dh ns)) h) Mh
def JB:DR:=λds P=>match ds with
 |[.list xs]=>P .sh (.int xs.length)
 |[.tuple xs]=>P .sh (.int xs.length)
 |_=>False
def M3:cM K JB λxs H Q=>∃p ys,xs=[.ref p]/\(bH K H p ys\/bR K H p ys)/\Q (.int ys.length) H:=by
 intro H Hm vs ds P Q s r h q;unfold JB at h;split at h
 .obtain⟨x,rfl,h1⟩:=dH r;cases h1 with
  |lst a r1=>exact⟨_,_,rfl,.inl (bW.mono s a).sq,by rw[r1.len];exact bO.sc q s h (.int _)⟩
 .obtain⟨x,rfl,h1⟩:=dH r;cases h1 with
  |tup a r1=>exact⟨_,_,rfl,.inr (bR.of (s _ _ a)),by rw[r1.len];exact bO.sc q s h (.int _)⟩
 exact h.elim
def qL:DR:=λds P=>match ds with
 |[.list xs]=>P (.ow false) (.list xs)
 |[.tuple xs]=>P (.ow false) (.list xs)
 |_=>False
def JA:cM K qL λxs H Q=>∃p ys,xs=[.ref p]/\(bH K H p ys\/bR K H p ys)/\∀l,H l=none->Q (.ref l) (upd H l (.lst ys)):=by
 intro H Hm vs ds P Q s r h q;unfold qL at h;split at h
 .obtain⟨x,rfl,h1⟩:=dH r;cases h1 with
  |lst a r1=>exact⟨_,_,rfl,.inl (bW.mono s a).sq,λp hp=>bO.nl q s h hp r1⟩
 .obtain⟨x,rfl,h1⟩:=dH r;cases h1 with
  |tup a r1=>exact⟨_,_,rfl,.inr (bR.of (s _ _ a)),λp hp=>bO.nl q s h hp r1⟩
 exact h.elim
def kB:DR:=λds P=>match ds with
 |[.list xs]=>P .sh (.tuple xs)
 |[.tuple xs]=>P .sh (.tuple xs)
 |_=>False
def GO:cM K kB λxs H Q=>∃p ys,xs=[.ref p]/\((bH K H p ys/\∀l,H l=none->Q (.ref l) (upd H l (.tup ys)))\/(bR K H p ys/\Q (.ref p) H)):=by
 intro H Hm vs ds P Q s r h q;unfold kB at h;split at h
 .obtain⟨x,rfl,h1⟩:=dH r;cases h1 with
  |lst a r1=>exact⟨_,_,rfl,.inl ⟨(bW.mono s a).sq,λp hp=>bO.nt q s h hp r1⟩⟩
 .obtain⟨x,rfl,h1⟩:=dH r;cases h1 with
  |tup a r1=>exact⟨_,_,rfl,.inr ⟨bR.of (s _ _ a),bO.sc q s h (.tup a r1)⟩⟩
 exact h.elim
def xQ:DR:=nK λi j=>.int (if j<i then j else i)
def Rh{f:Int->Int->Int}:cM K (nK λi j=>.int (f i j)) λxs H Q=>∃i j,xs=[.int i,.int j]/\Q (.int (f i j)) H:=by intro H Hm vs ds P Q s r h q;refine wc h λa b e p=>?_;subst e;obtain⟨x,y,rfl,h1,h2⟩:=fV r;cases h1;cases h2;exact⟨a,b,rfl,bO.sc q s p (.int _)⟩
def jy:DR:=λds P=>match ds with
 |[.int i]=>P .sh (.int i)
 |[.bool k]=>P .sh (.int (if k then 1 else 0))
 |_=>False
def EJ:cM K jy λxs H Q=>(∃i,xs=[.int i]/\Q (.int i) H)\/∃k,xs=[.bl k]/\Q (.int (if k then 1 else 0)) H:=by intro H Hm vs ds P Q s r h q;unfold jy at h;split at h;{obtain⟨x,rfl,h1⟩:=dH r;cases h1;exact .inl ⟨_,rfl,bO.sc q s h (.int _)⟩};{obtain⟨x,rfl,h1⟩:=dH r;cases h1;exact .inr ⟨_,rfl,bO.sc q s h (.int _)⟩};exact h.elim
theorem oB:∀{vs:List V}{ns:A06},ay K H vs (ns.map PyData.int)->vs=ns.map V.int
 |_,[],h=>by cases h;rfl
 |_,n::ns,h=>by
  cases h with
  |cons h t=>cases h;rw[oB t];rfl
theorem sW:∀(ns:A06),ay K H (ns.map V.int) (ns.map PyData.int)
 |[]=>.nil
 |n::ns=>.cons (.int n) (sW ns)
theorem xj:∀{vs:List V}{ns:A02},ay K H vs (ns.map PyData.bool)->vs=ns.map V.bl
 |_,[],h=>by cases h;rfl
 |_,n::ns,h=>by
  cases h with
  |cons h t=>cases h;rw[xj t];rfl
def dX(h:Rp K H x (.list ds)):∃a xs,x=.ref a/\bW K H a xs/\ay K H xs ds:=by
 cases h with
 |lst a r=>exact⟨_,_,rfl,a,r⟩
def qx:DR:=λds P=>∃ns:A06,ds=[.list (ns.map .int)]/\P .sh (.int ns.sum)
def MO:cM K qx λxs H Q=>∃(a:Addr)(ns:A06),xs=[.ref a]/\bH K H a (ns.map V.int)/\Q (.int ns.sum) H:=by rintro H Hm vs ds P Q s r⟨ns,rfl,h⟩q;obtain⟨x,rfl,h1⟩:=dH r;obtain⟨a,xs,rfl,ha,r1⟩:=dX h1;cases oB r1;exact⟨a,ns,rfl,(bW.mono s ha).sq,bO.sc q s h (.int _)⟩
def qD:DR:=λds P=>∃ns:A06,ds=[.list (ns.map .int)]/\ns≠[]/\∀M,M∈ns->(∀n∈ns,M<=n)->P .sh (.int M)
def Jw:cM K qD λxs H Q=>∃(a:Addr)(ns:A06),xs=[.ref a]/\bH K H a (ns.map V.int)/\ns≠[]/\∀M,M∈ns->(∀n∈ns,M<=n)->Q (.int M) H:=by rintro H Hm vs ds P Q s r⟨ns,rfl,hn,h⟩q;obtain⟨x,rfl,h1⟩:=dH r;obtain⟨a,xs,rfl,ha,r1⟩:=dX h1;cases oB r1;exact⟨a,ns,rfl,(bW.mono s ha).sq,hn,λM m1 m2=>bO.sc q s (h M m1 m2) (.int _)⟩
def xR:DR:=λds P=>∃ns:A06,ds=[.list (ns.map .int)]/\ns≠[]/\∀M,M∈ns->(∀n∈ns,n<=M)->P .sh (.int M)
def Jl:cM K xR λxs H Q=>∃(a:Addr)(ns:A06),xs=[.ref a]/\bH K H a (ns.map V.int)/\ns≠[]/\∀M,M∈ns->(∀n∈ns,n<=M)->Q (.int M) H:=by rintro H Hm vs ds P Q s r⟨ns,rfl,hn,h⟩q;obtain⟨x,rfl,h1⟩:=dH r;obtain⟨a,xs,rfl,ha,r1⟩:=dX h1;cases oB r1;exact⟨a,ns,rfl,(bW.mono s ha).sq,hn,λM m1 m2=>bO.sc q s (h M m1 m2) (.int _)⟩
def yg:DR:=λds P=>∃bs:A02,ds=[.list (bs.map .bool)]/\P .sh (.bool (bs.any id))
def MW:cM K yg λxs H Q=>∃(a:Addr)(bs:A02),xs=[.ref a]/\bH K H a (bs.map V.bl)/\Q (.bl (bs.any id)) H:=by rintro H Hm vs ds P Q s r⟨ns,rfl,h⟩q;obtain⟨x,rfl,h1⟩:=dH r;obtain⟨a,xs,rfl,ha,r1⟩:=dX h1;cases xj r1;exact⟨a,ns,rfl,(bW.mono s ha).sq,bO.sc q s h (.bl _)⟩
def pD (p:Int×Int):PyData:=.tuple [.int p.1,.int p.2]
inductive Bl(vs:List V)(H:Hp)(Q:VK):Prop
 |mk:∀j:Int,(vs=[.int j])->(∀p,H p=none->0<=j/\j<=1000/\∀l,upd H p (.qY 0 j) l=none->Q (.ref l) (upd (upd H p (.qY 0 j)) l (.lst (((List.range j.toNat).map λi:Nat=>(i:Int)).map V.int))))->Bl vs H Q
def Fd:List V->Hp->VK->Prop:=λvs H Q=>Bl vs H Q
def mZ:DR:=λds P=>match ds with
 |[.int j]=>(0<=j/\j<=1000)/\P (.ow false) (.list (jU 0 j.toNat))
 |_=>False
def LZ(n:Nat):ay K H (((List.range n).map λi:Nat=>(i:Int)).map V.int) (jU 0 n):=by have:=sW (K:=K) (H:=H) ((List.range n).map λi:Nat=>(i:Int));rw[V7 (l:=List.range n) (g:=PyData.int)]at this;unfold jU;rw[show(λi:Nat=>PyData.int (0+i))=PyData.int∘λi:Nat=>(i:Int)from funext λi=>by simp];exact this
def EX:cM K mZ Fd:=by intro H Hm vs ds P Q s r h q;unfold mZ at h;split at h;{obtain⟨x,rfl,h1⟩:=dH r;cases h1;rename_i j;refine⟨j,rfl,λp hp=>⟨h.1.1,h.1.2,λl hl=>?_⟩⟩;have s1:=bQ (o:=.qY 0 j) hp;have s2:=bQ (o:=.lst (((List.range j.toNat).map λi:Nat=>(i:Int)).map V.int)) hl;refine q _ _ _ _ Hm [l] h.2 (s1.trans s2) (ah.refl _) (s.trans (s1.trans s2)) (λ_ _=>.inl rfl) (.ow av (LZ _)) λa ha=>?_;rw[V6.mp ha];have:H l=none:=s1.free hl;exact⟨this,fL s this⟩};exact h.elim
def IF(hc:X.calm=true)(g1:Gl X "list")(m1:X.mg "list"=none)(g2:Gl X "range")(m2:X.mg "range"=none)(ns:noStar a=true)(S:aN X Ex Y [a] as) : SE X Ex Y (.Call (.Name "list" p1) [.Call (.Name "range" p2) [a] [] pos2] [] pos) (aa mZ as):=
 gk (r:=Fd) S (λU H Q h=>WE.of (lS (Eb hc) g1 m1 ZV (iu (lS AD g2 m2 PyProof.Rows.boot_range (dh (es:=[a]) (by rw[VL,ns];rfl)) (by decide) (by decide) (aR ns) (by rfl)) nk)) (by
  refine λpins s I=>aH (h pins s I) λv s1 ⟨x,H1,I1,r1,j,e,q⟩=>⟨x,H1,I1,r1,?_⟩
  cases e;refine⟨j,rfl,λp hp=>?_⟩
  obtain⟨q1,q2,q3⟩:=q p hp;exact⟨p,j,rfl,av,q1,q2,q3⟩)) EX
end
inductive Ag(K:Frag)(H Hm:Hp):A02->List V->Zy->A01->Prop
 |nil:Ag K H Hm [] [] [] []
 |sh {ms:A02}{vs:List V}{ds:Zy}{as:A01}{v:V}{d:PyData}:Rp K Hm v d->Ag K H Hm ms vs ds as->Ag K H Hm (false::ms) (v::vs) (d::ds) as
 |mu {ms:A02}{vs:List V}{ds:Zy}{as:A01}{a:Addr}{xs:List V}{es:Zy}:H a=some (.lst xs)->ay K Hm xs es->Hm a=none->a∉as->Ag K H Hm ms vs ds as->Ag K H Hm (true::ms) (.ref a::vs) (.list es::ds) (a::as)
inductive Bk(K:Frag)(H Hm:Hp):A01->Zy->Prop
 |nil:Bk K H Hm [] []
 |cons {a:Addr}{xs:List V}{es:Zy}{as:A01}{us:Zy}:H a=some (.lst xs)->ay K Hm xs es->Hm a=none->Bk K H Hm as us->Bk K H Hm (a::as) (.list es::us)
def cF (mg:Zp)(K:Frag)(ms:A02)(sp:bG):Sp:=λvs H Q Ex=>∃(ds:Zy)(as:A01)(Hm:Hp)(P:Zy->Kd->PyData->Prop)(x:XC),ah Hm H/\Ag K H Hm ms vs ds as/\sp ds P x /\
 (∀us k r u H' Hm' fp,P us k r->ah Hm Hm'->ah Hm' H'->(∀p o,p∉as->H p=some o->H' p=some o)->(∀a,a∉as->H a≠none->OE (Hm' a) (Hm a))->Bk K H' Hm' as us->Own K H' Hm' k u r fp->(∀a∈fp,H a=none/\Hm' a=none)->Q u H') /\
 (∀c d C a H',mg c=some (.ref C)->x c d->(∀p o,p∉as->H p=some o->H' p=some o)->H' a=some (.ext (m6 a C none))->H a=none->Ex (.ref C) (some a) H')
section
variable{K:Frag}{g:Gh}{U:St}
def Se{F:Nat->A01}(R:Rl K g E U H Hm F)(s:ah Hm Hm1):∀{ms:A02}{as:List Arg}{os:List (Option PyData)}{vs:List V}{ds:Zy},Got K U Hm as os vs->fill as E os=some ds->shape ms as=true->(lent ms as).Nodup->(∀i∈lent ms as,∃p es,E[i]?=some (some (.ow p,.list es)))->(∀i∈kept ms as,∀a∈F i,Hm1 a=H a)->(∀i∈lent ms as,∀a∈F i,Hm1 a=none)->∃ix:List (Nat×Addr),ix.map (·.1)=lent ms as/\Ag K H Hm1 ms vs ds (ix.map (·.2))/\∀q∈ix,U[q.1]?=some (some (.ref q.2))/\F q.1=[q.2]:=by
 intro ms as os vs ds G;induction G generalizing ms ds with
 |nil=>
  intro h sh nd hl hk hn;cases ms with
  |nil=>cases h;exact⟨[],rfl,.nil,λ_ z=>by cases z⟩
  |cons b ms=>cases b<;>cases sh
 |@pk i v as os vs hv G ih=>
  intro h sh nd hl hk hn;cases ms with
  |nil=>cases sh
  |cons b ms=>
   cases b with
   |false=>
    rw[fill]at h;split at h
    .rename_i k d e;by_cases hr:k.rd=true
     .rw[if_pos hr]at h;cases hf:fill as E os with
      |none=>rw[hf]at h;cases h
      |some es=>rw[hf]at h;cases h;obtain⟨v',h1,h2⟩:=R.slot i k d e;rw[hv]at h1;cases h1;obtain⟨ix,e1,e2,e3⟩:=ih (ms:=ms) hf sh nd hl (λj hj=>hk j (V8 _ hj)) hn;exact⟨ix,e1,.sh (h2.rp hr s (hk i V3)) e2,e3⟩
     rw[if_neg hr]at h;cases h
    cases h
   |true=>
    rw[fill]at h;obtain⟨p,es0,e0⟩:=hl i V3;rw[e0]at h;have h:(if(Kd.ow p).rd=true then(fill as E os).map (PyData.list es0::·)else none)=some _:=h;rw[if_pos (show(Kd.ow p).rd=true from rfl)]at h;cases hf:fill as E os with
    |none=>rw[hf]at h;cases h
    |some es=>
     rw[hf]at h;cases h;obtain⟨v',h1,h2⟩:=R.slot i _ _ e0;rw[hv]at h1;cases h1;have nd':=WB.mp (show(i::lent ms as).Nodup from nd);obtain⟨ix,e1,e2,e3⟩:=ih (ms:=ms) hf sh nd'.2 (λj hj=>hl j (V8 _ hj)) hk (λj hj=>hn j (V8 _ hj));have hFi:=hn i V3;generalize hF:F i=fi at h2 hFi;cases h2 with
     |@ow _ a xs _ ha hr=>refine⟨(i,a)::ix,?_,.mu ha (hr.mono s) (hFi a V3) ?_ e2,?_⟩;{show i::ix.map (·.1)=i::lent ms as;rw[e1]};{intro m;obtain⟨q,hq,rfl⟩:=V5.mp m;have:=R.aF i q.1 q.2 (by rw[hF];exact V3) (by rw[(e3 q hq).2];exact V3);exact nd'.1 (e1▸(this▸V5.mpr ⟨q,hq,rfl⟩))};intro q hq;rcases VF.mp hq with rfl|hq;{exact⟨hv,hF⟩};exact e3 q hq
 |@ev d0 v u as os vs r G ih=>
  intro h sh nd hl hk hn;cases ms with
  |nil=>cases sh
  |cons b ms=>
   cases b with
   |true=>cases sh
   |false=>
    rw[fill]at h;cases hf:fill as E os with
    |none=>rw[hf]at h;cases h
    |some es=>rw[hf]at h;cases h;obtain⟨ix,e1,e2,e3⟩:=ih (ms:=ms) hf sh nd hl hk hn;exact⟨ix,e1,.sh (r.mono s) e2,e3⟩
theorem nX:∀{ms:A02}{as:List Arg}{us:Zy}{E E2:En},sU ms as us E=some E2->(lent ms as).Nodup->E2.length=E.length/\(∀j,j∉lent ms as->E2[j]?=E[j]?)/\(lent ms as).length=us.length /\ ∀(n i:Nat)(u:PyData),(lent ms as)[n]?=some i->us[n]?=some u->∃p es es',u=.list es'/\E[i]?=some (some (.ow p,.list es))/\E2[i]?=some (some (.ow p,.list es'))
 |[],[],[],E,E2,h,_=>by cases h;exact⟨rfl,λ_ _=>rfl,rfl,λ_ _ _ z=>by cases z⟩
 |[],[],_::_,E,E2,h,_=>by cases h
 |[],_::_,_,E,E2,h,_=>by cases h
 |false::ms,.pk j::r,us,E,E2,h,nd=>nX (ms:=ms) (as:=r) (us:=us) h nd
 |false::ms,.ev _::r,us,E,E2,h,nd=>nX (ms:=ms) (as:=r) (us:=us) h nd
 |false::ms,[],us,E,E2,h,_=>by cases h
 |true::ms,[],us,E,E2,h,_=>by cases h
 |true::ms,.ev _::r,us,E,E2,h,_=>by cases h
 |true::ms,.pk i::r,[],E,E2,h,_=>by cases h
 |true::ms,.pk i::r,u::us,E,E2,h,nd=>by
  rw[sU]at h;obtain⟨n1,n2⟩:=WB.mp (show(i::lent ms r).Nodup from nd);split at h
  .rename_i p es e;by_cases hu:BP u=true
   .rw[if_pos hu]at h;cases u with
    |list es'=>
     have li:i<E.length:=by rcases W4 i E.length with h|h;{exact h};rw[VZ h]at e;cases e
     obtain⟨l1,g1,l2,g2⟩:=nX (ms:=ms) (as:=r) (us:=us) h n2;rw[VY]at l1;refine⟨l1,λj hj=>?_,congrArg (·+1) l2,λn j v h1 h2=>?_⟩;{have hj':j∉lent ms r:=λz=>hj (V8 _ z);have hne:i≠j:=λz=>hj (z▸V3);rw[g1 j hj',ak hne]};cases n with
     |zero=>cases h1;cases h2;exact⟨p,es,es',rfl,e,by rw[g1 i n1,aD li]⟩
     |succ n=>have h1:(lent ms r)[n]?=some j:=h1;have h2:us[n]?=some v:=h2;obtain⟨p',fs,fs',e1,e2,e3⟩:=g2 n j v h1 h2;have hne:i≠j:=λz=>n1 (z▸VV h1);rw[ak hne]at e2;exact⟨p',fs,fs',e1,e2,e3⟩
    |_=>cases hu
   rw[if_neg hu]at h;cases h
  cases h
theorem Bk.get:∀{as:A01}{us:Zy}{n:Nat}{a:Addr},Bk K H Hm as us->as[n]?=some a->∃xs es,us[n]?=some (.list es)/\H a=some (.lst xs)/\ay K Hm xs es/\Hm a=none
 |_,_,_,_,.nil,h=>by simp at h
 |_,_,0,_,.cons h1 h2 h3 _,h=>by simp at h;subst h;exact⟨_,_,rfl,h1,h2,h3⟩
 |_,_,n+1,_,.cons _ _ _ t,h=>t.get (n:=n) (by simpa using h)
def uJ{E E2 E3:En}{H H' Hm Hm2:Hp}{F:Nat->A01}{is:A05}{ix:List (Nat×Addr)}{us:Zy}{k:Kd}{u:V}{v:PyData}{fp:A01}(R:Rl K g E U H Hm F)(hix:∀q∈ix,U[q.1]?=some (some (.ref q.2))/\F q.1=[q.2])(hik:∀q∈ix,q.1∉is)(l2:E2.length=E.length)(hs:∀j,j∉ix.map (·.1)->E2[j]?=E[j]?)(hu:∀q∈ix,∃p es xs' es',PyData.list es'∈us/\E[q.1]?=some (some (.ow p,.list es))/\E2[q.1]?=some (some (.ow p,.list es'))/\H' q.2=some (.lst xs')/\ay K Hm2 xs' es'/\Hm2 q.2=none)(hE:(if(flat k v&&us.all (flat (.ow false)))=true then some E2 else eF is E2)=some E3)(s1:ah (lend Hm H (is.flatMap F)) Hm2)(s2:ah Hm2 H')(sH:∀p o,p∉ix.map (·.2)->H p=some o->H' p=some o)(old:∀a,a∉ix.map (·.2)->H a≠none->OE (Hm2 a) (lend Hm H (is.flatMap F) a))(o:Own K H' Hm2 k u v fp)(fr:∀a∈fp,H a=none/\Hm2 a=none) : ∃Hm' F',Rl K g E3 U H' Hm' F'/\ah Hm Hm'/\Tm K g F' H' Hm' k u v fp:=by
 have mem:∀{a i},a∈F i->i∈is->a∈is.flatMap F:=λha hi=>Vy.mpr ⟨_,hi,ha⟩;have off:∀a∈is.flatMap F,Hm a=none:=λa ha=>by obtain⟨i,_,h⟩:=Vy.mp ha;exact R.off i a h
 have up:ah Hm (lend Hm H (is.flatMap F)):=ie off;have bu:∀{i a},a∈F i->H a≠none:=λha z=>by obtain⟨u,hu,_⟩:=R.bu _ _ ha;rw[z]at hu;cases hu
 have own:∀q∈ix,q.2∈F q.1:=λq hq=>by rw[(hix q hq).2];exact V3
 have lentF:∀{i a},a∈F i->a∈ix.map (·.2)->i∈ix.map (·.1):=λ{i a} ha m=>by obtain⟨q,hq,rfl⟩:=V5.mp m;exact V5.mpr ⟨q,hq,(R.aF i q.1 q.2 ha (own q hq)).symm⟩
 have lis:∀a,a∈ix.map (·.2)->a∉is.flatMap F:=λa m z=>by obtain⟨q,hq,rfl⟩:=V5.mp m;obtain⟨i,hi,h⟩:=Vy.mp z;exact hik q hq (R.aF i q.1 q.2 h (own q hq)▸hi)
 have nfp:∀a∈fp,∀i,a∉F i:=λa ha i=>R.fresh (fr a ha).1;have m2:∀{a},H a≠none->a∉is.flatMap F->(a∉ix.map (·.2)/\OE (Hm2 a) (Hm a))\/(a∈ix.map (·.2)/\Hm2 a=none):=λ{a} h c=>by by_cases z:a∈ix.map (·.2);{obtain⟨q,hq,rfl⟩:=V5.mp z;obtain⟨_,_,_,_,_,_,_,_,_,e⟩:=hu q hq;exact .inr ⟨z,e⟩};refine .inl ⟨z,?_⟩;have h':=old a z h;rw[cQ c]at h';exact h'
 have offI:∀{i a},a∈F i->a∉is.flatMap F->Hm2 a=none:=λ{i a} ha c=>by rcases m2 (bu ha) c with⟨z,e⟩|⟨_,e⟩;{obtain⟨w,hw,nt⟩:=R.bu i a ha;exact e.off (R.off i a ha) s2 (sH a w z hw) nt};exact e
 have od:∀{a},g.H0 a≠none->a∉is.flatMap F->OE (Hm2 a) (g.eu a):=λ{a} h c=>by rcases m2 (R.nL h) c with⟨_,e⟩|⟨z,e⟩;{exact e.trans (R.old a h)};obtain⟨q,hq,rfl⟩:=V5.mp z;have h':=R.old _ h;rw[R.off q.1 q.2 (own q hq)]at h';rw[e];exact h'
 have hliv:∀{i a},a∈F i->∃w,H' a=some w/\oU w:=λ{i a} ha=>by by_cases z:a∈ix.map (·.2);{obtain⟨q,hq,rfl⟩:=V5.mp z;obtain⟨_,_,_,_,_,_,_,e,_,_⟩:=hu q hq;exact⟨_,e,lO⟩};obtain⟨w,hw,nt⟩:=R.bu i a ha;exact⟨w,sH a w z hw,nt⟩
 have keepH:∀{j a},j∉ix.map (·.1)->a∈F j->H' a=H a:=λ{j a} hj ha=>by obtain⟨w,hw,_⟩:=R.bu j a ha;rw[hw];exact sH a w (λz=>hj (lentF ha z)) hw
 have frm:∀p o,p∉g.M->g.H0 p=some o->H' p=some o:=λp o hp ho=>by refine sH p o (λz=>?_) (R.fr p o hp ho);obtain⟨q,hq,rfl⟩:=V5.mp z;rcases R.new q.1 q.2 (own q hq)with y|y;{exact hp y};rw[y]at ho;cases ho
 have pinn:∀{E4:En},(∀j,j∉is->E4[j]?=E2[j]?)->(∀j∈is,E4[j]?=E2[j]?\/∃k d,E2[j]?=some (some (k,d))/\k.fz=true)->∀q∈g.pins,U[q.1]?=some (some (.ref q.2))/\∃ds,E4[q.1]?=some (some (.ow true,.list ds)):=λ{E4} h4 h5 q hq=>by
  obtain⟨h1,ds',h2⟩:=R.pin q hq;refine⟨h1,?_⟩;have e2:∃ds,E2[q.1]?=some (some (.ow true,.list ds)):=by by_cases z:q.1∈ix.map (·.1);{obtain⟨q',hq',e⟩:=V5.mp z;obtain⟨p,es,xs',es',_,g1,g2,_⟩:=hu q' hq';rw[e,h2]at g1;cases g1;exact⟨es',e▸g2⟩};exact⟨ds',by rw[hs _ z];exact h2⟩
  obtain⟨ds,e2⟩:=e2;by_cases z:q.1∈is;{rcases h5 _ z with y|⟨k0,d0,y,yk⟩;{exact⟨ds,y.trans e2⟩};rw[e2]at y;cases y;cases yk};exact⟨ds,(h4 _ z).trans e2⟩
 by_cases hf:(flat k v&&us.all (flat (.ow false)))=true
 .rw[if_pos hf]at hE;cases hE;rw[VB,VW]at hf;have st:lP Hm2 (back Hm2 (is.flatMap F)):=λa xs h=>by
   have c:a∉is.flatMap F:=λz=>by obtain⟨i,_,hi⟩:=Vy.mp z;obtain⟨w,hw,nt⟩:=R.bu i a hi;have e2:Hm2 a=some w:=s1 _ _ (by rw[eW z];exact hw);rw[e2]at h;cases h;exact nt xs rfl
   rw[c8 c];exact h
  have upB:ah Hm (back Hm2 (is.flatMap F)):=λb o e=>by rw[c8 λz=>by rw[off b z]at e;cases e];exact s1 _ _ (up _ _ e)
  have R':Rl K g E2 U H' (back Hm2 (is.flatMap F)) F:={
   len:=l2.trans R.len
   sub:=zg s2
   slot:=λj k' d' e'=>by
    by_cases z:j∈ix.map (·.1)
    .obtain⟨q,hq,rfl⟩:=V5.mp z;obtain⟨p,es,xs',es',mu,g1,g2,g3,g4,_⟩:=hu q hq;rw[g2]at e';cases e';obtain⟨h1,h2⟩:=hix q hq;exact⟨_,h1,by rw[h2];exact .ow g3 (g4.x8 st (hf.2 _ mu))⟩
    .rw[hs j z]at e';obtain⟨v',h1,h2⟩:=R.slot j k' d' e';exact⟨v',h1,h2.step upB λa ha=>keepH z ha⟩
   off:=λi a ha=>by
    by_cases c:a∈is.flatMap F
    .exact jg c
    .rw[c8 c];exact offI ha c
   bu:=λi a ha=>hliv ha
   aF:=R.aF
   fr:=frm
   new:=R.new
   pin:=pinn (λj _=>rfl) λj _=>.inl rfl
   old:=λa ha=>by
    by_cases c:a∈is.flatMap F
    .have h':=R.old a ha;rw[off a c]at h';rw[jg c];exact h'
    .rw[c8 c];exact od ha c }
  refine⟨_,F,R',upB,⟨o.flat st hf.1,λa ha=>?_,nfp,λa ha=>R.fH (fr a ha).1⟩⟩;by_cases c:a∈is.flatMap F;{exact jg c};rw[c8 c];exact(fr a ha).2
 rw[if_neg hf]at hE;obtain⟨l3,g3⟩:=nZ hE;have R':Rl K g E3 U H' Hm2 (λj=>if j∈is then []else F j):={
  len:=l3.trans (l2.trans R.len)
  sub:=s2
  slot:=λj k' d' e'=>by
   by_cases c:j∈is
   .obtain⟨k0,d0,e0,hk0,e1⟩:=(g3 j).2 c;rw[e1]at e';cases e';have z:j∉ix.map (·.1):=λz=>by
     obtain⟨q,hq,rfl⟩:=V5.mp z;exact hik q hq c
    rw[hs j z]at e0;obtain⟨v',h1,h2⟩:=R.slot j k0 _ e0;refine⟨v',h1,?_⟩;rw[if_pos c];exact .sh ((h2.rp (by cases k0<;>first|rfl|cases hk0) up λa ha=>eW (mem ha c)).mono s1)
   .rw[(g3 j).1 c]at e';rw[if_neg c]
    by_cases z:j∈ix.map (·.1)
    .obtain⟨q,hq,rfl⟩:=V5.mp z;obtain⟨p,es,xs',es',mu,g1,g2,g4,g5,_⟩:=hu q hq;rw[g2]at e';cases e';obtain⟨h1,h2⟩:=hix q hq;exact⟨_,h1,by rw[h2];exact .ow g4 g5⟩
    .rw[hs j z]at e';obtain⟨v',h1,h2⟩:=R.slot j k' d' e';exact⟨v',h1,h2.step (up.trans s1) λa ha=>keepH z ha⟩
  off:=λj a ha=>by
   by_cases c:j∈is
   .rw[if_pos c]at ha;cases ha
   .rw[if_neg c]at ha;exact offI ha λz=>by
     obtain⟨i,hi,h⟩:=Vy.mp z;exact c (R.aF i j a h ha▸hi)
  bu:=λj a ha=>by
   by_cases c:j∈is
   .rw[if_pos c]at ha;cases ha
   .rw[if_neg c]at ha;exact hliv ha
  aF:=λj l a h1 h2=>by
   by_cases c:j∈is
   .rw[if_pos c]at h1;cases h1
   .rw[if_neg c]at h1
    by_cases c':l∈is
    .rw[if_pos c']at h2;cases h2
    .rw[if_neg c']at h2;exact R.aF j l a h1 h2
  fr:=frm
  new:=λj a ha=>by
   by_cases c:j∈is
   .rw[if_pos c]at ha;cases ha
   .rw[if_neg c]at ha;exact R.new j a ha
  pin:=pinn (λj hj=>(g3 j).1 hj) λj hj=>by
   obtain⟨k0,d0,e0,hk0,_⟩:=(g3 j).2 hj;exact .inr ⟨k0,d0,e0,hk0⟩
  old:=λa ha=>by
   refine od ha λz=>?_
   obtain⟨i,hi,h⟩:=Vy.mp z;obtain⟨k0,d0,e0,hk0,_⟩:=(g3 i).2 hi;have zi:i∉ix.map (·.1):=λz=>by
    obtain⟨q,hq,rfl⟩:=V5.mp z;exact hik q hq hi
   rw[hs i zi]at e0;exact ha (R.notM e0 (by cases k0<;>first|rfl|(rename_i p;cases p<;>first|rfl|cases hk0)|cases hk0) h) }
 refine⟨Hm2,_,R',up.trans s1,⟨o,λa ha=>(fr a ha).2,λa ha i=>?_,λa ha=>R.fH (fr a ha).1⟩⟩;by_cases c:i∈is;{rw[if_pos c];simp};rw[if_neg c];exact nfp a ha i
variable{X:Cx}{Ex:XK}{Y:A05}
def MX{x:Str}{k:Nat}{ps:A07}{ms:A02}{sp:bG}{p pos:Pos}{e:Expr}{es:A03}{as:List Arg}(F:bZ X.prog X.w X.K X.mg X.base k x ps (cF X.mg X.K ms sp))(hp:Passes (fh X.prog X.w) X Ex)(hr:dM k X.A)(hg:Gl X x)(hd:(x==("__debug__":Str))=false)(ns:(e::es).all noStar=true)(S:aN X Ex Y (e::es) as):SE X Ex Y (.Call (.Name x p) (e::es) [] pos) (aJ sp ms as):=by
 intro g xc E U H Hm Fo P Q hx R h q;obtain⟨f,fd,h1,h2,h3,h4⟩:=F;refine WE.of (Cb (E:=Ex) h4 hr hg h1 h2 h3 .nil hp (dh ns) hd (aR (by rw[VL,VB]at ns;exact ns.1)) (eO (by rw[VL,VB]at ns;exact ns.2))) ?_;refine ju hx S R h λE1 os vs H1 Hm1 F1 p R1 s1 G=>?_;replace p:Gf sp ms as xc E1 os P:=p;unfold Gf at p;rw[<-aX,eL]at p;obtain⟨ds,hf,p⟩:=p;rw[d7,IY]at p;obtain⟨hl,hsp⟩:=p;unfold zm at hl;rw[VB,VB,XD,VW]at hl;obtain⟨⟨l1,l2⟩,l3⟩:=hl;have hlent:∀i∈lent ms as,i∉kept ms as/\∃p es,E1[i]?=some (some (.ow p,.list es)):=λi hi=>by have:=l3 i hi;rw[VB]at this;refine⟨λz=>?_,?_⟩;{have y:=this.1;rw[ZW,Y8]at y;simp[z]at y};have y:=this.2;split at y;{rename_i p es e;exact⟨p,es,e⟩};cases y
 have off:∀a∈(kept ms as).flatMap F1,Hm1 a=none:=λa ha=>by obtain⟨i,_,h⟩:=Vy.mp ha;exact R1.off i a h
 have up:=ie (Hm:=Hm1) (H:=H1) off;obtain⟨ix,e1,e2,e3⟩:=Se R1 up (ms:=ms) G hf l1 l2 (λi hi=>(hlent i hi).2) (λi hi a ha=>eW (Vy.mpr ⟨i,hi,ha⟩)) λi hi a ha=>by
  rw[cQ λz=>by
   obtain⟨j,hj,h⟩:=Vy.mp z;exact(hlent i hi).1 (R1.aF j i a h ha▸hj)]
  exact R1.off i a ha
 show cF X.mg X.K ms sp (vs++[]) H1 Q Ex;rw[WO];refine⟨ds,ix.map (·.2),lend Hm1 H1 ((kept ms as).flatMap F1),_,xc,i8 R1.sub,e2,hsp,λus k r u H' Hm' fp p sM sS fr old bk o new=>?_,λc d C a H' hC hxc fr ha hn=>?_⟩
 .replace p:GB ms as E1 us k r P:=p;unfold GB at p;rw[<-aX,u7]at p;obtain⟨E2,hu,p⟩:=p;rw[<-aX,Jj]at p;obtain⟨E3,ha,p⟩:=p;obtain⟨u1,u2,u3,u4⟩:=nX hu l2;have hu':∀q∈ix,∃p es xs' es',PyData.list es'∈us/\E1[q.1]?=some (some (.ow p,.list es))/\E2[q.1]?=some (some (.ow p,.list es'))/\H' q.2=some (.lst xs')/\ay X.K Hm' xs' es'/\Hm' q.2=none:=λq hq=>by
   obtain⟨n,hn⟩:=W6 hq;have hn1:(lent ms as)[n]?=some q.1:=by rw[<-e1,VA,hn];rfl
   have hn2:(ix.map (·.2))[n]?=some q.2:=by rw[VA,hn];rfl
   obtain⟨xs',es',g1,g2,g3,g4⟩:=bk.get hn2;obtain⟨p',es,es'',g5,g6,g7⟩:=u4 n q.1 _ hn1 g1;cases g5;exact⟨p',es,xs',es',VV g1,g6,g7,g2,g3,g4⟩
  obtain⟨Hm'',F'',R'',s'',T⟩:=uJ R1 (is:=kept ms as) (ix:=ix) (us:=us) e3 (λq hq=>(hlent q.1 (e1▸V5.mpr ⟨q,hq,rfl⟩)).1) u1 (λj hj=>u2 j (e1▸hj)) hu' (tE ha) sM sS fr old o new;exact q _ _ _ _ _ _ _ _ p R'' (s1.trans s'') T
 refine hx c d C a H' hC hxc (λp o hp ho=>?_) ha (R1.fH hn);refine fr p o (λz=>?_) (R1.fr p o hp ho);obtain⟨q,hq,rfl⟩:=V5.mp z;rcases R1.new q.1 q.2 (by rw[(e3 q hq).2];exact V3)with y|y;{exact hp y};rw[y]at ho;cases ho
def WS (X:Cx)(st:Stmt):TS:=λD U H=>∀(pins:Zq)(s:Shared),Inv X pins U H s->wpAny (model X.prog X.w) X.A (exec st X.env) (SP X pins D) X.xe s
def rJ (X:Cx)(st:A04):TS:=λD U H=>∀(pins:Zq)(s:Shared),Inv X pins U H s->wpAny (model X.prog X.w) X.A (execs st X.env) (SP X pins D) X.xe s
def C8:PS X st (WS X st):=λpins s _ _ _ I h=>h pins s I
def jh:oR X st (rJ X st):=λpins s _ _ _ I h=>h pins s I
def WS.of(h:PS X st t)(q:t D U H):WS X st D U H:=λpins s I=>h pins s U H D I q
def rJ.of(h:oR X st t)(q:t D U H):rJ X st D U H:=λpins s I=>h pins s U H D I q
def aS{α:Type}{l:List α}{i:Nat}{a:α}(h:l[i]?=some a):i<l.length:=by rcases W4 i l.length with z|z;{exact z};rw[VZ z]at h;cases h
def ji{Y:A05}{U:St}{j i:Nat}{v:Option V}(nd:Y.Nodup)(h:Y[j]?=some i)(hi:i<U.length):(sel Y U).set j v=sel Y (U.set i v):=by
 have lj:j<Y.length:=aS h;refine W8 λk=>?_;by_cases c:k=j;{subst c;rw[aD (by unfold sel;rw[V2];exact lj)];unfold sel;rw[VA,h];show some v=some ((U.set i v)[i]?).join;rw[aD hi];rfl};rw[ak (Ne.symm c)];unfold sel;rw[VA,VA];cases e:Y[k]? with
 |none=>rfl
 |some m=>
  have ne:i≠m:=λz=>c (by
   have h1:=Wj.mp e;have h2:=Wj.mp h;obtain⟨l1,e1⟩:=h1;obtain⟨l2,e2⟩:=h2;exact(List.getElem_inj nd).mp (e1.trans (z.symm.trans e2.symm)))
  show some (U[m]?).join=some ((U.set i v)[m]?).join;rw[ak ne]
abbrev aO (X:Cx):A05:=List.range X.N.length
def SG (X:Cx)(Ex:XK)(w:TS)(d:DS):Prop:=
 ∀(g:Gh)(D':gQ)(E:En)(U:St)(H Hm:Hp)(F:Nat->A01)(D:Ends),XL X Ex D'.xc g->Rl X.K g E U H Hm F->d D' E->
  (∀E' σ' H' Hm' F',D'.nx E'->Rl X.K g E' σ' H' Hm' F'->ah Hm Hm'->D.nx (sel (aO X) σ') H')->
  (∀E' k v u σ' H' Hm' F' fp,D'.rt E' k v->Rl X.K g E' σ' H' Hm' F'->Tm X.K g F' H' Hm' k u v fp->D.rt u H')->w D (sel (aO X) U) H
abbrev S1 (X:Cx)(Ex:XK)(st:Stmt)(d:DS):Prop:=SG X Ex (WS X st) d
abbrev SS (X:Cx)(Ex:XK)(st:A04)(d:DS):Prop:=SG X Ex (rJ X st) d
end
section
variable{X:Cx}{Ex:XK}
def cj:SS X Ex [] dD:=λg D' E U H Hm F D hx R h nx rt=>rJ.of MZ (nx _ _ _ _ _ h R (ah.refl _))
def af{st:Stmt}{rest:A04}{a b:DS}(h1:S1 X Ex st a)(h2:SS X Ex rest b):SS X Ex (st::rest) (ao a b):=by intro g D' E U H Hm F D hx R h nx rt;refine rJ.of (z0 C8 jh) (h1 g { D' with nx:=b D' } E U H Hm F _ hx R h (λE1 σ1 H1 Hm1 F1 p1 R1 s1=>?_) rt);exact h2 g D' E1 σ1 H1 Hm1 F1 D hx R1 p1 (λE2 σ2 H2 Hm2 F2 p2 R2 s2=>nx _ _ _ _ _ p2 R2 (s1.trans s2)) rt
def uG{st:Stmt}{rest:A04}{a b:DS}(h1:S1 X Ex st a)(h2:SS X Ex rest b):SS X Ex (st::rest) (vO a b):=by intro g D' E U H Hm F D hx R h nx rt;obtain⟨J,h,hJ⟩:=h;refine rJ.of (z0 C8 jh) (h1 g { D' with nx:=J } E U H Hm F _ hx R h (λE1 σ1 H1 Hm1 F1 p1 R1 s1=>?_) rt);exact h2 g D' E1 σ1 H1 Hm1 F1 D hx R1 (hJ E1 p1) (λE2 σ2 H2 Hm2 F2 p2 R2 s2=>nx _ _ _ _ _ p2 R2 (s1.trans s2)) rt
def aj(h1:S1 X Ex st a):SS X Ex [st] a:=λg D' E U H Hm F D hx R h nx rt=>rJ.of (Mx C8) (h1 g D' E U H Hm F D hx R h nx rt)
def Tw(hc:ST X Ex (aO X) c t)(ha:SS X Ex a d)(hb:SS X Ex b2 e):S1 X Ex (.If c a b2 pos) (cG t d e):=by
 rw[MD];intro g D' E U H Hm F D hx R h nx rt;refine WS.of (Rg jY jh jh) (hc g D'.xc E U H Hm F _ (λb H1=>if b=true then rJ X a D _ H1 else rJ X b2 D _ H1) hx R h λE1 b H1 Hm1 F1 p1 R1 s1=>?_);cases b with
 |true=>exact nJ (ha g D' E1 U H1 Hm1 F1 D hx R1 (by simpa using p1) (λE2 σ2 H2 Hm2 F2 p2 R2 s2=>nx _ _ _ _ _ p2 R2 (s1.trans s2)) rt)
 |false=>exact nP (hb g D' E1 U H1 Hm1 F1 D hx R1 (by simpa using p1) (λE2 σ2 H2 Hm2 F2 p2 R2 s2=>nx _ _ _ _ _ p2 R2 (s1.trans s2)) rt)
def Sf(h:SE X Ex (aO X) e d):S1 X Ex (.Return (some e) pos) (bY d):=λg D' E U H Hm F D hx R p nx rt=>WS.of (HK bf) (h g D'.xc E U H Hm F _ _ hx R p λE' k v u H' Hm' F' fp p' R' s' T=>rt _ _ _ _ _ _ _ _ _ p' R' T)
def Nq(h:SE X Ex (aO X) e d)(hs:swapsWith e none pos.line X.env=pure false):S1 X Ex (.Expr e pos) (cK d):=λg D' E U H Hm F D hx R p nx rt=>WS.of (M6 bf hs) (h g D'.xc E U H Hm F _ _ hx R p λE' k v u H' Hm' F' fp p' R' s' T=>nx _ _ _ _ _ p' R' s')
def Rl.move{K:Frag}{g:Gh}{E:En}{U:St}{H Hm:Hp}{F:Nat->A01}(R:Rl K g E U H Hm F){i:Nat}{k:Kd}{d:PyData}(e:E[i]?=some (some (k,d)))(hk:k.pin=false):∃v F',U[i]?=some (some v)/\Rl K g (E.set i none) U H Hm F'/\Tm K g F' H Hm k v d (F i):=by
 obtain⟨v,h1,h2⟩:=R.slot i k d e;have li:=aS e;refine⟨v,λj=>if j=i then []else F j,h1,?_,⟨h2,R.off i,λa ha j=>?_,λa ha=>R.notM e hk ha⟩⟩
 .exact {
   len:=by rw[VY];exact R.len
   sub:=R.sub
   slot:=λj k' d' e'=>by
    by_cases c:j=i
    .subst c;rw[aD li]at e';cases e'
    .rw[ak (Ne.symm c)]at e';obtain⟨u,g1,g2⟩:=R.slot j k' d' e';exact⟨u,g1,by rw[if_neg c];exact g2⟩
   off:=λj a ha=>by
    by_cases c:j=i
    .rw[if_pos c]at ha;cases ha
    .rw[if_neg c]at ha;exact R.off j a ha
   bu:=λj a ha=>by
    by_cases c:j=i
    .rw[if_pos c]at ha;cases ha
    .rw[if_neg c]at ha;exact R.bu j a ha
   aF:=λj l a g1 g2=>by
    by_cases c:j=i
    .rw[if_pos c]at g1;cases g1
    .rw[if_neg c]at g1
     by_cases c':l=i
     .rw[if_pos c']at g2;cases g2
     .rw[if_neg c']at g2;exact R.aF j l a g1 g2
   fr:=R.fr
   new:=λj a ha=>by
    by_cases c:j=i
    .rw[if_pos c]at ha;cases ha
    .rw[if_neg c]at ha;exact R.new j a ha
   pin:=λq hq=>by
    obtain⟨g1,ds',g2⟩:=R.pin q hq;have c:i≠q.1:=λz=>by
     rw[<-z,e]at g2;cases g2;cases hk
    exact⟨g1,ds',by rw[ak c];exact g2⟩
   old:=R.old }
 by_cases c:j=i;{rw[if_pos c];simp};rw[if_neg c];exact λz=>c (R.aF j i a z ha)
def fc{n i:Nat}(h:i<n):(List.range n)[i]?=some i:=VN h
def N2{i:Nat}(h:PE X e (kI i))(hi:i<X.N.length):S1 X Ex (.Return (some e) pos) (iM i):=by
 intro g D' E U H Hm F D hx R p nx rt;replace p:Fi E i D'.rt:=p;unfold Fi at p;split at p
 rotate_left
 .exact p.elim
 rename_i k d e1;rw[d7]at p;obtain⟨hk,p⟩:=p;have hk:k.pin=false:=by simpa using hk
 obtain⟨v,F',h1,R',T⟩:=R.move e1 hk;exact WS.of (HK h) ⟨v,bP (fc hi) h1,rt _ _ _ _ _ _ _ _ _ p R' T⟩
def gw{i:Nat}(h:bL E i=true):i<E.length:=by rcases W4 i E.length with z|z;{exact z};unfold bL at h;rw[VZ z]at h;cases h
def Rv{i:Nat}{x:Str}{e:Expr}{pos pos':Pos}{d:DE}(hN:X.N.Nodup)(hi:X.N[i]?=some x)(hl:Loc X.env.scope x)(hs:swapsWith e (some (.Name x pos')) pos.line X.env=pure false)(hf:X.fn x=true\/X.env.scope.names.lookup x=some .local)(h:SE X Ex (aO X) e d):S1 X Ex (.Assign [.Name x pos'] e pos) (aB i d):=by rw[qJ];intro g D' E U H Hm F D hx R p nx rt;refine WS.of (OY hN hi hl bf hs hf) (h g D'.xc E U H Hm F _ _ hx R p λE' k v u H' Hm' F' fp p' R' s' T=>?_);show D.nx ((sel (aO X) U).set i (some u)) H';rw[ji Wi (fc (aS hi)) (R'.len▸gw p'.1)];exact nx _ _ _ _ _ p'.2 (R'.put T p'.1) s'
inductive jI(X:Cx)(Y:A05):A03->A05->Prop
 |nil:jI X Y [] []
 |cons {x:Str}{p:Pos}{j i:Nat}{ts:A03}{is:A05}:X.N[j]?=some x->Y[j]?=some i->Loc X.env.scope x->(X.fn x=true\/X.env.scope.names.lookup x=some .local)->jI X Y ts is->jI X Y (.Name x p::ts) (i::is)
inductive fM(X:Cx)(Y:A05):Expr->Tg->Prop
 |nm {x:Str}{p:Pos}{j i:Nat}:X.N[j]?=some x->Y[j]?=some i->Loc X.env.scope x->(X.fn x=true\/X.env.scope.names.lookup x=some .local)->fM X Y (.Name x p) (.nm i)
 |tp {ts:A03}{k:Nat}{p:Pos}{is:A05}:jI X Y ts is->fM X Y (.Tuple ts k p) (.tp is)
 |nt {x:Str}{q p2 p:Pos}{ts:A03}{k k2 j i:Nat}{is:A05}:X.N[j]?=some x->Y[j]?=some i->Loc X.env.scope x->(X.fn x=true\/X.env.scope.names.lookup x=some .local)->jI X Y ts is->fM X Y (.Tuple [.Name x q,.Tuple ts k2 p2] k p) (.nt i is)
def Vo (X:Cx)(Y:A05)(tg:Tg)(G:TG):Prop:=∀{g:Gh}{d:PyData}{v:V}{E E2:En}{U:St}{H Hm:Hp}{F:Nat->A01}{Q:St->Hp->Prop},cO tg d E=some E2->Rp X.K Hm v d->Rl X.K g E U H Hm F->(∀σ' F',Rl X.K g E2 σ' H Hm F'->(∀j,j∉tg.slots->σ'[j]?=U[j]?)->Q (sel Y σ') H)->G v (sel Y U) H Q
def xX(hN:X.N.Nodup)(nd:Y.Nodup)(h:jI X Y ts is):∃G:rE,GG X ts G/\(assignEach ts X.env).length=is.length/\(assignEach ts X.env).findIdx? (·.1)=none /\ ∀{g:Gh}{ds:Zy}{vs:List V}{E E2:En}{U:St}{H Hm:Hp}{F:Nat->A01}{Q:St->Hp->Prop},bw is ds E=some E2->ay X.K Hm vs ds->Rl X.K g E U H Hm F->(∀σ' F',Rl X.K g E2 σ' H Hm F'->(∀j,j∉is->σ'[j]?=U[j]?)->Q (sel Y σ') H)->vs.length=is.length/\G vs (sel Y U) H Q:=by
 induction h with
 |nil=>
  refine⟨IG,B0,rfl,rfl,λ{g ds vs E E2 U H Hm F Q} h r R q=>?_⟩;cases ds with
  |nil=>cases h;cases r;exact⟨rfl,rfl,q _ _ R λ_ _=>rfl⟩
  |cons _ _=>cases h
 |@cons x p j i ts is h1 h2 h3 h4 _ ih=>
  obtain⟨G,g1,g2,g3,g4⟩:=ih;refine⟨CU (lR j) G,rZ (uV hN h1 h3 h4) g1,?_,?_,λ{g ds vs E E2 U H Hm F Q} h r R q=>?_⟩;{show(assignEach ts X.env).length+1=_;rw[g2];rfl};{show List.findIdx? (·.1) ((false,assign (.Name x p) X.env)::assignEach ts X.env)=none;rw[List.findIdx?_cons,g3];rfl};cases ds with
  |nil=>cases h
  |cons d ds=>
   rw[bw]at h;by_cases o:bL E i=true
   .rw[if_pos o]at h;cases r with
    |cons r1 r2=>
     obtain⟨l,k⟩:=g4 h r2 (R.put (Tm.sh r1) o) λσ' F' R' a=>q σ' F' R' λj' hj=>by have ne:i≠j':=λz=>hj (z▸V3);exact(a j' λz=>hj (V8 _ z)).trans (ak ne)
     refine⟨congrArg (·+1) l,_,_,rfl,?_⟩;show G _ ((sel Y U).set j (some _)) H Q;rw[ji nd h2 (R.len▸gw o)];exact k
   rw[if_neg o]at h;cases h
def qN{i:Nat}(h:cO (.nt i is) d E=some E2):∃a ds,d=.tuple [a,.tuple ds]/\bw (i::is) (a::ds) E=some E2:=by
 cases d with
 |tuple l=>
  rcases l with _|⟨a,_|⟨b,_|⟨c,r⟩⟩⟩;{cases h};{cases h}
  .cases b with
   |tuple ds=>exact⟨a,ds,rfl,h⟩
   |_=>cases h
  cases b<;>cases h
 |_=>cases h
def tQ(hc:X.calm=true)(hN:X.N.Nodup)(nd:Y.Nodup)(h:fM X Y e tg):∃G,PG X e G/\Vo X Y tg G:=by
 cases h with
 |@nm x p j i h1 h2 h3 h4=>refine⟨lR j,uV hN h1 h3 h4,λ{g d v E E2 U H Hm F Q} h r R q=>?_⟩;have h:bw [i] [d] E=some E2:=h;rw[bw]at h;by_cases o:bL E i=true;{rw[if_pos o]at h;cases h;show Q ((sel Y U).set j (some v)) H;rw[ji nd h2 (R.len▸gw o)];exact q _ _ (R.put (Tm.sh r) o) λj' hj=>ak (show i≠j' from λz=>hj (z▸V3))};rw[if_neg o]at h;cases h
 |@tp ts k p is h=>
  obtain⟨G,g1,g2,g3,g4⟩:=xX hN nd h;refine⟨_,Ai hc g1 g2 g3,λ{g d v E E2 U H Hm F Q} h r R q=>?_⟩;cases d with
  |tuple ds=>
   have h:bw is ds E=some E2:=h;cases r with
   |tup a r=>obtain⟨l,k⟩:=g4 h r R q;exact⟨_,_,rfl,bR.of (R.sub _ _ a),l,k⟩
  |_=>cases h
 |@nt x q p2 p ts k k2 j i is h1 h2 h3 h4 h=>
  obtain⟨G,g1,g2,g3,g4⟩:=xX hN nd h;refine⟨_,Ai hc (rZ (uV hN h1 h3 h4) (rZ (Ai hc g1 g2 g3) B0)) rfl rfl,λ{g d v E E2 U H Hm F Q} h r R q=>?_⟩;obtain⟨a1,ds,rfl,h⟩:=qN h;cases r with
  |tup a r=>
   cases r with
   |cons r1 r2=>
    cases r2 with
    |cons r2 r3=>
     cases r3;cases r2 with
     |tup b rs=>
      replace h:(if bL E i then bw is ds (E.set i (some (.sh,a1)))else none)=some E2:=h;by_cases o:bL E i=true
      .rw[if_pos o]at h;obtain⟨l,k⟩:=g4 (Q:=λσ' H'=>IG [] σ' H' Q) h rs (R.put (Tm.sh r1) o) λσ' F' R' a=>⟨rfl,q σ' F' R' λj' hj=>by
        have ne:i≠j':=λz=>hj (z▸V3)
        exact(a j' λz=>hj (V8 _ z)).trans (ak ne)⟩
       refine⟨_,_,rfl,bR.of (R.sub _ _ a),rfl,_,_,rfl,?_⟩;show CU _ _ _ ((sel Y U).set j (some _)) H Q;rw[ji nd h2 (R.len▸gw o)];exact⟨_,_,rfl,_,_,rfl,bR.of (R.sub _ _ b),l,k⟩
      rw[if_neg o]at h;cases h
def RK{k:Nat}(hc:X.calm=true)(hN:X.N.Nodup)(ht:jI X (aO X) ts is)(hs:swapsWithSole [.Tuple ts k p] e pos.line X.env=pure false)(hw:swappedStores [.Tuple ts k p] e X.env=pure none)(h:SE X Ex (aO X) e d):S1 X Ex (.Assign [.Tuple ts k p] e pos) (qv is d):=by
 intro g D' E U H Hm F D hx R pp nx rt;obtain⟨G,g1,g2⟩:=tQ hc hN Wi (fM.tp (k:=k) (p:=p) ht);refine WS.of (FY bf g1 hs hw) (h g D'.xc E U H Hm F _ _ hx R pp λE' k v u H' Hm' F' fp p' R' s' T=>?_);replace p':bK k.fz _:=p';rw[d7]at p';obtain⟨hk,p'⟩:=p';unfold Ls at p';split at p'
 rotate_left
 .exact p'.elim
 rename_i ds;rw[<-aX,HG]at p';obtain⟨E2,e2,p'⟩:=p';have e2:cO (.tp is) (.tuple ds) E'=some E2:=e2;obtain⟨Hm2,s2,R2,r2⟩:=T.cZ R' hk;exact g2 e2 r2 R2 λσ' F' R3 _=>nx _ _ _ _ _ p' R3 (s'.trans s2)
def LG(hp:PassesOwn (model X.prog X.w) X.A X.env X.xe)(hc:ST X Ex (aO X) c t)(hb:SS X Ex b d):S1 X Ex (.While c b [] pos) (pK t d):=by
 intro g D' E U H Hm F D hx R h nx rt;obtain⟨W,⟨m0,w0⟩,step⟩:=h;refine WS.of (Ja hp jY jh) ⟨λm τ H'=>∃E' σ' Hm' F',W m E'/\Rl X.K g E' σ' H' Hm' F'/\ah Hm Hm'/\τ=sel (aO X) σ',⟨m0,E,U,Hm,F,w0,R,ah.refl _,rfl⟩,?_⟩;rintro m τ H1⟨E1,σ1,Hm1,F1,w1,R1,s1,rfl⟩;refine hc g D'.xc E1 σ1 H1 Hm1 F1 _ _ hx R1 (step m E1 w1) λE2 b2 H2 Hm2 F2 p2 R2 s2=>?_;cases b2 with
 |true=>
  refine nJ ⟨λτ H'=>∃m',m'<m/\∃E' σ' Hm' F',W m' E'/\Rl X.K g E' σ' H' Hm' F'/\ah Hm Hm'/\τ=sel (aO X) σ',λ_ _ z=>z,?_⟩;exact hb g { D' with nx:=λE'=>∃m',m'<m/\W m' E' } E2 σ1 H2 Hm2 F2 _ hx R2 (by simpa using p2) (λE3 σ3 H3 Hm3 F3 p3 R3 s3=>by
   obtain⟨m',hm,w3⟩:=p3;exact⟨m',hm,E3,σ3,Hm3,F3,w3,R3,s1.trans (s2.trans s3),rfl⟩) rt
 |false=>exact nP (nx _ _ _ _ _ (by simpa using p2) R2 (s1.trans s2))
def Am (K:Frag)(J:It)(xs:Zy)(eu:Hp):Prop:=∀(i:Nat)(H Hm:Hp),ah eu Hm->ah Hm H->
 (∀d,xs[i]?=some d->J.go i H/\∀x H',J.mJ i H x H'->∃Hm',ah Hm Hm'/\ah Hm' H'/\ah H H'/\(∀a,H a≠none->OE (Hm' a) (Hm a))/\Rp K Hm' x d)/\(xs.length<=i->J.stop i H)
def SI (X:Cx)(Ex:XK)(Y:A05)(tg e:Expr)(d:DI):Prop:=∃wi:TI,PI X tg e wi /\
 ∀(g:Gh)(x:XC)(E:En)(U:St)(H Hm:Hp)(F:Nat->A01)(P:En->Zy->Prop)(R:It->Hp->Prop),XL X Ex x g->Rl X.K g E U H Hm F->d x E P->
  (∀E' xs J H' Hm' F',P E' xs->Rl X.K g E' U H' Hm' F'->ah Hm Hm'->Am X.K J xs Hm'->R J H')->wi (sel Y U) H R
def Rl.turn{F:Nat->A01}(R:Rl K g E U H Hm F)(s1:ah Hm Hm')(s2:ah Hm' H')(s3:ah H H')(old:∀a,H a≠none->OE (Hm' a) (Hm a)):Rl K g E U H' Hm' F:=
 R.grow s3 s1 s2 (λi a ha=>by
  obtain⟨u,hu,nt⟩:=R.bu i a ha;exact(old a (by rw[hu];simp)).off (R.off i a ha) s2 (s3 _ _ hu) nt) λa ha=>old a (R.nL ha)
def RU(hp:PassesOwn (model X.prog X.w) X.A X.env X.xe)(hc:X.calm=true)(hN:X.N.Nodup)(hi:SI X Ex (aO X) tg it di)(ht:fM X (aO X) tg t)(hb:SS X Ex b d)(hs:∀x,foldedSetIterable it X.env x=pure x):S1 X Ex (.For tg it b [] pos) (eK di t d):=by
 intro g D' E U H Hm F D hx R h nx rt;obtain⟨wi,hpi,hw⟩:=hi;obtain⟨G,g1,g2⟩:=tQ hc hN Wi ht;refine WS.of (O8 hp hc hpi g1 jh hs) (hw g D'.xc E U H Hm F _ _ hx R h λE1 xs J H1 Hm1 F1 p1 R1 s1 it1=>?_);obtain⟨I,i0,step,fin⟩:=p1;refine⟨λi m τ H'=>m=xs.length-i/\i<=xs.length/\∃E' σ' Hm' F',I i E'/\Rl X.K g E' σ' H' Hm' F'/\ah Hm1 Hm'/\τ=sel (aO X) σ',⟨xs.length,by simp,W3 _,E1,U,Hm1,F1,i0,R1,ah.refl _,rfl⟩,?_⟩;rintro i m τ H2⟨rfl,hi,E2,σ2,Hm2,F2,i2,R2,s2,rfl⟩;obtain⟨go,stop⟩:=it1 i H2 Hm2 s2 R2.sub;by_cases c:i<xs.length;{obtain⟨go,mJ⟩:=go xs[i] (VG c);refine .inr ⟨go,λτ H'=>i+1<=xs.length/\∃E' σ' Hm' F',I (i+1) E'/\Rl X.K g E' σ' H' Hm' F'/\ah Hm1 Hm'/\τ=sel (aO X) σ',λτ H' z=>⟨xs.length-(i+1),by lia,rfl,z⟩,λx H3 y=>?_⟩;obtain⟨Hm3,t1,t2,t3,old,r⟩:=mJ x H3 y;have R3:=R2.turn t1 t2 t3 old;obtain⟨E4,e4,p4⟩:=step i xs[i] E2 (VG c) i2;refine g2 e4 r R3 λσ4 F4 R4 _=>?_;exact hb g { D' with nx:=I (i+1) } E4 σ4 H3 Hm3 F4 _ hx R4 p4 (λE5 σ5 H5 Hm5 F5 p5 R5 s5=>⟨c,E5,σ5,Hm5,F5,p5,R5,s2.trans (t1.trans s5),rfl⟩) rt};have e:i=xs.length:=by lia
 subst e;exact .inl ⟨stop (V4 _),nx _ _ _ _ _ (fin E2 i2) R2 (s1.trans s2)⟩
end
end Dv
namespace L2
open PySem PySem.Spec PyProof.Rows
def ja (elt:Expr)(gens:Zo)(scope:Scope)(pos:Pos) (k:Nat)(acc:Value)(env:Env)(fin:Sem Fin):Sem Fin:=match gens[k]? with
 |some g'=>do
  let x <-eval g'.iter env
  standAt g'.iter.pos
  let x <-foldedSetIterable g'.iter env x
  let y <-holding [x] (pyIter x)
  let _ <-runOwn (.compStart (.ListComp elt gens scope pos) k y acc env) env
  fin
 |none=>do
  (do let _ <-call (.builtin "list.append") [acc,<-eval elt env])
  fin
def compTurn_gen{k:Nat}(hk:gens[k]?=some ⟨tg,iter,ifs,0⟩)(ha:∀g∈gens,g.is_async=0)(it acc:Value)(env:Env) :
  compTurn (.ListComp elt gens scope pos) k it acc env=(do
   standAt iter.pos
   match <-pyNext it with
   |none=>pure (.done .next)
   |some v=>
    letOwnedTupleGo tg it v
    assign tg env v
    let mut ok:=true
    for c in ifs do
     if ok then ok <-isTrue c env (eval c env)
    if ok then ja elt gens scope pos (k+1) acc env (again (.compLoop (.ListComp elt gens scope pos) k it acc env))
    else again (.compLoop (.ListComp elt gens scope pos) k it acc env)):=by
 unfold compTurn ja;simp only[hk];cases h:gens[k+1]? with
 |none=>rfl
 |some g'=>have e:=ha g' (VV h);obtain⟨t,i,f,a⟩:=g';dsimp only at e;subst e;rfl
section
variable{prog:Program}{w:World}{A:Around}{R:Result->Shared->Prop}{s:Shared}{elt tg iter:Expr}{gens:Zo}{ifs:A03}{scope:Scope}{pos:Pos}{k:Nat}
def DK(hk:gens[k]?=some ⟨tg,iter,ifs,0⟩)(ha:∀g∈gens,g.is_async=0)(I:Nat->Shared->Prop)(turn:∀n s,I n s->wpAny (model prog w) A (pyNext it) (λr s1=>match r with
   |none=>R (.ok .next) s1
   |some v=>wpAny (model prog w) A (letOwnedTupleGo tg it v) (λ_ s0=>wpAny (model prog w) A (assign tg env v) (λ_ s2=>wpAny (model prog w) A (forIn ifs true λc r=>if r=true then do let ok <-isTrue c env (eval c env);pure (ForInStep.yield ok)else pure (ForInStep.yield r)) (λok s3=>
      if ok=true then ∀(fin:Sem Fin)(Qf:Fin->Shared->Prop),(∀s5,(∃m,m<n/\I m s5)->wpAny (model prog w) A fin Qf (oQ prog w A env R) s5)->wpAny (model prog w) A (ja elt gens scope pos (k+1) acc env fin) Qf (oQ prog w A env R) s3
      else ∃m,m<n/\I m s3) (oQ prog w A env R) s2) (oQ prog w A env R) s0) (oQ prog w A env R) s1) (oQ prog w A env R) s)
  (n:Nat)(h:I n s):codeAny (model prog w) A (.compLoop (.ListComp elt gens scope pos) k it acc env) R s:=by
 refine codeAny_loop rfl I (λn s hI=>?_) n h
 refine(wpAny_noted (?_:_):wpAny _ A ((compTurn (.ListComp elt gens scope pos) k it acc env).onRaise (λx=>do noteFrame x env;theTreesLotGoes x)) _ _ s)
 rw[compTurn_gen hk ha];refine V0 (XH (V0 (Vw (turn n s hI) (λr s1 h1=>?_) λ_ _ z=>z)))
 cases r with
 |none=>exact V1 h1
 |some v=>
  refine V0 (Vw h1 (λ_ s0 h0=>V0 (Vw h0 (λ_ s2 h2=>V0 (Vw h2 (λok s3 h3=>?_) λ_ _ z=>z)) λ_ _ z=>z)) λ_ _ z=>z)
  cases ok with
  |false=>exact V1 ⟨rfl,h3⟩
  |true=>exact h3 _ _ λs5 h5=>V1 ⟨rfl,h5⟩
def j6 (N:A07)(fs scope:Scope)(vs NB:A07)(ix:A05):Bool:=
 decide (scope.kind=.function)&&scope.names.all (λy=>decide (y.2≠.cell))&&scope.names.all (λy=>decide (y.2≠.local)||decide (scope.names.lookup y.1=some .local)) &&
 scope.names.all (λy=>decide (y.2≠.free)||(decide (fs.names.lookup y.1=some .cell)||decide (fs.names.lookup y.1=some .free))) &&
 decide (NB=vs++ix.map λi=>N.getD i "")&&decide NB.Nodup&&ix.all λi=>match N[i]? with|some y=>decide (scope.names.lookup y=some .free)|none=>false
end
structure bS(X:Cx)(scope:Scope)(vs NB:A07)(ix:A05):Prop where
 kind:scope.kind=.function
 cell:∀y∈scope.names,y.2≠.cell
 names:∀y∈scope.names,y.2=.local->scope.names.lookup y.1=some .local
 free:∀y,(y,NameKind.free)∈scope.names->(X.env.kindOf y=some .cell\/X.env.kindOf y=some .free)
 nb:NB=vs++ix.map λi=>X.N.getD i ""
 nd:NB.Nodup
 cap:∀i∈ix,∃y,X.N[i]?=some y/\scope.names.lookup y=some .free
def bS.of(h:j6 N fs scope vs NB ix=true)(hN:X.N=N:=by rfl)(hf:X.env.scope=fs:=by rfl):bS X scope vs NB ix:=by
 subst hN hf;unfold j6 at h;simp only[VB]at h;obtain⟨⟨⟨⟨⟨⟨h1,h2⟩,h3⟩,h4⟩,h6⟩,h7⟩,h8⟩:=h;refine⟨WA h1,λy hy=>WA (VW.mp h2 y hy),λy hy e=>?_,λy hy=>?_,WA h6,WA h7,λi hi=>?_⟩;{have z:=VW.mp h3 y hy;rw[Bool.or_eq_true]at z;rcases z with z|z;{exact absurd e (WA z)};exact WA z};{have z:=VW.mp h4 _ hy;rw[Bool.or_eq_true,Bool.or_eq_true]at z;rcases z with z|z|z;{exact absurd rfl (WA z)};{exact .inl (WA z)};exact .inr (WA z)};have z:=VW.mp h8 i hi;cases e:X.N[i]? with
 |none=>rw[e]at z;cases z
 |some y=>rw[e]at z;exact⟨y,rfl,WA z⟩
variable{X:Cx}{scope:Scope}{vs:A07}{NB:A07}{ix:A05}{pins:Zq}{U:St}{H2:Hp}{s2:Shared}{fp:A01}
def bS.clos(B:bS X scope vs NB ix)(I2:Inv X pins U H2 s2):closureFor scope X.env=pure (dR X.env.cells scope.names []):=
 ug λn hn=>I2.ok.has n (B.free n hn)
def bS.look(B:bS X scope vs NB ix)(I2:Inv X pins U H2 s2){c:Addr}(h:(dR X.env.cells scope.names []).lookup y=some c):X.env.cells.lookup y=some c:=by rcases rL _ _ h with⟨m,e⟩|e;{obtain⟨c',hc⟩:=I2.ok.has y (B.free y m);rw[hc]at e⊢;exact congrArg some e};cases e
def Gu(B:bS X scope vs NB ix)(I2:Inv X pins U H2 s2){C:Addr}(hC:s2.heap.objs.size<=C)(f2:∀b∈fp,fN X pins H2 b)(ft:∀b∈fp,b<s2.heap.objs.size):(X.block scope C NB s2 H2 fp).Ok where
 mod:=I2.ok.mod
 kind:=B.kind
 glob:=I2.ok.glob
 blt:=I2.ok.blt
 above:=hC
 inj:=λa b c h1 h2=>I2.ok.inj a b c (B.look I2 h1) (B.look I2 h2)
 has:=λy hy=>by
  have key:∀k,(relabel scope X.env).names.lookup y=some k->(k=.cell\/k=.free)->∃c,(dR X.env.cells scope.names []).lookup y=some c:=λk hk kk=>by
   rcases zI (names:=scope.names) hk with e|⟨e,_⟩
   .rcases kk with rfl|rfl
    .exact absurd rfl (B.cell _ (iZ e))
    .exact jX _ _ (.inl (iZ e))
   .exact jX _ _ (.inl (iZ e))
  rcases hy with e|e
  .exact key _ e (.inl rfl)
  .exact key _ e (.inr rfl)
 Kz:=λ_ _ z=>by cases z
 hd:=I2.ok.hd
 frames:=I2.ok.frames
 stk:=.inl rfl
 UQ:=λb hb=>⟨VO (Vt (ft b hb) hC),λy c e=>(f2 b hb).2.2.2.2.1 y c (B.look I2 e)⟩
 bs:=I2.bs
 BV:=VX I2.ok.BV I2.sz
 CM:=λb o e hb=>by
  rcases(f2 b hb).2.2.2.1 with z|z
  .exact I2.ok.CM b o e z
  .exact absurd (Vt (VC (I2.ok.bs b o e).1) z) (Vz _)
 JV:=λb hb z=>by
  rcases VF.mp (I2.m8 b z)with e|e
  .exact(f2 b hb).2.1 e
  .exact(f2 b hb).2.2.1 e
 l8:=I2.stack
 HB:=I2.u9
def uw(B:bS X scope vs NB ix)(I2:Inv X pins U H2 s2){C D:Addr}{tk:Nat}(hC:s2.heap.objs.size<=C)(hD:s2.heap.objs.size<=D)(hDC:D≠C)(f2:∀b∈fp,fN X pins H2 b)(ft:∀b∈fp,b<s2.heap.objs.size)(old:∀b o,s2.heap.get? b=some o->h1.get? b=some o)(hn:h1.Ns C m)(ho:h1.get? D=some oD)(hcl:∀v,oD.data≠.cell v) : Inv (X.block scope C NB s2 H2 fp) [(D,oD)] (List.replicate vs.length none++caps ix U) H2 { s2 with heap:=h1,toks:=tk } where
 ok:=Gu B I2 hC f2 ft
 os:=rfl
 bare:=I2.bare
 base:=Un.kept old
 loc:=by
  refine⟨m,hn,λi y v e1 e2 _=>?_⟩
  have e1:NB[i]?=some y:=e1
  by_cases li:i<vs.length
  .rw[XJ (by rw[Wb];exact li),Yd,if_pos li]at e2
   cases e2
  .obtain⟨j,rfl⟩:∃j,i=vs.length+j:=⟨i-vs.length,by lia⟩
   have e2:(caps ix U)[j]?=some (some v):=by
    rw[Xd (by rw[Wb];lia),Wb,YN]at e2
    exact e2
   rw[B.nb]at e1;have e1:(ix.map λi=>X.N.getD i "")[j]?=some y:=by
    rw[Xd (by lia),YN]at e1
    exact e1
   rw[VA]at e1;unfold caps at e2;rw[VA]at e2;cases q:ix[j]? with
   |none=>rw[q]at e1;cases e1
   |some i=>
    rw[q]at e1 e2;obtain⟨z,hz,fz⟩:=B.cap i (VV q);have ey:y=z:=by
     have w:X.N.getD i ""=y:=Option.some.inj e1;rw[<-w,VH,hz];rfl
    subst ey;have e2:(U[i]?).join=some v:=Option.some.inj e2;have es:U[i]?=some (some v):=by
     cases w:U[i]? with
     |none=>rw[w]at e2;cases e2
     |some o=>rw[w]at e2;exact congrArg some e2
    have fk:=B.free y (iZ fz);have vis:fX X.env.scope y:=.inr fk;obtain⟨mm,_,hl⟩:=I2.loc;obtain⟨u,ru,lk⟩:=hl i y v hz es vis;refine⟨u,ru,.inr ⟨?_,?_⟩⟩
    .rcases ue (env:=X.env) (names:=scope.names) fz with e|⟨_,e⟩
     .exact .inr e
     .exact .inl e
    .rcases lk with⟨lk,_⟩|⟨_,c,hc,hcell⟩
     .rcases fk with fk|fk
      .rw[lk]at fk;cases fk
      .rw[lk]at fk;cases fk
     .obtain⟨c',hc'⟩:=jX (cells:=X.env.cells) scope.names [] (.inl (iZ fz));have e3:=B.look I2 hc';rw[hc]at e3;cases e3;obtain⟨oc,g1,g2⟩:=hcell;exact⟨c,hc',oc,old _ _ g1,g2⟩
 cell:=λy c e=>by
  obtain⟨v,o,g1,g2⟩:=I2.cell y c (B.look I2 e);exact⟨v,o,old _ _ g1,g2⟩
 free:=I2.hok.fresh hC
 j4:=λy c e=>I2.j4 y c (B.look I2 e)
 pin:=λp hp=>by
  have e:p=(D,oD):=by simpa[Cx.block]using hp
  subst e;refine⟨ho,I2.hok.fresh hD,hDC,λz=>?_,hcl⟩
  rcases VF.mp (I2.m8 D z)with e|e
  .have e:D=X.env.locals:=e;exact absurd (Vt I2.lt (e▸hD)) (Vz _)
  .exact I2.OM hD e
 hok:=I2.hok.kept old
 len:=by
  show(List.replicate vs.length none++caps ix U).length=NB.length;rw[B.nb,VI,VI,JH,V2,Wb]
abbrev TL:=List V->St->Hp->(List V->St->Hp->Prop)->Prop
def PL (X:Cx)(D:Addr)(elt:Expr)(gens:Zo)(scope:Scope)(pos:Pos) (k:Nat)(t:TL):Prop:=
 X.s₀.heap.objs.size<=D->(∀y c,X.env.cells.lookup y=some c->c≠D)->(∀e s',X.xe e s'->False)->
 ∀(pins:Zq)(s:Shared)(U:St)(H:Hp)(ys:List V)(its:A00) (nn:Nat)(Q:List V->St->Hp->Prop)(fin:Sem Fin)(Qf:Fin->Shared->Prop)(E:Zn),
  (∀p∈X.pn++pins,p.1≠D)->Inv X ((D,iG its nn)::pins) U H s->Vals ys its->ys.length<=sizeLine->t ys U H Q->
  (∀s' ys' its' nn' σ' H',Inv X ((D,iG its' nn')::pins) σ' H' s'->Vals ys' its'->ys'.length<=sizeLine->Q ys' σ' H'->wpAny (model X.prog X.w) X.A fin Qf E s')->
  wpAny (model X.prog X.w) X.A (ja elt gens scope pos k (.ref D) X.env fin) Qf E s
def K8 (te:TE):TL:=λys U H Q=>te U H λv H1=>ys.length<sizeLine/\Q (ys++[v]) U H1
def Jb (J:It)(g:TG)(tt:TT)(tr:TL)(ys0:List V)(σ0:St)(H1:Hp)(Q:List V->St->Hp->Prop):Prop:=
 ∃W:Nat->Nat->List V->St->Hp->Prop,(∃m,W 0 m ys0 σ0 H1)/\∀i m ys U H,W i m ys U H->
  (J.stop i H/\Q ys U H)\/(J.go i H/\∃N:List V->St->Hp->Prop,(∀ys' σ' H',N ys' σ' H'->∃m',m'<m/\W (i+1) m' ys' σ' H') /\
   ∀x H',J.mJ i H x H'->g x U H' λσ2 H2=>tt σ2 H2 λb H3=>if b=true then tr ys σ2 H3 N else N ys σ2 H3)
variable{D:Addr}{elt tg iter:Expr}{gens:Zo}{ifs:A03}{pos:Pos}{k:Nat}
def Cs(he:PE X elt te)(hk:gens[k]?=none:=by rfl):PL X D elt gens scope pos k (K8 te):=by
 intro hD hc hx pins s U H ys its nn Q fin Qf E hp I rv hz h hf;unfold ja;rw[hk];refine V0 (V0 (Vw (he _ s U H _ I h) (λy s8 ⟨yv,H8,I8,r8,hlt,n8⟩=>V0 ?_) λe s' z=>(hx e s' z).elim));have pD:=I8.pin (D,iG its nn) (W5 _ V3);refine append_at (hsz:=by rw[VM,<-rv.length];exact hz) pD.1 λh9 hs9 hD9=>V1 ?_;have I8n:Inv X pins U H8 s8:=I8.i9 λp hp'=>I8.pin p (W5 _ (V8 _ hp'));have I9:=I8n.turned (h':=h9) (t':=s8.toks) (it:=D) (λb o hb e=>hs9.extBut b o hb e) pD.2.1 pD.2.2.1 (.inr hD) hc hp;have e9:iG (its++[y]) (nn+1)={ cls:=.type "list",data:=.seq (its.toArray.push y) (nn+1) }:=by show({ cls:=.type "list",data:=.seq (its++[y]).toArray (nn+1) }:Obj)=_;rw[List.push_toArray]
 have I10:Inv X ((D,iG (its++[y]) (nn+1))::pins) U H8 { s8 with heap:=h9 }:=by refine I9.i9 λp hp'=>?_;rcases VF.mp hp' with rfl|hp';{exact⟨hD9.trans (congrArg some e9.symm),pD.2.1,pD.2.2.1,pD.2.2.2.1,λv q=>by cases q⟩};exact I9.pin p (W5 _ hp')
 exact hf _ (ys++[yv]) (its++[y]) (nn+1) U H8 I10 (Vals.append rv (.cons r8 .nil)) (by rw[VI];exact hlt) n8
def tT (wi:TI) (n:Nat)(ix:A05)(g:TG)(tt:TT)(tr:TL):TE:=λU H Q=>wi U H λJ H1=>Jb J g tt tr [] (List.replicate n none++caps ix U) H1 λys _ H'=>∀p,H' p=none->Q (.ref p) (upd H' p (.lst ys))
def tG{elt tg iter:Expr}{ifs:A03}{rest:Zo}{pos:Pos}{g:TG}{tt:TT}{tr:TL}{J:It}{it:Addr}{tn:Nat->Heap->Prop}{fp:A01}{pins:Zq}{U:St}{H2:Hp}{s2:Shared}{E:Zn}{RR:Value->Addr->Result->Shared->Prop}{Qr:VK}(B:bS X scope vs NB ix)(hc:X.calm=true)(hg:∀(C:Addr)(s:Shared)(H:Hp)(fp:A01),PG (X.block scope C NB s H fp) tg g)(ht:∀(C:Addr)(s:Shared)(H:Hp)(fp:A01),w4 (X.block scope C NB s H fp) ifs tt)(hr:∀(C:Addr)(s:Shared)(H:Hp)(fp:A01)(D:Addr),PL (X.block scope C NB s H fp) D elt (⟨tg,iter,ifs,0⟩::rest) scope pos 1 tr)(ha:∀g∈rest,g.is_async=0)(I2:Inv X pins U H2 s2)(T:Turn X.prog X.w X.K tg J fp it tn)(st2:tn 0 s2.heap)(f2:∀b∈fp,fN X pins H2 b)(h:Jb J g tt tr [] (List.replicate vs.length none++caps ix U) H2 λys _ H'=>∀p,H' p=none->Qr (.ref p) (upd H' p (.lst ys)))(hRR:∀(D C:Addr)(Hf:Hp)(s':Shared)(m':Zp),Inv X pins U Hf s'->s'.heap.Ns C m'->fN X pins Hf C->Qr (.ref D) Hf->RR (.ref D) C (.ok .next) s') : wpAny (model X.prog X.w) X.A (newList []) (λacc s3=>wpAny (model X.prog X.w) X.A (newFunctionEnv scope X.env.globals (dR X.env.cells scope.names []) [] X.env.qual none .none (some X.env)) (λcenv s4=> codeAny (model X.prog X.w) X.A (.compStart (.ListComp elt (⟨tg,iter,ifs,0⟩::rest) scope pos) 0 (.ref it) acc { cenv with scope:=relabel scope X.env }) (RR acc cenv.locals) s4) E s3) E s2:=by
 obtain⟨W,⟨m0,w0⟩,turn⟩:=h;have ha':∀g∈(⟨tg,iter,ifs,0⟩:Comprehension)::rest,g.is_async=0:=λg hg=>by rcases VF.mp hg with rfl|hg;{rfl};exact ha g hg
 refine Wl (wpAny_newFunctionEnv B.cell (by intro y hy;simp at hy) (λh1 hns hsb=>?_) B.kind);dsimp only at hns hsb⊢;generalize eG:s2.heap.push { cls:=.type "list",dict:=none,data:=.seq ([]:A00).toArray }=G at hns hsb⊢;have hC:G.objs.size=s2.heap.objs.size+1:=by rw[<-eG,Yp]
 have hDC:s2.heap.objs.size≠G.objs.size:=by rw[hC];exact VO (Xw _)
 have hCle:s2.heap.objs.size<=G.objs.size:=by rw[hC];exact Nat.le_succ _
 have old:∀b o,s2.heap.get? b=some o->h1.get? b=some o:=λb o e=>by have lt:=VC e;exact hsb.extBut b o (VO (Vt lt hCle)) (VS _ (eG▸VS _ e))
 have hacc:h1.get? s2.heap.objs.size=some (iG [] 0):=hsb.extBut _ _ hDC (VS _ (eG▸W0 _ rfl));have ft:∀b∈fp,b<s2.heap.objs.size:=λb hb=>by obtain⟨o,e,_⟩:=T.obj _ _ st2 b hb;exact VC e
 have cD:∀y c,(X.block scope G.objs.size NB s2 H2 fp).env.cells.lookup y=some c->c≠s2.heap.objs.size:=λy c e z=>by obtain⟨w,q⟩:=I2.cell y c (B.look I2 e);exact Vz _ (z▸q.lt)
 have loop:∀s3:Shared,s3={ s2 with heap:=h1,toks:=s2.toks+([]:List (Str×Value)).length }->
   codeAny (model X.prog X.w) X.A (.compLoop (.ListComp elt (⟨tg,iter,ifs,0⟩::rest) scope pos) 0 (.ref it) (.ref s2.heap.objs.size) (compEnvC scope (dR X.env.cells scope.names []) G.objs.size X.env))
    (RR (.ref s2.heap.objs.size) G.objs.size) s3:=by
  rintro s3 rfl;have I3:=uw (tk:=s2.toks+([]:List (Str×Value)).length) B I2 hCle (V4 _) hDC f2 ft old hns hacc (λv q=>by cases q)
  have st3:tn 0 h1:=T.keep _ _ _ st2 λb _ o e=>old b o e
  have fy:∀{H':Hp}{oD:Obj},(∀b∈fp,H' b=none)->∀b∈fp,fN (X.block scope G.objs.size NB s2 H2 fp) [(s2.heap.objs.size,oD)] H' b:=λ{H' oD} hn b hb=>by
   refine⟨hn b hb,VO (Vt (ft b hb) hCle),λz=>?_,.inl hb,λy c e=>(f2 b hb).2.2.2.2.1 y c (B.look I2 e),λp hp=>?_⟩;{rcases VF.mp (I2.m8 b z)with e|e;{exact(f2 b hb).2.1 e};exact(f2 b hb).2.2.1 e};have e:p=(s2.heap.objs.size,oD):=by simpa[Cx.block]using hp
   subst e;exact Ne.symm (VO (ft b hb))
  refine DK (k:=0) rfl ha' (λn s'=>∃i ys its nn σ' H',W i n ys σ' H'/\Inv (X.block scope G.objs.size NB s2 H2 fp) [(s2.heap.objs.size,iG its nn)] σ' H' s'/\tn i s'.heap/\(∀b∈fp,H' b=none)/\Vals ys its/\ys.length<=sizeLine)
   ?_ m0 ⟨0,[],[],0,_,H2,w0,I3,st3,λb hb=>(f2 b hb).1,.nil,W3 _⟩
  rintro n s'⟨i,ys,its,nn,σ',H',w',I',st',fr',rv,hz⟩;rcases turn i n ys σ' H' w' with⟨stop,q⟩|⟨go,Nx,hNx,step⟩
  .refine Vw (T.done (X.block scope G.objs.size NB s2 H2 fp) rfl rfl rfl hc i _ s' _ H' (λ_ _=>False) I' (fy fr') st' stop) (λr s4 ⟨hr',I4⟩=>?_) λ_ _ z=>z.elim
   subst hr';have I5:=HJ I2 f2 (V4 _) I4 rv hz;obtain⟨m4,hn4,_⟩:=I4.loc;have hfree:H' s2.heap.objs.size=none:=(I4.pin (s2.heap.objs.size,iG its nn) (by show _∈[]++[(s2.heap.objs.size,iG its nn)];simp)).2.1
   have fC:fN X pins (upd H' s2.heap.objs.size (.lst ys)) G.objs.size:=I2.rV hCle (by
    rw[ai (Ne.symm hDC)];exact I4.free)
   exact hRR _ _ _ s4 m4 I5 hn4 fC (q _ hfree)
  .refine Vw (T.item (X.block scope G.objs.size NB s2 H2 fp) rfl rfl rfl hc i _ s' _ H' (λ_ _=>False) I' (fy fr') st' go) (λr s4 ⟨u,hr',h4⟩=>?_) λ_ _ z=>z.elim
   subst hr';refine Vw h4 (λ_ s4 ⟨v,H5,I5,r5,y5,st5,fr5⟩=>?_) λ_ _ z=>z.elim
   have pIt:∀b∈fp,∃o,s4.heap.get? b=some o/\∀v,o.data≠.cell v:=T.obj _ _ st5;have I5':=I5.pinned (fy fr5) pIt;refine Vw (hg _ _ _ _ _ s4 σ' H5 v u _ I5' r5 (step v H5 y5)) (λ_ s6 ⟨σ6,H6,I6,q6⟩=>?_) λ_ _ z=>z.elim
   refine Vw (ht _ _ _ _ _ s6 σ6 H6 _ I6 q6) (λb s7 ⟨H7,I7,q7⟩=>?_) λ_ _ z=>z.elim
   have stays:∀{s9:Shared}{H9:Hp}{σ9:St}{oD:Obj},Inv (X.block scope G.objs.size NB s2 H2 fp) ((s2.heap.objs.size,oD)::jD fp s4.heap) σ9 H9 s9->tn (i+1) s9.heap/\(∀b∈fp,H9 b=none)/\Inv (X.block scope G.objs.size NB s2 H2 fp) [(s2.heap.objs.size,oD)] σ9 H9 s9:=λ{s9 H9 σ9 oD} I9=>by
    refine⟨T.keep _ _ _ st5 λb hb o e=>(I9.pin (b,o) (W5 _ (V8 _ (gu hb e)))).1,λb hb=>?_,I9.i9 λp hp'=>I9.pin p (W5 _ ?_)⟩
    .obtain⟨o,e,d⟩:=pIt b hb;exact(I9.pin (b,o) (W5 _ (V8 _ (gu hb e)))).2.1
    .rw[V6.mp hp'];exact V3
   cases b with
   |false=>
    rw[if_neg VQ]at q7⊢;obtain⟨m',hm,w7⟩:=hNx _ _ _ q7;obtain⟨g1,g2,g3⟩:=stays I7;exact⟨m',hm,i+1,ys,its,nn,σ6,H7,w7,g3,g1,g2,rv,hz⟩
   |true=>
    rw[if_pos rfl]at q7⊢;intro fin' Qf' hf';refine hr _ _ _ _ s2.heap.objs.size (V4 _) cD (λ_ _ z=>z) (jD fp s4.heap) s7 σ6 H7 ys its nn Nx fin' Qf' _ (λp hp'=>?_) I7 rv hz q7 λs8 ys8 its8 nn8 σ8 H8 I8 rv8 hz8 n8=>?_
    .have hp'':p∈jD fp s4.heap:=hp';exact VO (ft _ (wF hp'').1)
    .obtain⟨m',hm,w8⟩:=hNx _ _ _ n8;obtain⟨g1,g2,g3⟩:=stays I8;exact hf' s8 ⟨m',hm,i+1,ys8,its8,nn8,σ8,H8,w8,g3,g1,g2,rv8,hz8⟩
 exact codeAny_compStart_list (loop _ rfl) (T.self _ 0 _ _ _ (T.keep _ _ _ st2 λb _ o e=>old b o e) (loop _ rfl))
def IA{elt tg iter:Expr}{ifs:A03}{rest:Zo}{pos:Pos}{wi:TI}{g:TG}{tt:TT}{tr:TL}(B:bS X scope vs NB ix)(hc:X.calm=true)(hi:PI X tg iter wi)(hg:∀(C:Addr)(s:Shared)(H:Hp)(fp:A01),PG (X.block scope C NB s H fp) tg g)(ht:∀(C:Addr)(s:Shared)(H:Hp)(fp:A01),w4 (X.block scope C NB s H fp) ifs tt)(hr:∀(C:Addr)(s:Shared)(H:Hp)(fp:A01)(D:Addr),PL (X.block scope C NB s H fp) D elt (⟨tg,iter,ifs,0⟩::rest) scope pos 1 tr)(ha:∀g∈rest,g.is_async=0:=by decide)(hs:∀v,foldedSetIterable iter X.env v=pure v:=by intro _;rfl):PE X (.ListComp elt (⟨tg,iter,ifs,0⟩::rest) scope pos) (tT wi vs.length ix g tt tr):=by intro pins s U H Q I h;rw[eval_ListComp];refine ZX (use:=none) rfl hs (B.clos I) B.kind B.names (aH (hi pins s U H _ I h) λv s1 h1=>aH h1 λitv s2 h2=>?_);obtain⟨it,fp,tn,J,H2,e,I2,T,st2,f2,w⟩:=h2;subst e;refine tG (Qr:=Q) (RR:=λacc C=>compPost (model X.prog X.w) X.A X.xe none (EP X pins U Q) acc C) B hc hg ht hr ha I2 T st2 f2 w λD C Hf s' m' I' hn' fC q=>?_;refine⟨m',hn',λh'' hs''=>⟨.ref D,Hf,?_,rfl,q⟩⟩;obtain⟨c0,c1,c2,c3,c4,c5⟩:=fC;exact I'.turned (it:=C) (t':=s'.toks) (λb o hb e=>hs''.extBut b o hb e) c0 c1 c3 c4 c5
def yo{elt tg iter:Expr}{ifs:A03}{rest:Zo}{pos py spos:Pos}{wi:TI}{g:TG}{tt:TT}{tr:TL}{j:Nat}{y:Str}(hN:X.N.Nodup)(hj:X.N[j]?=some y)(hy:X.env.scope.names.lookup y=some .local)(B:bS X scope vs NB ix)(hc:X.calm=true)(hi:PI X tg iter wi)(hg:∀(C:Addr)(s:Shared)(H:Hp)(fp:A01),PG (X.block scope C NB s H fp) tg g)(ht:∀(C:Addr)(s:Shared)(H:Hp)(fp:A01),w4 (X.block scope C NB s H fp) ifs tt)(hr:∀(C:Addr)(s:Shared)(H:Hp)(fp:A01)(D:Addr),PL (X.block scope C NB s H fp) D elt (⟨tg,iter,ifs,0⟩::rest) scope pos 1 tr)(hsw:swapsWith (.ListComp elt (⟨tg,iter,ifs,0⟩::rest) scope pos) (some (.Name y py)) spos.line X.env=pure true)(ha:∀g∈rest,g.is_async=0:=by decide)(hs:∀v,foldedSetIterable iter X.env v=pure v:=by intro _;rfl):PS X (.Assign [.Name y py] (.ListComp elt (⟨tg,iter,ifs,0⟩::rest) scope pos) spos) (Dr (tT wi vs.length ix g tt tr) (lR j)):=by
 intro pins s U H Dn I h;rw[exec_Assign_Name_used _ _ _ _ hsw];refine V0 (XH (V0 ?_));show wpAny (model X.prog X.w) X.A (comprehension (.ListComp elt (⟨tg,iter,ifs,0⟩::rest) scope pos) scope X.env _ (newList []) false (eval iter X.env) (some (assign (.Name y py) X.env))>>=λ_=>pure ()) _ _ s;refine V0 (aH (ZX (use:=some (assign (.Name y py) X.env)) (Q:=λ_ s'=>SP X pins Dn .next s') rfl hs (B.clos I) B.kind B.names (aH (hi pins s U H _ I h) λv s1 h1=>aH h1 λitv s2 h2=>?_)) λ_ s' q=>V1 (V1 q));obtain⟨it,fp,tn,J,H2,e,I2,T,st2,f2,w⟩:=h2;subst e;refine tG (Qr:=λx H1=>lR j x U H1 Dn.nx) (RR:=λacc C=>compPost (model X.prog X.w) X.A X.xe (some (assign (.Name y py) X.env)) (λ_ s'=>SP X pins Dn .next s') acc C) B hc hg ht hr ha I2 T st2 f2 w λD C Hf s' m' I' hn' fC q=>?_;obtain⟨c0,c1,c2,c3,c4,c5⟩:=fC;show wpAny (model X.prog X.w) X.A (assign (.Name y py) X.env (.ref D)) _ _ s';refine ZG (qj I' hN hj (.inl hy) (v:=.ref D) rfl (λs'' I'' ⟨a,sb,ha⟩=>?_) (.inr hy));have hCa:C≠a:=by rcases ha with e|e;{rw[e];exact c1};exact λz=>c4 y a e z.symm
 refine⟨m',hn'.sameBut sb hCa,λh3 hs3=>⟨_,Hf,?_,q⟩⟩;exact I''.turned (it:=C) (t':=s''.toks) (λb o hb e=>hs3.extBut b o hb e) c0 c1 c3 c4 c5
end L2
namespace Dv
open PySem L2 PySem.W
section
variable{X:Cx}{Ex:XK}{Y:A05}{tg:Expr}
def JK{a:Addr}(h:bW K eu a xs)(r:ay K eu xs ds):Am K (Ka K a) ds eu:=by intro i H Hm s1 s2;have q:bH K H a xs:=(bW.mono (s1.trans s2) h).sq;refine⟨λd e=>?_,λl=>⟨xs,q,by rw[r.len];exact l⟩⟩;obtain⟨v,e1,r1⟩:=r.get e;refine⟨⟨xs,v,q,e1⟩,λx H' y=>?_⟩;obtain⟨rfl,y⟩:=y;have:=y xs q;rw[e1]at this;cases this;exact⟨Hm,ah.refl _,s2,ah.refl _,λ_ _=>.inl rfl,r1.mono s1⟩
def Mk{a:Addr}(h:eu a=some (.tup xs))(r:ay K eu xs ds):Am K (KW K a) ds eu:=by intro i H Hm s1 s2;have q:bR K H a xs:=bR.of (s2 _ _ (s1 _ _ h));refine⟨λd e=>?_,λl=>⟨xs,q,by rw[r.len];exact l⟩⟩;obtain⟨v,e1,r1⟩:=r.get e;refine⟨⟨xs,v,q,e1⟩,λx H' y=>?_⟩;obtain⟨rfl,y⟩:=y;have:=y xs q;rw[e1]at this;cases this;exact⟨Hm,ah.refl _,s2,ah.refl _,λ_ _=>.inl rfl,r1.mono s1⟩
def LS{lo:Int}{n i:Nat}(h:(jU lo n)[i]?=some d):i<n/\d=.int (lo+i):=by unfold jU at h;rw[VA]at h;by_cases c:i<n;{rw[VN c]at h;cases h;exact⟨c,rfl⟩};rw[VZ (by rw[V9];lia)]at h;cases h
def Ba{lo:Int}{n:Nat}:Am K (HS lo n) (jU lo n) eu:=by intro i H Hm s1 s2;refine⟨λd e=>?_,λl=>?_⟩;{obtain⟨l,rfl⟩:=LS e;refine⟨l,λx H' y=>?_⟩;obtain⟨rfl,rfl⟩:=y;exact⟨Hm,ah.refl _,s2,ah.refl _,λ_ _=>.inl rfl,.int _⟩};unfold jU at l;rw[V2,V9]at l;exact l
def yP{T:Addr}(s:ah Hm H)(hT:H T=none)(r1:Rp K Hm x a)(r2:Rp K Hm y b):∃Hm',ah Hm Hm'/\ah Hm' (upd H T (.tup [x,y]))/\ah H (upd H T (.tup [x,y]))/\(∀a,H a≠none->OE (Hm' a) (Hm a))/\Rp K Hm' (.ref T) (.tuple [a,b]):=by have n:=fL s hT;have s2:=bQ (o:=.tup [x,y]) n;refine⟨upd Hm T (.tup [x,y]),s2,λb o e=>?_,bQ hT,λa ha=>.inl (ai λz=>ha (z▸hT)),.tup av (.cons (r1.mono s2) (.cons (r2.mono s2) .nil))⟩;by_cases c:b=T;{rw[c,av]at e⊢;exact e};rw[ai c]at e⊢;exact s _ _ e
def HH{i:Nat}(h:(jk ds)[i]?=some d):∃e,ds[i]?=some e/\d=.tuple [.int i,e]:=by
 unfold jk at h;rw[VA,Ys]at h;cases e:ds[i]? with
 |none=>rw[e]at h;cases h
 |some a=>rw[e]at h;simp at h;exact⟨a,rfl,h.symm⟩
def E8(ds:Zy):(jk ds).length=ds.length:=by unfold jk;rw[V2,List.length_zipIdx]
def IS{a:Addr}(h:bW K eu a xs)(r:ay K eu xs ds):Am K (P4 K a) (jk ds) eu:=by intro i H Hm s1 s2;have q:bH K H a xs:=(bW.mono (s1.trans s2) h).sq;refine⟨λd e=>?_,λl=>⟨xs,q,by rw[r.len,<-E8];exact l⟩⟩;obtain⟨d0,e0,rfl⟩:=HH e;obtain⟨v,e1,r1⟩:=r.get e0;refine⟨⟨xs,v,q,e1⟩,λx H' y=>?_⟩;obtain⟨T,hT,rfl,y⟩:=y;obtain⟨x',e2,rfl⟩:=y xs q;rw[e1]at e2;cases e2;exact yP s2 hT (.int _) (r1.mono s1)
open PyProof.Rows in
def Mb{a:Addr}(I:Inv X pins U H s)(hq:bH X.K H a xs)(q:R (Ka X.K a) H):wpAny (model X.prog X.w) X.A (pyIter (.ref a)) (KS X pins U tg R) E s:=by
 obtain⟨its,rv,p,hz⟩:=I.list hq;refine ZU p.isList ?_;refine⟨s.heap.objs.size,[s.heap.objs.size],_,_,H,rfl,I.kept (t':=s.toks) λb o e=>VS _ e,G6 a _,⟨_,W0 _ rfl,rfl,rfl⟩,λb hb=>?_,q⟩;have e:b=s.heap.objs.size:=by simpa using hb
 subst e;exact I.rV (V4 _) (I.hok.fresh (V4 _))
open PyProof.Rows in
def QI{a:Addr}(I:Inv X pins U H s)(hq:bR X.K H a xs)(q:R (KW X.K a) H):wpAny (model X.prog X.w) X.A (pyIter (.ref a)) (KS X pins U tg R) E s:=by
 obtain⟨its,rv,p,hz⟩:=I.tuple hq;refine wpAny_pyIter_tuple (show s.heap.IsTuple a its.toArray from p) ?_;refine⟨s.heap.objs.size,[s.heap.objs.size],_,_,H,rfl,I.kept (t':=s.toks) λb o e=>VS _ e,Dt a _,⟨_,W0 _ rfl,rfl,rfl⟩,λb hb=>?_,q⟩;have e:b=s.heap.objs.size:=by simpa using hb
 subst e;exact I.rV (V4 _) (I.hok.fresh (V4 _))
def fj(h:SE X Ex Y e d):SI X Ex Y tg e (iE d):=by
 rw[Sg];refine⟨λU H R=>WE X e U H λx H1=>(∃a,x=.ref a/\(∃xs,bH X.K H1 a xs)/\R (Ka X.K a) H1)\/∃a,x=.ref a/\(∃xs,bR X.K H1 a xs)/\R (KW X.K a) H1,?_,?_⟩;{intro pins s U H R I h;refine aH (h pins s I) λv s1 ⟨x,H1,I1,r1,q1⟩=>?_;rcases q1 with⟨a,rfl,⟨xs,hq⟩,q⟩|⟨a,rfl,⟨xs,hq⟩,q⟩;{cases r1;exact Mb I1 hq q};cases r1;exact QI I1 hq q};intro g x E U H Hm F P R hx Rl p q;refine h g x E U H Hm F _ _ hx Rl p λE' k v u H' Hm' F' fp p' R' s' T=>?_;obtain⟨hk,ds,e1,p'⟩:=p';obtain⟨Hm2,s2,R2,r2⟩:=T.cZ R' hk;cases r2 with
 |lst a r=>cases e1;exact .inl ⟨_,rfl,⟨_,(bW.mono R2.sub a).sq⟩,q _ _ _ _ _ _ p' R2 (s'.trans s2) (JK a r)⟩
 |tup a r=>cases e1;exact .inr ⟨_,rfl,⟨_,bR.of (R2.sub _ _ a)⟩,q _ _ _ _ _ _ p' R2 (s'.trans s2) (Mk a r)⟩
 |_=>cases e1
def lH:Zy->Option (Zy)
 |[.int j]=>@ite _ (-(2^62)<=j/\j<2^62) (Classical.propDecidable _) (some (jU 0 j.toNat)) none
 |_=>none
def Gi:Zy->Option (Zy)
 |[.int i,.int j]=>@ite _ (-(2^62)<=i/\i<2^62/\-(2^62)<=j/\j<2^62) (Classical.propDecidable _) (some (jU i (j-i).toNat)) none
 |_=>none
def yR{g:Gh}{U:St}{E:En}{H Hm:Hp}{F:Nat->A01}{as:List Arg}{os:List (Option PyData)}{vs:List V}{ds:Zy}{K:Frag}(R:Rl K g E U H Hm F)(G:Got K U Hm as os vs)(h:fill as E os=some ds):ay K H vs ds:=nB R R.sub G h λ_ _ _ _=>rfl
def RY(hg:Gl X "range")(hm:X.mg "range"=none)(ns:noStar a=true)(S:aN X Ex Y [a] as):SI X Ex Y tg (.Call (.Name "range" p) [a] [] pos) (jT lH as):=by refine⟨_,Fc hg hm (dh (es:=[a]) (by rw[VL,ns];rfl)) (aR ns),λg x E U H Hm F P R hx Rl p q=>?_⟩;refine ju hx S Rl p λE1 os vs H1 Hm1 F1 p1 R1 s1 G=>?_;replace p1:aA (cA as E1 os) _:=p1;rw[<-aX,eL]at p1;obtain⟨ds,hf,p1⟩:=p1;rw[<-aX]at p1;obtain⟨xs,hg',p1⟩:=p1;have r:=yR R1 G hf;unfold lH at hg';split at hg';{rename_i j;obtain⟨v,rfl,r1⟩:=dH r;cases r1;split at hg';{rename_i c;cases hg';exact⟨j,rfl,c.1,c.2,q _ _ _ _ _ _ p1 R1 s1 Ba⟩};cases hg'};cases hg'
def Rb(hg:Gl X "range")(hm:X.mg "range"=none)(ns:noStar a=true)(ns2:noStar b=true)(S:aN X Ex Y [a,b] as):SI X Ex Y tg (.Call (.Name "range" p) [a,b] [] pos) (jT Gi as):=by refine⟨_,HA hg hm (dh (es:=[a,b]) (by rw[VL,VL,ns,ns2];rfl)) ((aR ns).trans (by rw[aR ns2];rfl)) (aR ns2),λg x E U H Hm F P R hx Rl p q=>?_⟩;refine ju hx S Rl p λE1 os vs H1 Hm1 F1 p1 R1 s1 G=>?_;replace p1:aA (cA as E1 os) _:=p1;rw[<-aX,eL]at p1;obtain⟨ds,hf,p1⟩:=p1;rw[<-aX]at p1;obtain⟨xs,hg',p1⟩:=p1;have r:=yR R1 G hf;unfold Gi at hg';split at hg';{rename_i i j;obtain⟨v,w,rfl,r1,r2⟩:=fV r;cases r1;cases r2;split at hg';{rename_i c;cases hg';exact⟨i,j,rfl,c,q _ _ _ _ _ _ p1 R1 s1 Ba⟩};cases hg'};cases hg'
def RM{x1:Nat}(hg:Gl X "enumerate")(hm:X.mg "enumerate"=none)(ns:noStar e=true)(h:SE X Ex Y e d):SI X Ex Y (.Tuple elts x1 tp) (.Call (.Name "enumerate" p) [e] [] pos) (sZ d):=by rw[M8];refine⟨_,Ly hg hm (dh (es:=[e]) (by rw[VL,ns];rfl)) (aR ns),λg x E U H Hm F P R hx Rl p q=>?_⟩;refine h g x E U H Hm F _ _ hx Rl p λE' k v u H' Hm' F' fp p' R' s' T=>?_;obtain⟨hk,ds,rfl,p'⟩:=p';obtain⟨Hm2,s2,R2,r2⟩:=T.cZ R' hk;obtain⟨a,xs,rfl,ha,r⟩:=dX r2;exact⟨a,rfl,⟨xs,(bW.mono R2.sub ha).sq⟩,q _ _ _ _ _ _ p' R2 (s'.trans s2) (IS ha r)⟩
def JO{ds es:Zy}{i:Nat}(h:((ds.zip es).map λp=>PyData.tuple [p.1,p.2])[i]?=some d):∃a b,ds[i]?=some a/\es[i]?=some b/\d=.tuple [a,b]:=by
 rw[VA]at h;cases e:(ds.zip es)[i]? with
 |none=>rw[e]at h;cases h
 |some p=>rw[e]at h;cases h;obtain⟨h1,h2⟩:=List.getElem?_zip_eq_some.mp e;exact⟨_,_,h1,h2,rfl⟩
def Lv{a b:Addr}{ds:Zy}(h:bW K eu a xs)(h2:bW K eu b ys)(r:ay K eu xs ds)(r2:ay K eu ys es):Am K (NC K a b) ((ds.zip es).map λp=>.tuple [p.1,p.2]) eu:=by intro i H Hm s1 s2;have q:bH K H a xs:=(bW.mono (s1.trans s2) h).sq;have q2:bH K H b ys:=(bW.mono (s1.trans s2) h2).sq;refine⟨λd e=>?_,λl=>⟨xs,ys,q,q2,?_⟩⟩;{obtain⟨d1,d2,e1,e2,rfl⟩:=JO e;obtain⟨v1,f1,g1⟩:=r.get e1;obtain⟨v2,f2,g2⟩:=r2.get e2;refine⟨⟨xs,ys,v1,v2,q,q2,f1,f2⟩,λx H' y=>?_⟩;obtain⟨T,hT,rfl,y⟩:=y;obtain⟨x1,z1,hx,hz2,rfl⟩:=y xs ys q q2;rw[f1]at hx;cases hx;rw[f2]at hz2;cases hz2;exact yP s2 hT (g1.mono s1) (g2.mono s1)};rw[V2,List.length_zip]at l;have:=r.len;have:=r2.len;lia
def RG{x1:Nat}(hg:Gl X "zip")(hm:X.mg "zip"=none)(ns:noStar e1=true)(ns2:noStar e2=true)(h1:SE X Ex Y e1 d1)(h2:SE X Ex Y e2 d2):SI X Ex Y (.Tuple elts x1 tp) (.Call (.Name "zip" p) [e1,e2] [] pos) (Eu d1 d2):=by refine⟨_,P5 hg hm (dh (es:=[e1,e2]) (by rw[VL,VL,ns,ns2];rfl)) ((aR ns).trans (by rw[aR ns2];rfl)) (aR ns2),λg x E U H Hm F P R hx Rl p q=>?_⟩;refine h1 g x E U H Hm F _ _ hx Rl p λE1 k v u H1 Hm1 F1 fp p1 R1 s1 T=>?_;replace p1:bK k.fz _:=p1;rw[d7]at p1;obtain⟨hk,p1⟩:=p1;obtain⟨Hm2,s2,R2,r2⟩:=T.cZ R1 hk;refine h2 g x E1 U H1 Hm2 F1 _ _ hx R2 p1 λE3 k3 v3 u3 H3 Hm3 F3 fp3 p3 R3 s3 T3=>?_;replace p3:bK k3.fz _:=p3;rw[d7,<-Eh]at p3;obtain⟨hk3,ds,rfl,p3⟩:=p3;rw[<-Eh]at p3;obtain⟨es,rfl,p3⟩:=p3;obtain⟨Hm4,s4,R4,r4⟩:=T3.cZ R3 hk3;have r2':=r2.mono (s3.trans s4);obtain⟨a,xs,rfl,ha,ra⟩:=dX r2';obtain⟨b,ys,rfl,hb,rb⟩:=dX r4;exact⟨a,b,rfl,⟨xs,(bW.mono R4.sub ha).sq⟩,⟨ys,(bW.mono R4.sub hb).sq⟩,q _ _ _ _ _ _ p3 R4 (s1.trans (s2.trans (s3.trans s4))) (Lv ha hb ra rb)⟩
end
def WG (X:Cx)(tg:Expr):TG:=λv U H Q=>∀(pins:Zq)(s:Shared)(u:Value),Inv X pins U H s->RelV v u->wpAny (model X.prog X.w) X.A (assign tg X.env u) (λ_ s'=>∃σ' H',Inv X pins σ' H' s'/\Q σ' H') X.xe s
def WG.of(h:PG X tg t)(q:t v U H Q):WG X tg v U H Q:=λpins s u I r=>h pins s U H v u Q I r q
def zR (X:Cx)(ifs:A03):TT:=λU H Q=>∀(pins:Zq)(s:Shared),Inv X pins U H s->wpAny (model X.prog X.w) X.A (forIn ifs true λc r=>if r=true then do let ok <-isTrue c X.env (eval c X.env);pure (ForInStep.yield ok)else pure (ForInStep.yield r)) (TP X pins U Q) X.xe s
def zR.of(h:w4 X ifs t)(q:t U H Q):zR X ifs U H Q:=λpins s I=>h pins s U H Q I q
def WL (X:Cx)(D:Addr)(elt:Expr)(gens:Zo)(scope:Scope)(pos:Pos) (k:Nat):TL:=λys U H Q=>
 X.s₀.heap.objs.size<=D->(∀y c,X.env.cells.lookup y=some c->c≠D)->(∀e s',X.xe e s'->False)->
 ∀(pins:Zq)(s:Shared)(its:A00) (nn:Nat)(fin:Sem Fin)(Qf:Fin->Shared->Prop)(E:Zn),
  (∀p∈X.pn++pins,p.1≠D)->Inv X ((D,iG its nn)::pins) U H s->Vals ys its->ys.length<=sizeLine->
  (∀s' ys' its' nn' σ' H',Inv X ((D,iG its' nn')::pins) σ' H' s'->Vals ys' its'->ys'.length<=sizeLine->Q ys' σ' H'->wpAny (model X.prog X.w) X.A fin Qf E s')->
  wpAny (model X.prog X.w) X.A (ja elt gens scope pos k (.ref D) X.env fin) Qf E s
def WL.of{D:Addr}{k:Nat}(h:PL X D elt gens scope pos k t)(q:t ys U H Q):WL X D elt gens scope pos k ys U H Q:=λh1 h2 h3 pins s its nn fin Qf E hp I rv hz hf=>h h1 h2 h3 pins s U H ys its nn Q fin Qf E hp I rv hz q hf
def Agree (cs:A05)(U σ':St):Prop:=U.length=σ'.length/\∀j,j∉cs->σ'[j]?=U[j]?
def Agree.refl(cs:A05)(U:St):Agree cs U U:=⟨rfl,λ_ _=>rfl⟩
theorem Agree.trans(h:Agree cs a b)(k:Agree cs b c):Agree cs a c:=⟨h.1.trans k.1,λj hj=>(k.2 j hj).trans (h.2 j hj)⟩
theorem Agree.symm(h:Agree cs a b):Agree cs b a:=⟨h.1.symm,λj hj=>(h.2 j hj).symm⟩
section
variable{K:Frag}{g:Gh}{E E0:En}{U σ':St}{H Hm:Hp}{F:Nat->A01}
def Rl.Sw(R:Rl K g E U H Hm F){i:Nat}(o:bL E i=true)(v:Option V):Rl K g (E.set i none) (U.set i v) H Hm (λj=>if j=i then []else F j) where
 len:=by rw[VY,VY];exact R.len
 sub:=R.sub
 slot:=λj k' d' e'=>by
  by_cases c:j=i
  .subst c;rw[aD (gw o)]at e';cases e'
  .rw[ak (Ne.symm c)]at e';obtain⟨u,g1,g2⟩:=R.slot j k' d' e';exact⟨u,by rw[ak (Ne.symm c)];exact g1,by rw[if_neg c];exact g2⟩
 off:=λj a ha=>by
  by_cases c:j=i
  .rw[if_pos c]at ha;cases ha
  .rw[if_neg c]at ha;exact R.off j a ha
 bu:=λj a ha=>by
  by_cases c:j=i
  .rw[if_pos c]at ha;cases ha
  .rw[if_neg c]at ha;exact R.bu j a ha
 aF:=λj l a g1 g2=>by
  by_cases c:j=i
  .rw[if_pos c]at g1;cases g1
  .rw[if_neg c]at g1
   by_cases c':l=i
   .rw[if_pos c']at g2;cases g2
   .rw[if_neg c']at g2;exact R.aF j l a g1 g2
 fr:=R.fr
 new:=λj a ha=>by
  by_cases c:j=i
  .rw[if_pos c]at ha;cases ha
  .rw[if_neg c]at ha;exact R.new j a ha
 pin:=λq hq=>by
  obtain⟨g1,ds',g2⟩:=R.pin q hq;have c:i≠q.1:=λz=>by
   unfold bL at o;rw[z,g2]at o;cases o
  exact⟨by rw[ak c];exact g1,ds',by rw[ak c];exact g2⟩
 old:=R.old
theorem Rl.br:∀{cs:A05}{E E0:En}{U:St}{F:Nat->A01},Rl K g E U H Hm F->Dv.br cs E=some E0->∃σ' F',Rl K g E0 σ' H Hm F'/\Agree cs U σ'/\(∀c∈cs,σ'[c]?=some none/\E0[c]?=some none)
 |[],E,E0,U,F,R,h=>by cases h;exact⟨U,F,R,Agree.refl _ _,λ_ z=>by cases z⟩
 |c::cs,E,E0,U,F,R,h=>by
  rw[Dv.br]at h;by_cases o:bL E c=true
  .rw[if_pos o]at h;have R1:=R.Sw o none;obtain⟨σ',F',R',a,n⟩:=Rl.br (cs:=cs) R1 h;have lc:=gw o;have keep:∀{l:A05}{E E0:En},Dv.br l E=some E0->∀j,j∉l->E0[j]?=E[j]?:=by
    intro l;induction l with
    |nil=>intro E E0 h j _;cases h;rfl
    |cons i l ih=>intro E E0 h j hj;rw[Dv.br]at h;by_cases o:bL E i=true;{rw[if_pos o]at h;have ne:i≠j:=λz=>hj (z▸V3);exact(ih h j λz=>hj (V8 _ z)).trans (ak ne)};rw[if_neg o]at h;cases h
   refine⟨σ',F',R',⟨by rw[<-a.1,VY],λj hj=>?_⟩,λd hd=>?_⟩;{have ne:c≠j:=λz=>hj (z▸V3);exact(a.2 j λz=>hj (V8 _ z)).trans (ak ne)};by_cases m:d∈cs;{exact n d m};have e:d=c:=(VF.mp hd).resolve_right m;subst e;exact⟨(a.2 d m).trans (aD (R.len▸lc)),(keep h d m).trans (aD lc)⟩
  rw[if_neg o]at h;cases h
def Rl.agree(R:Rl K g E U H Hm F)(a:Agree cs U σ')(n:∀c∈cs,E[c]?=some none):Rl K g E σ' H Hm F where
 len:=R.len.trans a.1
 sub:=R.sub
 slot:=λj k d e=>by
  obtain⟨v,h1,h2⟩:=R.slot j k d e;refine⟨v,?_,h2⟩;rw[a.2 j λz=>by rw[n j z]at e;cases e]
  exact h1
 off:=R.off
 bu:=R.bu
 aF:=R.aF
 fr:=R.fr
 new:=R.new
 pin:=λq hq=>by
  obtain⟨g1,ds',g2⟩:=R.pin q hq;refine⟨?_,ds',g2⟩;rw[a.2 q.1 λz=>by rw[n q.1 z]at g2;cases g2]
  exact g1
 old:=R.old
end
inductive kH(X:Cx)(Ex:XK)(Y:A05):A03->DT->Prop
 |nil:kH X Ex Y [] fF
 |one {e:Expr}{t:DT}:ST X Ex Y e t->kH X Ex Y [e] t
def kH.ok(h:kH X Ex Y ifs t){F:Nat->A01}(hx:XL X Ex x g)(R:Rl X.K g E U H Hm F)(p:t x E P)(q:∀E' b H' Hm' F',P E' b->Rl X.K g E' U H' Hm' F'->ah Hm Hm'->Q b H'):zR X ifs (sel Y U) H Q:=by
 cases h with
 |nil=>exact zR.of Mj (q _ _ _ _ _ p R (ah.refl _))
 |one h=>exact zR.of (Mf jY) (h g x E U H Hm F P Q hx R p q)
def SL (X:Cx)(Y cs:A05)(D:Addr)(elt:Expr)(gens:Zo)(scope:Scope)(pos:Pos) (k:Nat)(dc:DC):Prop:=
 ∀(g:Gh)(E:En)(U:St)(H Hm:Hp)(F:Nat->A01)(ys:List V)(dys:Zy)(P:Zy->En->Prop)(Q:List V->St->Hp->Prop),Rl X.K g E U H Hm F->ay X.K Hm ys dys->dc xF dys E P->
  (∀E' dys' ys' σ' H' Hm' F',P dys' E'->Rl X.K g E' σ' H' Hm' F'->ah Hm Hm'->ay X.K Hm' ys' dys'->Agree cs U σ'->Q ys' (sel Y σ') H')->WL X D elt gens scope pos k ys (sel Y U) H Q
variable{X:Cx}{Ex:XK}{Y cs:A05}{D:Addr}{elt tg iter:Expr}{ifs:A03}{gens:Zo}{scope:Scope}{pos:Pos}{k:Nat}
def MH(h:SE X Ex Y elt d)(hk:gens[k]?=none):SL X Y cs D elt gens scope pos k (cB sizeLine d):=by intro g E U H Hm F ys dys P Q R r p q;refine WL.of (Cs bf hk) (h g xF E U H Hm F _ _ XL.no R p λE1 k1 v u H1 Hm1 F1 fp p1 R1 s1 T=>?_);obtain⟨hk,hl,p1⟩:=p1;obtain⟨Hm2,s2,R2,r2⟩:=T.cZ R1 hk;exact⟨by rw[r.len];exact hl,q _ _ _ _ _ _ _ p1 R2 (s1.trans s2) ((r.mono (s1.trans s2)).snoc r2) (Agree.refl _ _)⟩
def IV{xs:Zy}{t:Tg}{c:DT}{r:DC}{G:TG}{tt:TT}{tr:TL}{I:Nat->Zy->En->Prop}{U:St}{F1:Nat->A01}{Q:List V->St->Hp->Prop}(hts:∀i∈t.slots,i∈cs)(it1:Am K J xs Hm1)(R1:Rl K g E1 U H1 Hm1 F1)(r0:ay K Hm1 ys dys)(i0:I 0 dys E1)(hG:∀{d:PyData}{v:V}{E E2:En}{U:St}{H Hm:Hp}{F:Nat->A01}{Q:St->Hp->Prop},cO t d E=some E2->Rp K Hm v d->Rl K g E U H Hm F->(∀σ' F',Rl K g E2 σ' H Hm F'->(∀j,j∉t.slots->σ'[j]?=U[j]?)->Q (sel Y σ') H)->G v (sel Y U) H Q)(hT:∀{E:En}{U:St}{H Hm:Hp}{F:Nat->A01}{P:En->Bool->Prop}{Q:Bool->Hp->Prop},Rl K g E U H Hm F->c xF E P->(∀E' b H' Hm' F',P E' b->Rl K g E' U H' Hm' F'->ah Hm Hm'->Q b H')->tt (sel Y U) H Q)(hR:∀{E:En}{U:St}{H Hm:Hp}{F:Nat->A01}{ys:List V}{dys:Zy}{P:Zy->En->Prop}{Q:List V->St->Hp->Prop},Rl K g E U H Hm F->ay K Hm ys dys->r xF dys E P->(∀E' dys' ys' σ' H' Hm' F',P dys' E'->Rl K g E' σ' H' Hm' F'->ah Hm Hm'->ay K Hm' ys' dys'->Agree cs U σ'->Q ys' (sel Y σ') H')->tr ys (sel Y U) H Q)(step:∀i d ys E,xs[i]?=some d->I i ys E->∃E2,cO t d E=some E2/\c xF E2 λE3 b=>if b=true then r xF ys E3 (I (i+1))else I (i+1) ys E3)(fin:∀E' dys' ys' σ' H' Hm' F',I xs.length dys' E'->Rl K g E' σ' H' Hm' F'->ah Hm1 Hm'->ay K Hm' ys' dys'->Agree cs U σ'->Q ys' (sel Y σ') H'):Jb J G tt tr ys (sel Y U) H1 Q:=by
 refine⟨λi m ys τ H'=>m=xs.length-i/\i<=xs.length/\∃E' dys' σ' Hm' F',I i dys' E'/\Rl K g E' σ' H' Hm' F'/\ah Hm1 Hm'/\ay K Hm' ys dys'/\Agree cs U σ'/\τ=sel Y σ',⟨xs.length,by simp,W3 _,E1,dys,U,Hm1,F1,i0,R1,ah.refl _,r0,Agree.refl _ _,rfl⟩,?_⟩;rintro i m ys τ H2⟨rfl,hi,E2,dys2,σ2,Hm2,F2,i2,R2,s2,r2,a2,rfl⟩;obtain⟨go,stop⟩:=it1 i H2 Hm2 s2 R2.sub;by_cases c':i<xs.length
 .obtain⟨go,mJ⟩:=go xs[i] (VG c');refine .inr ⟨go,λys τ H'=>i+1<=xs.length/\∃E' dys' σ' Hm' F',I (i+1) dys' E'/\Rl K g E' σ' H' Hm' F'/\ah Hm1 Hm'/\ay K Hm' ys dys'/\Agree cs U σ'/\τ=sel Y σ',λys τ H' z=>⟨xs.length-(i+1),by lia,rfl,z⟩,λx H3 y=>?_⟩;obtain⟨Hm3,t1,t2,t3,old,rx⟩:=mJ x H3 y;have R3:=R2.turn t1 t2 t3 old;obtain⟨E4,e4,p4⟩:=step i xs[i] dys2 E2 (VG c') i2;refine hG e4 rx R3 λσ4 F4 R4 ag=>?_;have a4:Agree cs U σ4:=a2.trans ⟨by rw[<-R3.len,<-R4.len];exact(show E2.length=E4.length from R3.len.trans (by
   have h1:=R3.len;have h2:=R4.len;have:E4.length=E2.length:=by
    have go:∀{is:A05}{ds:Zy}{E E':En},bw is ds E=some E'->E'.length=E.length:=by
     intro is
     induction is with
     |nil=>intro ds E E' h;cases ds with|nil=>cases h;rfl|cons _ _=>cases h
     |cons j is ih=>
      intro ds E E' h;cases ds with
      |nil=>cases h
      |cons d ds=>
       rw[bw]at h
       by_cases o:bL E j=true
       .rw[if_pos o]at h;rw[ih h,VY]
       .rw[if_neg o]at h;cases h
    cases t with
    |nm j=>exact go (is:=[j]) e4
    |tp js=>
     cases hd:xs[i]with
     |tuple ds=>rw[hd]at e4;exact go (is:=js) e4
     |_=>rw[hd]at e4;cases e4
    |nt j js=>
     obtain⟨a,ds,hd,e4⟩:=qN e4;exact go (is:=j::js) e4
   lia)),λj hj=>ag j λz=>hj (hts j z)⟩
  refine hT R4 p4 λE5 b H5 Hm5 F5 p5 R5 s5=>?_;cases b with
  |true=>refine nJ (hR R5 (r2.mono (t1.trans s5)) (by simpa using p5) λE6 dys6 ys6 σ6 H6 Hm6 F6 p6 R6 s6 r6 a6=>?_);exact⟨c',E6,dys6,σ6,Hm6,F6,p6,R6,s2.trans (t1.trans (s5.trans s6)),r6,a4.trans a6,rfl⟩
  |false=>exact nP ⟨c',E5,dys2,σ4,Hm5,F5,by simpa using p5,R5,s2.trans (t1.trans s5),r2.mono (t1.trans s5),a4,rfl⟩
 have e:i=xs.length:=by lia
 subst e;exact .inl ⟨stop (V4 _),fin _ _ _ _ _ _ _ i2 R2 s2 r2 a2⟩
def IL:caps ix (sel Y U)=ix.map λi=>(((Y[i]?).map λm=>(U[m]?).join)).join:=by unfold caps sel;refine Vx λi _=>?_;rw[VA]
def bI (Y cs ix:A05):A05:=cs++ix.map λi=>(Y[i]?).getD 0
def vS(hix:∀i∈ix,i<Y.length)(aF:∀c∈cs,c∉Y)(a:Agree cs U σ0)(n:∀c∈cs,σ0[c]?=some none):List.replicate cs.length none++caps ix (sel Y U)=sel (bI Y cs ix) σ0:=by unfold bI;rw[IL];unfold sel;rw[VJ,V7];congr 1;{refine(List.eq_replicate_iff.mpr ⟨V2 ..,λx hx=>?_⟩).symm;obtain⟨c,hc,rfl⟩:=V5.mp hx;rw[n c hc];rfl};refine Vx λi hi=>?_;have l:=hix i hi;show((Y[i]?).map λm=>(U[m]?).join).join=(σ0[(Y[i]?).getD 0]?).join;rw[VG l];show(U[Y[i]]?).join=(σ0[Y[i]]?).join;rw[a.2 Y[i] λz=>aF _ z (XU l)]
def BY{rest:Zo}{vs NB:A07}{ix:A05}{di:DI}{t:Tg}{c:DT}{r:DC}(B:bS X scope vs NB ix)(hc:X.calm=true)(hcs:cs.length=vs.length)(hix:∀i∈ix,i<Y.length)(aF:∀c∈cs,c∉Y)(nd:(bI Y cs ix).Nodup)(hi:SI X Ex Y tg iter di)(ht:∀(C:Addr)(s:Shared)(H:Hp)(fp:A01),fM (X.block scope C NB s H fp) (bI Y cs ix) tg t)(hts:∀i∈t.slots,i∈cs)(hif:∀(C:Addr)(s:Shared)(H:Hp)(fp:A01),kH (X.block scope C NB s H fp) E0 (bI Y cs ix) ifs c)(hr:∀(C:Addr)(s:Shared)(H:Hp)(fp:A01)(D:Addr),SL (X.block scope C NB s H fp) (bI Y cs ix) cs D elt (⟨tg,iter,ifs,0⟩::rest) scope pos 1 r)(ha:∀g∈rest,g.is_async=0)(hs:∀v,foldedSetIterable iter X.env v=pure v){w:(V->Hp->Prop)->St->Hp->Prop}(hw:∀{wi:TI}{G:TG}{tt:TT}{tr:TL}{U:St}{H:Hp}{Q:VK},PI X tg iter wi->(∀(C:Addr)(s:Shared)(H:Hp)(fp:A01),PG (X.block scope C NB s H fp) tg G)->(∀(C:Addr)(s:Shared)(H:Hp)(fp:A01),w4 (X.block scope C NB s H fp) ifs tt)-> (∀(C:Addr)(s:Shared)(H:Hp)(fp:A01)(D:Addr),PL (X.block scope C NB s H fp) D elt (⟨tg,iter,ifs,0⟩::rest) scope pos 1 tr)->tT wi vs.length ix G tt tr U H Q->w Q U H)(g:Gh)(x:XC)(E:En)(U:St)(H Hm:Hp)(F:Nat->A01)(P:En->Kd->PyData->Prop)(Q:VK)(hx:XL X Ex x g)(R:Rl X.K g E U H Hm F)(p:cz cs di t c r x E P)(q:∀E' k v u H' Hm' F' fp,P E' k v->Rl X.K g E' U H' Hm' F'->ah Hm Hm'->Tm X.K g F' H' Hm' k u v fp->Q u H'):w Q (sel Y U) H:=by
 obtain⟨wi,hpi,hwi⟩:=hi;refine hw (wi:=wi) (G:=λv U H Q=>∀(C:Addr)(s:Shared)(H2:Hp)(fp:A01),WG (X.block scope C NB s H2 fp) tg v U H Q) (tt:=λU H Q=>∀(C:Addr)(s:Shared)(H2:Hp)(fp:A01),zR (X.block scope C NB s H2 fp) ifs U H Q)
  (tr:=λys U H Q=>∀(C:Addr)(s:Shared)(H2:Hp)(fp:A01)(D:Addr),WL (X.block scope C NB s H2 fp) D elt (⟨tg,iter,ifs,0⟩::rest) scope pos 1 ys U H Q) hpi (λC s H2 fp pins s' U H v u Q I r h=>h C s H2 fp pins s' u I r) (λC s H2 fp pins s' U H Q I h=>h C s H2 fp pins s' I)
  (λC s H2 fp D h1 h2 h3 pins s' U H ys its nn Q fin Qf E hp I rv hz h hf=>h C s H2 fp D h1 h2 h3 pins s' its nn fin Qf E hp I rv hz hf) ?_
 refine hwi g x E U H Hm F _ _ hx R p λE1 xs J H1 Hm1 F1 p1 R1 s1 it1=>?_;obtain⟨E0',I,hcl,i0,step,fin⟩:=p1;obtain⟨σ0,F0,R0,a0,n0⟩:=R1.br hcl;rw[<-hcs,vS hix aF a0 λc hc=>(n0 c hc).1];refine IV (cs:=cs) (t:=t) (c:=c) (r:=r) hts it1 R0 .nil i0 (λh1 h2 h3 h4 C s H2 fp=>?_) (λh1 h2 h3 C s H2 fp=>(hif C s H2 fp).ok XL.no h1 h2 h3) (λh1 h2 h3 h4 C s H2 fp D=>hr C s H2 fp D g _ _ _ _ _ _ _ _ _ h1 h2 h3 h4) step λE' dys' ys' σ' H' Hm' F' i R' s' r' a' p hp=>?_;{obtain⟨G,g1,g2⟩:=tQ (X:=X.block scope C NB s H2 fp) hc B.nd nd (ht C s H2 fp);exact WG.of g1 (g2 h1 h2 h3 h4)};obtain⟨E2,hcl2,p2⟩:=fin _ _ i;obtain⟨σ2,F2,R2,a2,n2⟩:=R'.br hcl2;have R3:=R2.agree (cs:=cs) ((a0.trans a').trans a2).symm λc hc=>(n2 c hc).2;have s2:=bQ (o:=.lst ys') hp;have R4:=R3.grow (H':=upd H' p (.lst ys')) s2 (ah.refl _) (R3.sub.trans s2) (λi a ha=>R3.off i a ha) λ_ _=>.inl rfl;refine q _ _ _ _ _ Hm' F2 [p] p2 R4 (s1.trans s') ⟨.ow av r',λa ha=>?_,λa ha i=>?_,λa ha=>?_⟩;{rw[V6.mp ha];exact R3.qp hp};{rw[V6.mp ha];exact R3.fresh hp};rw[V6.mp ha];exact R3.fH hp
def Qd{rest:Zo}{vs NB:A07}{ix:A05}{di:DI}{t:Tg}{c:DT}{r:DC}(B:bS X scope vs NB ix)(hc:X.calm=true)(hcs:cs.length=vs.length)(hix:∀i∈ix,i<Y.length)(aF:∀c∈cs,c∉Y)(nd:(bI Y cs ix).Nodup)(hi:SI X Ex Y tg iter di)(ht:∀(C:Addr)(s:Shared)(H:Hp)(fp:A01),fM (X.block scope C NB s H fp) (bI Y cs ix) tg t)(hts:∀i∈t.slots,i∈cs)(hif:∀(C:Addr)(s:Shared)(H:Hp)(fp:A01),kH (X.block scope C NB s H fp) E0 (bI Y cs ix) ifs c)(hr:∀(C:Addr)(s:Shared)(H:Hp)(fp:A01)(D:Addr),SL (X.block scope C NB s H fp) (bI Y cs ix) cs D elt (⟨tg,iter,ifs,0⟩::rest) scope pos 1 r)(ha:∀g∈rest,g.is_async=0)(hs:∀v,foldedSetIterable iter X.env v=pure v):SE X Ex Y (.ListComp elt (⟨tg,iter,ifs,0⟩::rest) scope pos) (cz cs di t c r):=λg x E U H Hm F P Q hx R p q=>
 BY B hc hcs hix aF nd hi ht hts hif hr ha hs (w:=λQ U H=>WE X (.ListComp elt (⟨tg,iter,ifs,0⟩::rest) scope pos) U H Q) (λh1 h2 h3 h4 h5=>WE.of (IA B hc h1 h2 h3 h4 ha hs) h5) g x E U H Hm F P Q hx R p q
def RW{j:Nat}{y:Str}{py spos:Pos}(hN:X.N.Nodup)(hj:X.N[j]?=some y)(hy:X.env.scope.names.lookup y=some .local){rest:Zo}{vs NB:A07}{ix:A05}{di:DI}{t:Tg}{c:DT}{r:DC}(B:bS X scope vs NB ix)(hc:X.calm=true)(hcs:cs.length=vs.length)(hix:∀i∈ix,i<(aO X).length)(aF:∀c∈cs,c∉aO X)(nd:(bI (aO X) cs ix).Nodup)(hi:SI X Ex (aO X) tg iter di)(ht:∀(C:Addr)(s:Shared)(H:Hp)(fp:A01),fM (X.block scope C NB s H fp) (bI (aO X) cs ix) tg t)(hts:∀i∈t.slots,i∈cs)(hif:∀(C:Addr)(s:Shared)(H:Hp)(fp:A01),kH (X.block scope C NB s H fp) E0 (bI (aO X) cs ix) ifs c)(hr:∀(C:Addr)(s:Shared)(H:Hp)(fp:A01)(D:Addr),SL (X.block scope C NB s H fp) (bI (aO X) cs ix) cs D elt (⟨tg,iter,ifs,0⟩::rest) scope pos 1 r)(ha:∀g∈rest,g.is_async=0)(hs:∀v,foldedSetIterable iter X.env v=pure v)(hsw:swapsWith (.ListComp elt (⟨tg,iter,ifs,0⟩::rest) scope pos) (some (.Name y py)) spos.line X.env=pure true):S1 X Ex (.Assign [.Name y py] (.ListComp elt (⟨tg,iter,ifs,0⟩::rest) scope pos) spos) (aB j (cz cs di t c r)):=by
 rw[qJ];intro g D' E U H Hm F D hx R p nx rt;refine BY B hc hcs hix aF nd hi ht hts hif hr ha hs (w:=λQ τ H=>(Q=λu H1=>D.nx (τ.set j (some u)) H1)->WS X (.Assign [.Name y py] (.ListComp elt (⟨tg,iter,ifs,0⟩::rest) scope pos) spos) D τ H)
  (λh1 h2 h3 h4 h5 e=>by
   subst e;exact WS.of (yo hN hj hy B hc h1 h2 h3 h4 hsw ha hs) h5) g D'.xc E U H Hm F _ _ hx R p (λE' k v u H' Hm' F' fp p' R' s' T=>?_) rfl
 rw[ji Wi (fc (aS hj)) (R'.len▸gw p'.1)];exact nx _ _ _ _ _ p'.2 (R'.put T p'.1) s'
end Dv
namespace L2
open PySem PySem.Spec PyProof.Rows
section
variable{X:Cx}
theorem wO:∀{xs:List V}{us:A00} (k:Nat),Vals xs us->Vals (xs.take k) (us.take k)
 |_,_,0,_=>.nil
 |_,_,_+1,.nil=>.nil
 |_,_,k+1,.cons h r=>.cons h (wO k r)
theorem wH:∀{xs:List V}{us:A00} (k:Nat),Vals xs us->Vals (xs.drop k) (us.drop k)
 |_,_,0,h=>h
 |_,_,_+1,.nil=>.nil
 |_,_,k+1,.cons _ r=>wH k r
theorem Ae:∀{xs ys:List V}{us ws:A00},Vals xs us->Vals ys ws->Vals (xs++ys) (us++ws)
 |_,_,_,_,.nil,h=>h
 |_,_,_,_,.cons h r,h2=>.cons h (Ae r h2)
inductive yM(x:V)(vs:List V)(H:Hp)(Q:VK):Prop
 |mk:∀(l:Addr)(xs:List V) (i:Nat) (y:V),(x=.ref l)->(vs=[.int (i:Int),y])->(H l=some (.lst xs))->(i<=xs.length)->(xs.length<sizeLine)->(Q .aW (upd H l (.lst (xs.take i++y::xs.drop i))))->yM x vs H Q
def Cr:V->List V->Hp->VK->Prop:=λx vs H Q=>yM x vs H Q
def Fv:tL X "list.insert" Cr:=by
 intro pins s U H x vs v us Q I rx rv h;obtain⟨l,xs,i,y,rfl,rfl,hH,hi,hs,q⟩:=h;cases rx;obtain⟨u1,u2,rfl,ru1,ru2⟩:=rv.two;obtain⟨t,rfl⟩:=ru1;obtain⟨z,its,n,r,hl,e⟩:=I.yx hH;have line:sizeLine<2^62:=by decide
 have fit:¬(!Builtin.List.listFitsIndex (i:Int))=true:=by rw[fitsIndex_both (k:=(i:Int)) (by lia) (by lia)];decide
 have sz:its.toArray.size<=sizeLine:=by rw[VM];lia
 have key:((λxs:Zx=>have k:=if(i:Int)<0 then((i:Int)+(xs.size:Int)).toNat else min (i:Int).toNat xs.size;(xs.extract 0 k).push u2++xs.extract k) its.toArray)=(its.take i++u2::its.drop i).toArray:=by
  have h1:¬((i:Int)<0):=by lia
  have h2:min i its.length=i:=by lia
  apply Array.toList_inj.mp;simp[h1,h2];exact Xx (by simp)
 have I2:∀tk,Inv X pins U (upd H l (.lst (xs.take i++y::xs.drop i))) { s with heap:=s.heap.update l (Obj.mapSeq (λxs:Zx=>have k:=if(i:Int)<0 then((i:Int)+(xs.size:Int)).toNat else min (i:Int).toNat xs.size;(xs.extract 0 k).push u2++xs.extract k)),toks:=tk }:=λtk=>I.zU (its':=its.take i++u2::its.drop i) hH e key (Ae (wO i r) (.cons ru2 (wH i r))) (by
  rw[VI,VR,WI,Wk];lia)
 generalize (i:Int)=x at fit I2⊢;exact XO F.slot_list_insert ⟨_,e,rfl⟩ F.entry_list_insert (F.args_list_insert_3 _ _ _) (AutoSeq1.list_insert_list_int_val_1 l its.toArray n x t u2 fit sz) ⟨e,.aW,_,I2 _,rfl,q⟩
end
end L2
namespace Dv
open PySem L2 PySem.W
def wz (K:Frag)(f:DM)(r:V->List V->Hp->VK->Prop):Prop:=∀(H Hm:Hp)(a:Addr)(xs:List V)(ds:Zy)(vs:List V)(args:Zy)(P:Zy->PyData->Prop)(Q:VK),H a=some (.lst xs)->Hm a=none->ah Hm H->ay K Hm xs ds->ay K Hm vs args->f ds args P->
 (∀ys new u v,P new v->ay K Hm ys new->Rp K Hm u v->Q u (upd H a (.lst ys)))->r (.ref a) vs H Q
theorem FF:∀{es:List DE}{os:List (Option PyData)}{vs:List V}{ds:Zy},Got K U Hm (es.map .ev) os vs->fill (es.map .ev) E os=some ds->ay K Hm vs ds
 |[],_,_,_,.nil,h=>by cases h;exact .nil
 |e::es,_,_,_,.ev (os:=os) r G,h=>by
  have h:(fill (es.map .ev) E os).map (_::·)=some _:=h;cases hf:fill (es.map .ev) E os with
  |none=>rw[hf]at h;cases h
  |some ds=>rw[hf]at h;cases h;exact .cons r (FF G hf)
inductive qV(X:Cx)(Ex:XK)(Y:A05):A03->List DE->Prop
 |nil:qV X Ex Y [] []
 |cons {e:Expr}{d:DE}{es:A03}{ds:List DE}:SE X Ex Y e d->qV X Ex Y es ds->qV X Ex Y (e::es) (d::ds)
def qV.as(h:qV X Ex Y es ds):aN X Ex Y es (ds.map .ev):=by
 induction h with
 |nil=>exact .nil
 |cons h _ ih=>exact .ev h ih
def ux(ns:es.all noStar=true)(l:es.length<30):((backTo cpos (starEach es env)).all (λx=>!x.1)&&(backToKw cpos (keywordEach [] env)).all (λx=>x.1.isSome)&&decide (es.length+([]:List Keyword).length+(if([]:List Keyword).isEmpty then 0 else 1)<30))=true:=by have h:=eO (pos:=cpos) (env:=env) ns;rw[List.any_eq_false]at h;rw[VB,VB,VW];refine⟨⟨λx hx=>by simpa using h x hx,rfl⟩,Vu ?_⟩;show es.length+0+0<30;lia
section
variable{X:Cx}{Ex:XK}{Y:A05}
def IQ{i:Nat}(h:jb E i=true):∃p ds,E[i]?=some (some (.ow p,.list ds)):=by unfold jb at h;split at h;{rename_i p ds e;exact⟨p,ds,e⟩};cases h
def Ss{x name:Str}{id:String}{p apos cpos:Pos}{es:A03}{ds:List DE}{f:DM}{r:V->List V->Hp->VK->Prop}{i j:Nat}(hm:tL X id r)(D:wz X.K f r)(slot:Slot "list" name id)(hty:typeOf (.builtin id)=pure (.type "method_descriptor"))(hv:PE X (.Name x p) (kI j))(hj:Y[j]?=some i)(ns:es.all noStar=true)(l30:es.length<30)(hline:(apos.endLine==cpos.line)=true)(S:qV X Ex Y es ds):SE X Ex Y (.Call (.Attribute (.Name x p) name apos) es [] cpos) (jR f i ds):=by
 intro g xc E U H Hm F P Q hx R h q;replace h:bK (jb E i) _:=h;rw[d7]at h;obtain⟨ho,h⟩:=h;obtain⟨p0,ds0,e0⟩:=IQ ho;obtain⟨v,h1,h2⟩:=R.slot i _ _ e0;have hs1:=bP hj h1;have fin:∀a xs0,v=.ref a->H a=some (.lst xs0)->pQ X es (sel Y U) H λvs H2=>r (.ref a) vs H2 Q:=λa xs0 ev _=>by
  subst ev;refine ju hx S.as R h λE1 os vs H1 Hm1 F1 p1 R1 s1 G=>?_;replace p1:HX f i (ds.map .ev) E1 os P:=p1;unfold HX at p1;rw[<-aX,eL]at p1;obtain⟨args,hf,p1⟩:=p1;split at p1
  rotate_left
  .exact p1.elim
  rename_i p1' ds1 e1;have ra:=FF G hf;obtain⟨v',g1,g2⟩:=R1.slot i _ _ e1;rw[h1]at g1;cases g1;generalize hfi:F1 i=fi at g2;cases g2 with
  |@ow _ _ xs1 _ ha1 hr1=>refine D H1 Hm1 a xs1 ds1 vs args _ Q ha1 (R1.off i a (by rw[hfi];exact V3)) R1.sub hr1 ra p1 λys new u v p2 ry ru=>?_;obtain⟨a',xs',k1,k2,k3,k4,R2⟩:=R1.chg e1 ry;rw[h1]at k1;cases k1;exact q _ _ _ _ _ _ _ [] p2 R2 s1 (Tm.sh ru)
 generalize hfi:F i=fi at h2;cases h2 with
 |@ow _ a xs _ ha hr=>
  cases es with
  |nil=>exact WE.of (M9 Yt slot hty hm hv rfl hline) ⟨_,hs1,.inl ⟨rfl,_,bH.of ha⟩,fin a xs rfl ha⟩
  |cons e es=>have ns':=ns;rw[VL,VB]at ns';exact WE.of (xT Yt slot hty hm hv (dh ns) rfl (ux ns l30) hline (aR ns'.1) (eO ns'.2)) ⟨_,hs1,.inl ⟨rfl,_,bH.of ha⟩,fin a xs rfl ha⟩
def cS:DM:=λds args P=>match args with
 |[d]=>ds.length<sizeLine/\P (ds++[d]) .none
 |_=>False
def cV:wz K cS AO:=by intro H Hm a xs ds vs args P Q ha _ s r ra h q;unfold cS at h;split at h;{obtain⟨x,rfl,h1⟩:=dH ra;exact⟨a,xs,x,rfl,rfl,ha,by rw[r.len];exact h.1,q _ _ _ _ h.2 (r.snoc h1) .aW⟩};exact h.elim
inductive wu(K:Frag) (x:V)(vs:List V)(H:Hp)(Q:VK):Prop
 |mk:∀l b xs zs,(x=.ref l)->(vs=[.ref b])->(H l=some (.lst xs))->(bW K H b zs)->(xs.length+zs.length<=sizeLine)->(Q .aW (upd H l (.lst (xs++zs))))->wu K x vs H Q
def zS (K:Frag):V->List V->Hp->VK->Prop:=λx vs H Q=>wu K x vs H Q
open PyProof.Rows in
def uO:tL X "list.extend" (zS X.K):=by
 intro pins s U H x vs v us Q I rx rv h;obtain⟨l,b,xs,zs,rfl,rfl,hH,hB,hz,q⟩:=h;cases rx;obtain⟨u,rfl,ru⟩:=rv.one;cases ru;obtain⟨z,its,n,r,hl,e⟩:=I.yx hH;obtain⟨z2,its2,n2,r2,e2⟩:=hB.get I;have hl2:=r2.length;have hsz:its.toArray.size+its2.toArray.size<=sizeLine:=by rw[VM,VM];lia
 have hlong:¬(!its.toArray.isEmpty&&Builtin.List.listTooLong (its.toArray.size+its2.toArray.size))=true:=by rw[su hsz,YO];exact VQ
 refine XO F.slot_list_extend ⟨_,e,rfl⟩ F.entry_list_extend (F.args_list_extend_2 _ _)
  (AutoSeq1.list_extend_list_list_0 l its.toArray n b its2.toArray n2 hlong (by rw[VM];lia) (by lia)) ⟨e,e2,?_⟩
 refine⟨.aW,_,I.zU (its':=its++its2) hH e (by simp) (r.append r2) ?_,rfl,q⟩;rw[VI];lia
def mT:DM:=λds args P=>match args with
 |[.list es]=>ds.length+es.length<=sizeLine/\P (ds++es) .none
 |_=>False
def tU:wz K mT (zS K):=by intro H Hm a xs ds vs args P Q ha _ s r ra h q;unfold mT at h;split at h;{obtain⟨x,rfl,h1⟩:=dH ra;obtain⟨b,zs,rfl,hb,r2⟩:=dX h1;exact⟨a,b,xs,zs,rfl,rfl,ha,bW.mono s hb,by rw[r.len,r2.len];exact h.1,q _ _ _ _ h.2 (r.app r2) .aW⟩};exact h.elim
def vo:DM:=λds args P=>match args with
 |[.int i,d]=>∃n:Nat,i=n/\n<=ds.length/\ds.length<sizeLine/\P (ds.take n++d::ds.drop n) .none
 |_=>False
def Ei:wz K vo Cr:=by intro H Hm a xs ds vs args P Q ha _ s r ra h q;unfold vo at h;split at h;{obtain⟨x,y,rfl,h1,h2⟩:=fV ra;cases h1;obtain⟨n,rfl,l1,l2,h⟩:=h;exact⟨a,xs,n,y,rfl,rfl,ha,by rw[r.len];exact l1,by rw[r.len];exact l2,q _ _ _ _ h ((r.take n).app (.cons h2 (r.drop n))) .aW⟩};exact h.elim
def yz:DM:=λds args P=>args=[]/\P ds.reverse .none
def AK:wz K yz zG:=by rintro H Hm a xs ds vs args P Q ha _ s r ra⟨rfl,h⟩q;cases ra;exact⟨a,xs,rfl,rfl,ha,q _ _ _ _ h r.rev .aW⟩
end
def n5:bF a=bF b↔a=b:=by cases a<;>cases b<;>simp[bF]
theorem wY:∀{a b:List Key},a.map bF=b.map bF↔a=b
 |[],[]=>by simp
 |[],_::_=>by simp
 |_::_,[]=>by simp
 |a::as,b::bs=>by simp[n5,wY (a:=as) (b:=bs)]
def se{a b:List Key}:PyData.tuple (a.map bF)=.tuple (b.map bF)↔a=b:=by rw[PyData.tuple.injEq];exact wY
def qC(h:lF w=true):∃k,w=bF k:=by
 cases w with
 |int i=>exact⟨.inl i,rfl⟩
 |str x=>exact⟨.inr x,rfl⟩
 |_=>cases h
theorem jA:∀{ks:Zy},ks.all lF=true->∃k:List Key,ks=k.map bF
 |[],_=>⟨[],rfl⟩
 |w::ks,h=>by rw[VL,VB]at h;obtain⟨k,rfl⟩:=qC h.1;obtain⟨l,rfl⟩:=jA h.2;exact⟨k::l,rfl⟩
section
variable{K:Frag}{H:Hp}
def tO(r:Rp K H u (bF k)):u=kV k:=by
 cases k with
 |inl i=>have r:Rp K H u (.int i):=r;cases r;rfl
 |inr x=>have r:Rp K H u (.str x):=r;cases r;rfl
theorem rR:∀{us:List V}{k:List Key},ay K H us (k.map bF)->us=k.map kV
 |_,[],r=>by cases r;rfl
 |_,k::ks,r=>by
  cases r with
  |cons h t=>rw[tO h,rR t];rfl
def vI{k:List Key}(r:Rp K H u (.tuple (k.map bF))):∃b,u=.ref b/\H b=some (.tup (k.map kV)):=by
 cases r with
 |tup a r=>exact⟨_,rfl,by rw[<-rR r];exact a⟩
theorem eV.len:∀{kvs:List (Key×V)}{ds:Zl},eV K H kvs ds->kvs.length=ds.length
 |_,_,.nil=>rfl
 |_,_,.cons _ r=>congrArg (·+1) r.len
theorem d8.len:∀{kvs:List (List Key×V)}{ds:Zl},d8 K H kvs ds->kvs.length=ds.length
 |_,_,.nil=>rfl
 |_,_,.cons _ r=>congrArg (·+1) r.len
theorem eV.val:∀{kvs:List (Key×V)}{ds:Zl},eV K H kvs ds->(cH ds (bF k)=none/\cI kvs k=none)\/∃v d,cI kvs k=some v/\cH ds (bF k)=some d/\Rp K H v d
 |_,_,.nil=>.inl ⟨rfl,rfl⟩
 |_,_,.cons (k:=k') (v:=v) (d:=d) (kvs:=kvs) (ds:=ds) h r=>by
  by_cases c:k'=k;{subst c;exact .inr ⟨v,d,by unfold cI;rw[Yu (by simp)];rfl,by unfold cH;rw[Yu (by simp)];rfl,h⟩};have c':¬bF k'=bF k:=λz=>c (n5.mp z);have e1:cI ((k',v)::kvs) k=cI kvs k:=by unfold cI;rw[Yv (by simpa using c)]
  have e2:cH ((bF k',d)::ds) (bF k)=cH ds (bF k):=by unfold cH;rw[Yv (by simpa using c')]
  rw[e1,e2];exact r.val
theorem d8.val:∀{kvs:List (List Key×V)}{ds:Zl},d8 K H kvs ds->(cH ds (.tuple (k.map bF))=none/\cI kvs k=none)\/∃v d,cI kvs k=some v/\cH ds (.tuple (k.map bF))=some d/\Rp K H v d
 |_,_,.nil=>.inl ⟨rfl,rfl⟩
 |_,_,.cons (k:=k') (v:=v) (d:=d) (kvs:=kvs) (ds:=ds) h r=>by
  by_cases c:k'=k;{subst c;exact .inr ⟨v,d,by unfold cI;rw[Yu (by simp)];rfl,by unfold cH;rw[Yu (by simp)];rfl,h⟩};have c':¬PyData.tuple (k'.map bF)=.tuple (k.map bF):=λz=>c (se.mp z);have e1:cI ((k',v)::kvs) k=cI kvs k:=by unfold cI;rw[Yv (by simpa using c)]
  have e2:cH ((.tuple (k'.map bF),d)::ds) (.tuple (k.map bF))=cH ds (.tuple (k.map bF)):=by unfold cH;rw[Yv (by simpa using c')]
  rw[e1,e2];exact r.val
theorem eV.any:∀{kvs:List (Key×V)}{ds:Zl},eV K H kvs ds->(kvs.any λkv=>decide (kv.1=k))=ds.any λkv=>decide (kv.1=bF k)
 |_,_,.nil=>rfl
 |_,_,.cons (k:=k') h r=>by rw[Xg,Xg,r.any,decide_eq_decide.mpr (n5 (a:=k') (b:=k)).symm]
theorem d8.any{k:List Key}:∀{kvs:List (List Key×V)}{ds:Zl},d8 K H kvs ds->(kvs.any λkv=>decide (kv.1=k))=ds.any λkv=>decide (kv.1=.tuple (k.map bF))
 |_,_,.nil=>rfl
 |_,_,.cons (k:=k') h r=>by rw[Xg,Xg,r.any,decide_eq_decide.mpr (se (a:=k') (b:=k)).symm]
theorem eV.app(k:Key)(h:Rp K H v d):∀{kvs:List (Key×V)}{ds:Zl},eV K H kvs ds->eV K H (kvs++[(k,v)]) (ds++[(bF k,d)])
 |_,_,.nil=>.cons h .nil
 |_,_,.cons g r=>.cons g (r.app k h)
theorem d8.app(k:List Key)(h:Rp K H v d):∀{kvs:List (List Key×V)}{ds:Zl},d8 K H kvs ds->d8 K H (kvs++[(k,v)]) (ds++[(.tuple (k.map bF),d)])
 |_,_,.nil=>.cons h .nil
 |_,_,.cons g r=>.cons g (r.app k h)
def eV.put(k:Key)(h:Rp K H v d)(r:eV K H kvs ds):eV K H (putK kvs k v) (putD ds (bF k) d):=by
 unfold putK putD;rw[r.any (k:=k)];split
 .have go:∀{kvs:List (Key×V)}{ds:Zl},eV K H kvs ds->eV K H (kvs.map λkv=>if kv.1=k then(kv.1,v)else kv) (ds.map λkv=>if kv.1=bF k then(kv.1,d)else kv):=by
   intro kvs;induction kvs with
   |nil=>intro ds r;cases r;exact .nil
   |cons p kvs ih=>
    intro ds r;cases r with
    |@cons k' v' d' _ ds g r=>rw[VP,VP];by_cases c:k'=k;{rw[if_pos c,if_pos (congrArg bF c)];exact .cons h (ih r)};rw[if_neg c,if_neg λz=>c (n5.mp z)];exact .cons g (ih r)
  exact go r
 exact r.app k h
def d8.put(k:List Key)(h:Rp K H v d)(r:d8 K H kvs ds):d8 K H (putK kvs k v) (putD ds (.tuple (k.map bF)) d):=by
 unfold putK putD;rw[r.any (k:=k)];split
 .have go:∀{kvs:List (List Key×V)}{ds:Zl},d8 K H kvs ds->d8 K H (kvs.map λkv=>if kv.1=k then(kv.1,v)else kv) (ds.map λkv=>if kv.1=.tuple (k.map bF)then(kv.1,d)else kv):=by
   intro kvs;induction kvs with
   |nil=>intro ds r;cases r;exact .nil
   |cons p kvs ih=>
    intro ds r;cases r with
    |@cons k' v' d' _ ds g r=>rw[VP,VP];by_cases c:k'=k;{rw[if_pos c,if_pos (by rw[c])];exact .cons h (ih r)};rw[if_neg c,if_neg λz=>c (se.mp z)];exact .cons g (ih r)
  exact go r
 exact r.app k h
end
section
variable{X:Cx}{Ex:XK}{Y:A05}
inductive Lc(neg:Bool) (x:V) (y:V)(H:Hp)(Q:VK):Prop
 |mk:∀a o,(y=.ref a)->(iB H a x o)->(Q (.bl (if neg then !o.isSome else o.isSome)) H)->Lc neg x y H Q
def Jq (neg:Bool):R2:=λx y H Q=>Lc neg x y H Q
def Na(hu:X.A.units+64<cLine):bE X (compareOp .In) (Jq false):=by intro pins s U H x y v u Q I rx ry h;obtain⟨a,o,rfl,g,q⟩:=h;cases ry;exact Ui (by lia) I g rx λs3 I3=>⟨.bl o.isSome,H,I3,rfl,q⟩
def HZ(hu:X.A.units+64<cLine):bE X (compareOp .NotIn) (Jq true):=by intro pins s U H x y v u Q I rx ry h;obtain⟨a,o,rfl,g,q⟩:=h;cases ry;exact MI (by lia) I g rx λs3 I3=>⟨.bl (!o.isSome),H,I3,rfl,q⟩
def oH (neg:Bool):DR:=λds P=>CG (λx y=>match y,x with
 |.dict ((.none,.none)::kvs),.tuple ks=>ks.all lF=true/\P .sh (.bool (if neg then !(cH kvs (.tuple ks)).isSome else(cH kvs (.tuple ks)).isSome))
 |.dict kvs,w=>(lF w=true/\mO kvs=true)/\P .sh (.bool (if neg then !(cH kvs w).isSome else(cH kvs w).isSome))
 |y,x=>Lf neg [x,y] P) ds
def As (K:Frag)(neg:Bool):R2:=λx y H Q=>DN K neg x y H Q\/Jq neg x y H Q
def QZ(hu:X.A.units+64<cLine):bE X (compareOp .In) (As X.K false):=bE.or (OP hu) (Na hu)
def GV(hu:X.A.units+64<cLine):bE X (compareOp .NotIn) (As X.K true):=bE.or (Gz hu) (HZ hu)
def sE(r:Rp K H u (.dict kvs))(h:mO kvs=true):∃a es,u=.ref a/\H a=some (.dK es)/\eV K H es kvs:=by
 cases r with
 |dk a r=>exact⟨_,_,rfl,a,r⟩
 |dt a r=>cases h
 |exc _ _=>cases h
 |pd _ _ _=>cases h
def Gj(r:Rp K H u (.dict ((.none,.none)::kvs))):∃a es,u=.ref a/\H a=some (.dT es)/\d8 K H es kvs:=by
 generalize e:((PyData.none,PyData.none)::kvs)=ds at r;cases r with
 |dk a r=>
  cases r with
  |nil=>cases e
  |@cons k _ _ _ _ _ _=>cases k<;>cases e
 |dt a r=>cases e;exact⟨_,_,rfl,a,r⟩
 |exc _ _=>cases e
 |pd _ _ _=>cases e
def AS(neg:Bool):cM K (oH neg) (r2 (As K neg)):=by
 intro H Hm vs ds P Q s r h q;obtain⟨x,y,w,d,rfl,rfl,h1,h2,h⟩:=pN r h;have dflt:Lf neg [w,d] P->r2 (As K neg) [x,y] H Q:=λh=>.inl (Nd neg H Hm _ _ P Q s r h q);have alt:∀kvs,d=.dict kvs->((lF w=true/\mO kvs=true)/\P .sh (.bool (if neg then !(cH kvs w).isSome else(cH kvs w).isSome)))->r2 (As K neg) [x,y] H Q:=λkvs e hz=>by
  subst e;obtain⟨⟨hk,hp⟩,hz⟩:=hz;obtain⟨k,rfl⟩:=qC hk;cases tO h1;obtain⟨a,es,rfl,ha,rt⟩:=sE h2 hp;refine .inr ⟨a,_,rfl,iB.k (s _ _ ha),?_⟩;have e:(cI es k).isSome=(cH kvs (bF k)).isSome:=by rcases rt.val (k:=k)with⟨e1,e2⟩|⟨v,d,e1,e2,_⟩;{rw[e1,e2];rfl};rw[e1,e2];rfl
  rw[e];exact bO.sc q s hz (.bl _)
 have h2':=h2;cases h2' with
 |dk _ rk=>
  cases rk with
  |nil=>exact alt _ rfl h
  |@cons k _ _ _ _ _ _=>cases k<;>exact alt _ rfl h
 |exc _ _=>exact alt _ rfl h
 |pd _ _ _=>exact alt _ rfl h
 |@dt _ _ kvs _ _=>
  cases w with
  |tuple ks=>
   obtain⟨k,rfl⟩:=jA h.1;obtain⟨b,rfl,hb⟩:=vI h1;obtain⟨a,es,e,ha,rt⟩:=Gj h2;cases e;refine .inr ⟨_,_,rfl,iB.t (s _ _ ha) (s _ _ hb),?_⟩;have e:(cI es k).isSome=(cH kvs (.tuple (k.map bF))).isSome:=by rcases rt.val (k:=k)with⟨e1,e2⟩|⟨v,d,e1,e2,_⟩;{rw[e1,e2];rfl};rw[e1,e2];rfl
   rw[e];exact bO.sc q s h.2 (.bl _)
  |_=>exact alt _ rfl h
 |_=>exact dflt h
inductive KP(x:V) (y:V)(H:Hp)(Q:VK):Prop
 |mk:∀a v,(x=.ref a)->(iB H a y (some v))->(Q v H)->KP x y H Q
def Oh:R2:=λx y H Q=>KP x y H Q
def Mz(hu:X.A.units+64<cLine):m7 X Oh:=by intro value slice pins s U H x y v u Q I rx ry h hs;obtain⟨a,w,rfl,g,q⟩:=h;cases rx;exact PyProof.Rows.tail_any (AN I g) Zg (Hq (by lia) I g ry λw' s3 I3 rw'=>⟨w,H,I3,rw',q⟩) hs
def atK (xs:Zy) (i:Int):Option PyData:=match i with
 |.ofNat n=>xs[n]?
 |.negSucc n=>dS xs (.negSucc n)
def uf{xs:Zy}{i:Int}:atK xs i=dS xs i:=by
 cases i with
 |ofNat n=>unfold atK dS lQ;show xs[n]?=_;rw[if_pos (show(0:Int)<=Int.ofNat n from YU n)];by_cases h:n<xs.length;{rw[if_pos (show Int.ofNat n<(xs.length:Int)from Y9.mpr h)];rfl};rw[if_neg (show ¬Int.ofNat n<(xs.length:Int)from λz=>h (Y9.mp z))];exact VZ (Nat.le_of_not_lt h)
 |negSucc n=>rfl
def aC:DR:=λds P=>CG (λx y=>match x,y with
 |.list xs,.int i=>aA (atK xs i) (P .sh)
 |.tuple xs,.int i=>aA (atK xs i) (P .sh)
 |.dict ((.none,.none)::kvs),.tuple ks=>ks.all lF=true/\∃d,cH kvs (.tuple ks)=some d/\P .sh d
 |.dict kvs,w=>(lF w=true/\mO kvs=true)/\∃d,cH kvs w=some d/\P .sh d
 |x,y=>K3 [x,y] P) ds
def Dc (K:Frag):R2:=λx y H Q=>OO K x y H Q\/Oh x y H Q
def TJ(hu:X.A.units+64<cLine):m7 X (Dc X.K):=Et.or (Mz hu)
def Lz:cM K aC (r2 (Dc K)):=by
 intro H Hm vs ds P Q s r h q;obtain⟨x,y,d,w,rfl,rfl,h2,h1,h⟩:=pN r h;have dflt:K3 [d,w] P->r2 (Dc K) [x,y] H Q:=λh=>.inl (Qo H Hm _ _ P Q s r h q);have alt:∀kvs,d=.dict kvs->((lF w=true/\mO kvs=true)/\∃d,cH kvs w=some d/\P .sh d)->r2 (Dc K) [x,y] H Q:=λkvs e hz=>by subst e;obtain⟨⟨hk,hp⟩,d,hv,hz⟩:=hz;obtain⟨k,rfl⟩:=qC hk;cases tO h1;obtain⟨a,es,rfl,ha,rt⟩:=sE h2 hp;rcases rt.val (k:=k)with⟨e1,e2⟩|⟨v,d',e1,e2,rv⟩;{rw[e1]at hv;cases hv};rw[e2]at hv;cases hv;exact .inr ⟨a,v,rfl,by rw[<-e1];exact iB.k (s _ _ ha),bO.sc q s hz rv⟩
 have h2':=h2;cases h2' with
 |lst _ _=>
  cases w with
  |int i=>have h:aA (atK _ i) (P .sh):=h;rw[uf,<-aX]at h;exact dflt h
  |_=>exact dflt h
 |tup _ _=>
  cases w with
  |int i=>have h:aA (atK _ i) (P .sh):=h;rw[uf,<-aX]at h;exact dflt h
  |_=>exact dflt h
 |dk _ rk=>
  cases rk with
  |nil=>exact alt _ rfl h
  |@cons k _ _ _ _ _ _=>cases k<;>exact alt _ rfl h
 |exc _ _=>exact alt _ rfl h
 |pd _ _ _=>exact alt _ rfl h
 |dt _ _=>
  cases w with
  |tuple ks=>obtain⟨hk,d,hv,hz⟩:=h;obtain⟨k,rfl⟩:=jA hk;obtain⟨b,rfl,hb⟩:=vI h1;obtain⟨a,es,e,ha,rt⟩:=Gj h2;cases e;rcases rt.val (k:=k)with⟨e1,e2⟩|⟨v,d',e1,e2,rv⟩;{rw[e1]at hv;cases hv};rw[e2]at hv;cases hv;exact .inr ⟨_,v,rfl,by rw[<-e1];exact iB.t (s _ _ ha) (s _ _ hb),bO.sc q s hz rv⟩
  |_=>exact alt _ rfl h
 |_=>exact dflt h
def fB:DR:=λds P=>match ds with
 |[.dict kvs]=>mO kvs=true/\P .sh (.int kvs.length)
 |ds=>JB ds P
def Jz:cM K fB λxs H Q=>(∃p ys,xs=[.ref p]/\(bH K H p ys\/bR K H p ys)/\Q (.int ys.length) H)\/∃a kvs,xs=[V.ref a]/\H a=some (.dK kvs)/\Q (.int kvs.length) H:=by intro H Hm vs ds P Q s r h q;unfold fB at h;split at h;{obtain⟨x,rfl,h1⟩:=dH r;obtain⟨a,es,rfl,ha,rt⟩:=sE h1 h.1;exact .inr ⟨a,es,rfl,s _ _ ha,by rw[rt.len];exact bO.sc q s h.2 (.int _)⟩};exact .inl (M3 H Hm _ _ P Q s r h q)
def IP:DE:=λ_ E Q=>Q E (.dk false) (.dict [])\/Q E (.dt false) (.dict [(.none,.none)])
def NG(h1:PE X (.Dict [] [] pos) FU)(h2:PE X (.Dict [] [] pos) GA):SE X Ex Y (.Dict [] [] pos) IP:=by
 intro g x E U H Hm F P Q hx R p q;have go:∀(o:HO)(k:Kd)(d:PyData),P E k d->(∀p,Own X.K (upd H p o) Hm k (.ref p) d [p])->∀p,H p=none->Q (.ref p) (upd H p o):=λo k d p own a ha=>by have s2:=bQ (o:=o) ha;have R2:=R.grow (H':=upd H a o) s2 (ah.refl _) (R.sub.trans s2) (λi b hb=>R.off i b hb) λ_ _=>.inl rfl;refine q _ _ _ _ _ Hm F [a] p R2 (ah.refl _) ⟨own a,λb hb=>?_,λb hb i=>?_,λb hb=>?_⟩;{rw[V6.mp hb];exact R.qp ha};{rw[V6.mp hb];exact R.fresh ha};rw[V6.mp hb];exact R.fH ha
 rcases p with p|p;{exact WE.of h1 (go _ _ _ p λ_=>.dk av .nil)};exact WE.of h2 (go _ _ _ p λ_=>.dt av .nil)
def Rl.JL{F:Nat->A01}(R:Rl K g E U H Hm F){i:Nat}{a:Addr}(e:E[i]?=some (some (k,d)))(hF:F i=[a])(hv:U[i]?=some (some (.ref a)))(new:Own K (upd H a o) Hm k (.ref a) d' [a])(nt:oU o)(hp:k=.ow true->∃ds,d'=.list ds) : Rl K g (E.set i (some (k,d'))) U (upd H a o) Hm F:=by
 have ma:a∈F i:=by rw[hF];exact V3
 have na:=R.off i a ma;have up:∀b,b≠a->upd H a o b=H b:=λb hb=>ai hb;have li:=aS e;exact {
  len:=by rw[VY];exact R.len
  sub:=λb u hb=>by
   have:b≠a:=λz=>by rw[z,na]at hb;cases hb
   rw[up b this];exact R.sub b u hb
  slot:=λj k' d'' e'=>by
   by_cases c:j=i
   .subst c;rw[aD li]at e';cases e';exact⟨_,hv,by rw[hF];exact new⟩
   .rw[ak (Ne.symm c)]at e';obtain⟨u,g1,g2⟩:=R.slot j k' d'' e';refine⟨u,g1,g2.step (ah.refl _) λb hb=>up b λz=>c (R.aF j i a (z▸hb) ma)⟩
  off:=R.off
  bu:=λj b hb=>by
   by_cases c:b=a
   .rw[c];exact⟨_,av,nt⟩
   .rw[up b c];exact R.bu j b hb
  aF:=R.aF
  fr:=λq u hq ho=>by
   have:q≠a:=λz=>by
    rcases R.new i a ma with y|y
    .exact hq (z▸y)
    .rw[z,y]at ho;cases ho
   rw[up q this];exact R.fr q u hq ho
  new:=R.new
  pin:=λq hq=>by
   obtain⟨g1,ds',g2⟩:=R.pin q hq
   by_cases c:i=q.1
   .rw[<-c]at g1 g2⊢;rw[e]at g2;cases g2;obtain⟨ds,rfl⟩:=hp rfl;exact⟨g1,ds,aD li⟩
   .exact⟨g1,ds',by rw[ak c];exact g2⟩
  old:=R.old }
def La:vg:=λo i v H Q=>Kq o i v H Q\/∃a H',o=.ref a/\p9 H a i v H'/\Q H'
def J3(hu:X.A.units+64<cLine):D4 X La:=by intro pins s U H o i v ov iv u Q I ro ri rv h;rcases h with h|⟨a,H',rfl,g,q⟩;{exact set_list pins s U H o i v ov iv u Q I ro ri rv h};cases ro;exact FH (by lia) I g ri rv λs' I'=>⟨H',I',q⟩
def Ce{F:Nat->A01}{i:Nat}(R:Rl K g E U H Hm F)(ho:U[i]?=some (some o))(rw':Rp K Hm wv w)(rv:Rp K Hm vv v)(h:iH.setI E i w v Qe)(q:∀E' H',Qe E'->Rl K g E' U H' Hm F->Q H'):La o wv vv H Q:=by
 unfold iH.setI at h;split at h
 .rename_i p ds a e;rw[<-aX,zX]at h;obtain⟨n,hn,h⟩:=h;cases rw';obtain⟨v',h1,h2⟩:=R.slot i _ _ e;rw[ho]at h1;cases h1;generalize hfi:F i=fi at h2;cases h2 with
  |@ow _ b xs _ ha hr=>refine .inl ⟨b,xs,a,n,rfl,rfl,ha,by rw[hr.len];exact hn,q _ _ h ?_⟩;exact R.JL e hfi ho (.ow av (hr.set rv n)) lO λ_=>⟨_,rfl⟩
 .rename_i p kvs _ e;obtain⟨⟨hk,hl⟩,h⟩:=h;obtain⟨k,rfl⟩:=qC hk;cases tO rw';obtain⟨v',h1,h2⟩:=R.slot i _ _ e;rw[ho]at h1;cases h1;generalize hfi:F i=fi at h2;cases h2 with
  |@dk _ b es _ ha hr=>refine .inr ⟨b,_,rfl,p9.k ha (by rw[hr.len];exact hl),q _ _ h ?_⟩;exact R.JL e hfi ho (.dk av (hr.put k rv)) w5 λz=>by cases z
 .rename_i p kv kvs ks e;obtain⟨⟨hk,hl⟩,h⟩:=h;obtain⟨k,rfl⟩:=jA hk;obtain⟨c,rfl,hc⟩:=vI rw';obtain⟨v',h1,h2⟩:=R.slot i _ _ e;rw[ho]at h1;cases h1;generalize hfi:F i=fi at h2;cases h2 with
  |@dt _ b es _ ha hr=>refine .inr ⟨b,_,rfl,p9.t ha (R.sub _ _ hc) (by rw[hr.len];exact hl),q _ _ h ?_⟩;exact R.JL e hfi ho (.dt av (hr.put k rv)) tK λz=>by cases z
 exact h.elim
def RQ{i jx:Nat}(hu:X.A.units+64<cLine)(hv:PE X (.Name x p) (kI jx))(hj:(aO X)[jx]?=some i)(hs:swapsWithSole [.Subscript (.Name x p) j pos'] e pos.line X.env=pure false)
  (ha:∀v,assign (.Subscript (.Name x p) j pos') X.env v=(do
   let ov <-holding [v] (eval (.Name x p) X.env)
   let iv <-holding [v,ov] (eval j X.env)
   standAt pos'
   holding [v,ov,iv] (setItem ov iv v)
   release [v,ov,iv] []))(hd:SE X Ex (aO X) e de)(hd2:SE X Ex (aO X) j dj):S1 X Ex (.Assign [.Subscript (.Name x p) j pos'] e pos) (iH i dj de):=by
 intro g D' E U H Hm F D hx R pp nx rt;refine WS.of (FY bf (Ox hv bf (J3 hu) ha) hs) (hd g D'.xc E U H Hm F _ _ hx R pp λE1 k v u H1 Hm1 F1 fp p1 R1 s1 T=>?_)
 replace p1:bK k.fz _:=p1
 rw[d7,d7]at p1;obtain⟨hk,hh,p1⟩:=p1;obtain⟨Hm2,s2,R2,r2⟩:=T.cZ R1 hk;obtain⟨o,ho⟩:=lC R2 hh;refine⟨o,bP hj ho,hd2 g D'.xc E1 U H1 Hm2 F1 _ _ hx R2 p1 λE3 k3 v3 u3 H3 Hm3 F3 fp3 p3 R3 s3 T3=>?_⟩
 replace p3:bK k3.fz _:=p3
 rw[d7]at p3;obtain⟨hk3,p3⟩:=p3;obtain⟨Hm4,s4,R4,r4⟩:=T3.cZ R3 hk3;exact Ce R4 ho r4 (r2.mono (s3.trans s4)) p3 λE' H' q R'=>nx _ _ _ _ _ q R' (s1.trans (s2.trans (s3.trans s4)))
end
def ini:A02->Zy->En
 |true::ms,d::ds=>some (.ow true,d)::ini ms ds
 |false::ms,d::ds=>some (.sh,d)::ini ms ds
 |_,_=>[]
def fE:A02->En->Option (Zy)
 |[],_=>some []
 |true::ms,some (.ow true,.list es)::E=>(fE ms E).map (.list es::·)
 |false::ms,_::E=>fE ms E
 |_,_=>none
def fJ:A02->Nat->A01->List (Nat×Addr)
 |true::ms,n,a::as=>(n,a)::fJ ms (n+1) as
 |false::ms,n,as=>fJ ms (n+1) as
 |_,_,_=>[]
def gh:A02->A01->List (A01)
 |true::ms,a::as=>[a]::gh ms as
 |false::ms,as=>[]::gh ms as
 |_,_=>[]
section
variable{K:Frag}{H Hm:Hp}
def Ag.Ar(h:Ag K H Hm ms vs ds as):vs.length=ms.length:=by
 induction h with
 |nil=>rfl
 |sh _ _ ih=>rw[VR,VR,ih]
 |mu _ _ _ _ _ ih=>rw[VR,VR,ih]
def Ag.Uu(h:Ag K H Hm ms vs ds as):(ini ms ds).length=vs.length:=by
 induction h with
 |nil=>rfl
 |sh _ _ ih=>rw[ini,VR,VR,ih]
 |mu _ _ _ _ _ ih=>rw[ini,VR,VR,ih]
def Ag.pins(h:Ag K H Hm ms vs ds as):∀n,(fJ ms n as).map (·.2)=as:=by
 induction h with
 |nil=>exact λ_=>rfl
 |sh _ _ ih=>exact λn=>ih (n+1)
 |@mu _ _ _ _ a _ _ _ _ _ _ _ ih=>exact λn=>congrArg (a::·) (ih (n+1))
def Ag.slot(h:Ag K H Hm ms vs ds as):∀{i:Nat}{k:Kd}{d:PyData},(ini ms ds)[i]?=some (some (k,d))->∃v,vs[i]?=some v/\Own K H Hm k v d ((gh ms as)[i]?.getD []):=by
 induction h with
 |nil=>intro i k d e;simp[ini]at e
 |@sh ms vs ds as v d r _ ih=>
  intro i k d' e;rw[ini]at e;cases i with
  |zero=>cases e;exact⟨v,rfl,.sh r⟩
  |succ i=>exact ih e
 |@mu ms vs ds as a xs es h1 h2 h3 h4 _ ih=>
  intro i k d' e;rw[ini]at e;cases i with
  |zero=>cases e;exact⟨_,rfl,.ow h1 h2⟩
  |succ i=>exact ih e
def Ag.Kn(h:Ag K H Hm ms vs ds as):(∀(i:Nat) a,a∈(gh ms as)[i]?.getD []->a∈as/\Hm a=none/\∃xs,H a=some (.lst xs))/\∀(i j:Nat) a,a∈(gh ms as)[i]?.getD []->a∈(gh ms as)[j]?.getD []->i=j:=by
 induction h with
 |nil=>exact⟨λi a h=>by simp[gh]at h,λi j a h=>by simp[gh]at h⟩
 |@sh ms vs ds as v d r _ ih=>
  refine⟨λi a h=>?_,λi j a h1 h2=>?_⟩
  .rw[gh]at h;cases i with
   |zero=>simp at h
   |succ i=>exact ih.1 i a h
  rw[gh]at h1 h2;cases i with
  |zero=>simp at h1
  |succ i=>
   cases j with
   |zero=>simp at h2
   |succ j=>exact congrArg (·+1) (ih.2 i j a h1 h2)
 |@mu ms vs ds as a xs es g1 g2 g3 g4 _ ih=>
  refine⟨λi b h=>?_,λi j b h1 h2=>?_⟩
  .rw[gh]at h;cases i with
   |zero=>have h:b∈[a]:=h;rw[V6]at h;subst h;exact⟨V3,g3,xs,g1⟩
   |succ i=>obtain⟨y1,y2⟩:=ih.1 i b h;exact⟨V8 _ y1,y2⟩
  rw[gh]at h1 h2;cases i with
  |zero=>
   have h1:b∈[a]:=h1;rw[V6]at h1;subst h1;cases j with
   |zero=>rfl
   |succ j=>exact absurd (ih.1 j b h2).1 g4
  |succ i=>
   cases j with
   |zero=>have h2:b∈[a]:=h2;rw[V6]at h2;subst h2;exact absurd (ih.1 i b h1).1 g4
   |succ j=>exact congrArg (·+1) (ih.2 i j b h1 h2)
def Ag.pin(h:Ag K H Hm ms vs ds as):∀n,∀q∈fJ ms n as,∃i,q.1=n+i/\vs[i]?=some (.ref q.2)/\∃es,(ini ms ds)[i]?=some (some (.ow true,.list es)):=by
 induction h with
 |nil=>exact λn q h=>by cases h
 |@sh ms vs ds as v d r _ ih=>intro n q h;obtain⟨i,e,h1,h2⟩:=ih (n+1) q h;exact⟨i+1,by lia,h1,h2⟩
 |@mu ms vs ds as a xs es g1 g2 g3 g4 _ ih=>intro n q h;have h:q∈(n,a)::fJ ms (n+1) as:=h;rcases VF.mp h with rfl|h;{exact⟨0,rfl,rfl,es,rfl⟩};obtain⟨i,e,h1,h2⟩:=ih (n+1) q h;exact⟨i+1,by lia,h1,h2⟩
def Ag.back{H' Hm':Hp}{E:En}(h:Ag K H Hm ms vs ds as):∀{n:Nat}{us:Zy},(∀q∈fJ ms n as,∃es xs,E[q.1]?=some (some (.ow true,.list es))/\H' q.2=some (.lst xs)/\ay K Hm' xs es/\Hm' q.2=none)->fE ms (E.drop n)=some us->Bk K H' Hm' as us:=by
 induction h with
 |nil=>intro n us _ e;cases e;exact .nil
 |@sh ms vs ds as v d r _ ih=>
  intro n us hq e;cases hE:E.drop n with
  |nil=>rw[hE]at e;cases e
  |cons o E'=>rw[hE]at e;refine ih (n:=n+1) hq ?_;rw[show E.drop (n+1)=E' from by rw[<-List.tail_drop,hE];rfl];exact e
 |@mu ms vs ds as a xs es g1 g2 g3 g4 _ ih=>
  intro n us hq e;obtain⟨es',xs',e1,e2,e3,e4⟩:=hq (n,a) V3;cases hE:E.drop n with
  |nil=>rw[hE]at e;cases e
  |cons o E'=>
   have ho:o=some (.ow true,.list es'):=by have:=YQ (xs:=E) (i:=n) (j:=0);rw[hE,Nat.add_zero]at this;have e1:E[n]?=_:=e1;rw[e1]at this;exact Option.some.inj this
   subst ho;rw[hE]at e;have e:(fE ms E').map (PyData.list es'::·)=some us:=e;cases hb:fE ms E' with
   |none=>rw[hb]at e;cases e
   |some us'=>rw[hb]at e;cases e;refine .cons e2 e3 e4 (ih (n:=n+1) (λq hq'=>hq q (V8 _ hq')) ?_);rw[show E.drop (n+1)=E' from by rw[<-List.tail_drop,hE];rfl];exact hb
def F9{n:Nat}(h:n<=U.length):sel (List.range n) U=U.take n:=by
 refine W8 λi=>?_;unfold sel;rw[VA,List.getElem?_take];by_cases c:i<n
 .rw[VN c,if_pos c];have l:i<U.length:=by lia
  rw[VG l];show some ((U[i]?).join)=some U[i];rw[VG l];rfl
 rw[if_neg c,VZ (by rw[V9];lia)];rfl
def Ag.rl(h:Ag K H Hm ms vs ds as)(s:ah Hm H) (m:Nat):Rl K ⟨H,Hm,fJ ms 0 as⟩ (ini ms ds++List.replicate m none) (vs.map some++List.replicate m none) H Hm (λi=>(gh ms as)[i]?.getD []):=by
 have hM:Gh.M ⟨H,Hm,fJ ms 0 as⟩=as:=h.pins 0;have inE:∀{i:Nat}{k:Kd}{d:PyData},(ini ms ds++List.replicate m none)[i]?=some (some (k,d))->(ini ms ds)[i]?=some (some (k,d)):=λ{i k d} e=>by rcases W4 i (ini ms ds).length with l|l;{rwa[XJ l]at e};rw[Xd l]at e;have:=VV e;have:=List.eq_of_mem_replicate this;cases this
 have inV:∀{i:Nat}{v:V},vs[i]?=some v->(vs.map some++List.replicate m none)[i]?=some (some v):=λ{i v} e=>by have l:=aS e;rw[XJ (by rw[V2];exact l),VA,e];rfl
 exact {
  len:=by rw[VI,VI,h.Uu,V2,Wb,Wb]
  sub:=s
  slot:=λi k d e=>by
   obtain⟨v,h1,h2⟩:=h.slot (inE e);exact⟨v,inV h1,h2⟩
  off:=λi a ha=>(h.Kn.1 i a ha).2.1
  bu:=λi a ha=>by
   obtain⟨_,_,xs,e⟩:=h.Kn.1 i a ha;exact⟨_,e,lO⟩
  aF:=λi j a h1 h2=>h.Kn.2 i j a h1 h2
  fr:=λp o _ e=>e
  new:=λi a ha=>.inl (by rw[hM];exact(h.Kn.1 i a ha).1)
  pin:=λq hq=>by
   obtain⟨i,e,h1,es,h2⟩:=h.pin 0 q hq;rw[YF]at e;rw[e];refine⟨inV h1,es,?_⟩;rw[XJ (aS h2)];exact h2
  old:=λ_ _=>.inl rfl }
variable{P:Program}{w:World}{mg:Zp}{base:Heap}
def bx (ms:A02)(Q:Zy->Kd->PyData->Prop)(x:XC):gQ where
 nx:=λE=>aA (fE ms E) λus=>Q us .sh .none
 rt:=λE k v=>aA (fE ms E) λus=>Q us k v
 xc:=x
def bT{f:Addr}{N ps:A07}{k:Nat}{ms:A02}{sp:bG}{d:DS}{m:Nat}(F:uF K x qual st f fd)(S:aM N ps (au st))(hl:ms.length=ps.length)(hm:N.length<=ps.length+m)(hb:∀(cdv:Value)(A:Around)(outer:List Env)(s:Shared)(H:Hp)(Ex:XK),dM k (A.deeper (PyProof.Rows.envOfC qual (au st) s.heap.objs.size f cdv))->SS (gH (fh P w) P w K mg base N qual (au st) f cdv A outer s H Ex) Ex (ir st) d)(hd:∀(ds:Zy)(Q:Zy->Kd->PyData->Prop)(x:XC),sp ds Q x->d (bx ms Q x) (ini ms ds++List.replicate m none)):gA P w K mg base (fh P w) (k+1) f fd ps (cF mg K ms sp):=by
 refine F.U0 S (λvs H Q E h=>?_) (λcdv A outer s H vs Q E hr h=>?_);{obtain⟨ds,as,Hm,P',x,_,ag,_⟩:=h;rw[ag.Ar,hl]};obtain⟨ds,as,Hm,P',xc,sm,ag,hsp,ret,exn⟩:=h;refine⟨_,jh,?_⟩;have R:=ag.rl sm m;have hpre:N.length >= vs.length:=by rw[ag.Ar,hl];have:=congrArg List.length S.pre;rw[WI]at this;lia
 have hsel:L2.start N vs=sel (List.range N.length) (vs.map some++List.replicate m none):=by
  have hv:vs.length=ps.length:=by rw[ag.Ar,hl]
  rw[F9 (by rw[VI,V2,Wb];lia)];unfold L2.start;rw[List.take_append,V2,Xx (by rw[V2];exact hpre),List.take_replicate];congr 2;lia
 rw[hsel];have hM:Gh.M ⟨H,Hm,fJ ms 0 as⟩=as:=ag.pins 0;have fin:∀{E':En}{k:Kd}{v:PyData}{u:V}{σ':St}{H' Hm':Hp}{F':Nat->A01}{fp:A01},(aA (fE ms E') λus=>P' us k v)->Rl K ⟨H,Hm,fJ ms 0 as⟩ E' σ' H' Hm' F'->Tm K ⟨H,Hm,fJ ms 0 as⟩ F' H' Hm' k u v fp->Q u H':=by
  intro E' k v u σ' H' Hm' F' fp p R' T;rw[<-aX]at p;obtain⟨us,hus,p⟩:=p;refine ret us k v u H' Hm' fp p (λa o e=>?_) R'.sub (λp o hp e=>R'.fr p o (by rw[hM];exact hp) e) (λa _ ha=>R'.old a ha) ?_ T.own λa ha=>⟨T.new a ha,T.off a ha⟩
  .have:H a≠none:=λz=>by rw[sm _ _ e]at z;cases z
   rcases R'.old a this with e'|⟨e',_⟩;{exact e'.trans e};have e':Hm a=none:=e';rw[e]at e';cases e'
  refine ag.back (E:=E') (n:=0) (λq hq=>?_) (by rw[Yr];exact hus);obtain⟨h1,es,h2⟩:=R'.pin q hq;obtain⟨v',h3,h4⟩:=R'.slot _ _ _ h2;have hF:=R'.zc hq;rw[h1]at h3;cases h3;rw[hF]at h4;cases h4 with
  |ow e1 e2=>exact⟨es,_,h2,e1,e2,R'.off q.1 q.2 (by rw[hF];exact V3)⟩
 refine hb cdv A outer s H E hr ⟨H,Hm,fJ ms 0 as⟩ (bx ms P' xc) _ _ H Hm _ _ (λc d' C a H' hC hx fr ha hn=>exn c d' C a H' hC hx (λp o hp ho=>fr p o (by rw[hM];exact hp) ho) ha hn) R (hd ds P' xc hsp) (λE' σ' H' Hm' F' p R' _=>?_) (λE' k v u σ' H' Hm' F' fp p R' T=>fin p R' T);exact fin (k:=.sh) (v:=.none) (u:=.aW) p R' (Tm.sh .aW)
variable{X:Cx}{Ex:XK}{Y:A05}
def xI{i:Int} {j}:SE X Ex Y (.Constant (.int i) j pos) (dC (.int i)):=yY PM λ_=>.int i
def xS{j}:SE X Ex Y (.Constant (.str x) j pos) (dC (.str x)):=yY EK λ_=>.str x
def xB{b:Bool} {j}:SE X Ex Y (.Constant (.bool b) j pos) (dC (.bool b)):=yY Rm λ_=>.bl b
def xN{j}:SE X Ex Y (.Constant .none j pos) (dC .none):=yY Qy λ_=>.aW
def xG{i:Int}(hm:∃t,X.mg x=some (.int i t))(hg:Gl X x:=by rfl)(hd:(x==("__debug__":Str))=false:=by decide):SE X Ex Y (.Name x pos) (dC (.int i)):=
 let⟨t,ht⟩:=hm
 yY (Mt (v:=.int i) hg ht ⟨t,rfl⟩ hd) λ_=>.int i
def xV(j:Nat){i:Nat}(hN:X.N[j]?=some x:=by rfl)(hv:fX X.env.scope x:=by nofun)(hj:Y[j]?=some i:=by rfl)(hd:(x==("__debug__":Str))=false:=by decide)(hcd:(x==("__classdict__":Str))=false:=by decide):SE X Ex Y (.Name x pos) (bg i):=Qc (cL hN hv hd hcd) hj
def a0:aN X Ex Y [] []:=.nil
def aP(j:Nat){i:Nat}(S:aN X Ex Y es as)(hN:X.N[j]?=some x:=by rfl)(hv:fX X.env.scope x:=by nofun)(hj:Y[j]?=some i:=by rfl)(hd:(x==("__debug__":Str))=false:=by decide)(hcd:(x==("__classdict__":Str))=false:=by decide):aN X Ex Y (.Name x pos::es) (.pk i::as):=.pk (cL hN hv hd hcd) hj S
def aE(h:SE X Ex Y e d)(S:aN X Ex Y es as):aN X Ex Y (e::es) (.ev d::as):=.ev h S
def oz:DR:=nK λi j=>.int (i-j)
def pT:DR:=qG (λ_ j=>0<j) λi j=>.int (i%j)
def DG:DR:=qG Dj λi j=>.int (i/j)
def vp:DR:=qG Ah λi j=>.int (i^j.toNat)
def kT:DR:=nK λi j=>.bool (decide (i<j))
def Qq:DR:=nK λi j=>.bool (decide (i<=j))
def wG:DR:=nK λi j=>.bool (decide (j<i))
def NN:DR:=nK λi j=>.bool (decide (j<=i))
def gF:DR:=λds P=>match ds with
 |[.int a]=>P .sh (.int (-a))
 |_=>False
def LX:cM K gF (r1 (rU λi=>.int (-i))):=by intro H Hm vs ds P Q s r h q;unfold gF at h;split at h;{obtain⟨x,rfl,h1⟩:=dH r;cases h1;exact⟨_,rfl,bO.sc q s h (.int _)⟩};exact h.elim
variable{a b:Expr}{pos:Pos}{as:List Arg}
def eT(S:aN X Ex Y [a,b] as):SE X Ex Y (.BinOp a .Add b pos) (aa cN as):=jr Me LW S
def zu(S:aN X Ex Y [a,b] as):SE X Ex Y (.BinOp a .Sub b pos) (aa oz as):=jr Oa (jf λ_ _ _=>.int _) S
def f9(S:aN X Ex Y [a,b] as):SE X Ex Y (.BinOp a .Mult b pos) (aa dW as):=jr LF Mg S
def vW(S:aN X Ex Y [a,b] as):SE X Ex Y (.BinOp a .Mod b pos) (aa pT as):=jr OQ (nH λ_ _ _=>.int _) S
def O1(S:aN X Ex Y [a,b] as):SE X Ex Y (.BinOp a .FloorDiv b pos) (aa DG as):=jr Iw (nH λ_ _ _=>.int _) S
def DO(S:aN X Ex Y [a,b] as):SE X Ex Y (.BinOp a .Pow b pos) (aa vp as):=jr PX (nH λ_ _ _=>.int _) S
def l9(S:aN X Ex Y [a] as):SE X Ex Y (.UnaryOp .USub a pos) (aa gF as):=Sm Ng LX S
def JZ(S:aN X Ex Y [a,b] as):SE X Ex Y (.Compare a [.Lt] [b] pos) (aa kT as):=tM Er (gK _) (jf λ_ _ _=>.bl _) S
def UX(S:aN X Ex Y [a,b] as):SE X Ex Y (.Compare a [.LtE] [b] pos) (aa Qq as):=tM Ln (gK _) (jf λ_ _ _=>.bl _) S
def Pk(hu:X.A.units+64<cLine)(S:aN X Ex Y [a,b] as):SE X Ex Y (.Compare a [.Eq] [b] pos) (aa jC as):=tM (Ez hu) (gK _) GJ S
def UZ(hu:X.A.units+64<cLine)(S:aN X Ex Y [a,b] as):SE X Ex Y (.Compare a [.NotEq] [b] pos) (aa oX as):=tM (FI hu) (gK _) Ho S
def zf(S:aN X Ex Y [a,b] as):bJ X Ex Y (.Compare a [.Lt] [b] pos) (aa kT as):=iy Er (gK _) (jf λ_ _ _=>.bl _) S
def BN(S:aN X Ex Y [a,b] as):bJ X Ex Y (.Compare a [.Gt] [b] pos) (aa wG as):=iy Q5 (gK _) (jf λ_ _ _=>.bl _) S
def Vk(S:aN X Ex Y [a,b] as):bJ X Ex Y (.Compare a [.GtE] [b] pos) (aa NN as):=iy RZ (gK _) (jf λ_ _ _=>.bl _) S
def B8(hu:X.A.units+64<cLine)(S:aN X Ex Y [a,b] as):bJ X Ex Y (.Compare a [.Eq] [b] pos) (aa jC as):=iy (Ez hu) (gK _) GJ S
def K2(hu:X.A.units+64<cLine)(S:aN X Ex Y [a,b] as):bJ X Ex Y (.Compare a [.NotEq] [b] pos) (aa oX as):=iy (FI hu) (gK _) Ho S
def Hh(S:aN X Ex Y [a,b] as):bJ X Ex Y (.Compare a [.Is] [b] pos) (aa (dO false) as):=iy Nf (gK _) M7 S
def U1(hu:X.A.units+64<cLine)(S:aN X Ex Y [a,b] as)(hm:behindInMarks .In b=false:=by rfl):bJ X Ex Y (.Compare a [.In] [b] pos) (aa (oH false) as):=iy (QZ hu) hm (AS false) S
def Tz(hu:X.A.units+64<cLine)(S:aN X Ex Y [a,b] as)(hm:behindInMarks .NotIn b=false:=by rfl):bJ X Ex Y (.Compare a [.NotIn] [b] pos) (aa (oH true) as):=iy (GV hu) hm (AS true) S
def AU(h:SE X Ex Y e d)(he:∀whole,isTrue e X.env whole=(do let v <-whole;standAt e.pos;holding [v] (truthy v)):=by intro _;rfl):bJ X Ex Y e d:=h.wU he
def tV(j:Nat){i:Nat}(hN:X.N[j]?=some x:=by rfl)(hv:fX X.env.scope x:=by nofun)(hj:Y[j]?=some i:=by rfl)(hd:(x==("__debug__":Str))=false:=by decide)(hcd:(x==("__classdict__":Str))=false:=by decide):ST X Ex Y (.Name x pos) (Kl i):=T8 (cL hN hv hd hcd) hj λ_=>rfl
def aU(hu:X.A.units+64<cLine)(S:aN X Ex Y [a,b] as)(hs:kg b:=by intro _ _;rfl):SE X Ex Y (.Subscript a b pos) (aa aC as):=RN (TJ hu) hs Lz S
variable{p:Pos}
def lW(hm:X.mg "len"=none)(S:aN X Ex Y [a] as)(hg:Gl X "len":=by rfl)(ns:noStar a=true:=by rfl):SE X Ex Y (.Call (.Name "len" p) [a] [] pos) (aa fB as):=fD (zQ.or EL) Jz hg hm PySem.boot_len (by decide) (by decide) (by rw[VL,ns];rfl) S
def Rr(hm:X.mg "list"=none)(S:aN X Ex Y [a] as)(hg:Gl X "list":=by rfl)(ns:noStar a=true:=by rfl):SE X Ex Y (.Call (.Name "list" p) [a] [] pos) (aa qL as):=qb Aq JA hg hm ZV (by decide) (by decide) (by rw[VL,ns];rfl) S
def HU(hm:X.mg "tuple"=none)(S:aN X Ex Y [a] as)(hg:Gl X "tuple":=by rfl)(ns:noStar a=true:=by rfl):SE X Ex Y (.Call (.Name "tuple" p) [a] [] pos) (aa kB as):=qb oO GO hg hm PyProof.Rows.boot_tuple (by decide) (by decide) (by rw[VL,ns];rfl) S
def Pe(hm:X.mg "min"=none)(S:aN X Ex Y [a,b] as)(hc:X.calm=true:=by rfl)(hg:Gl X "min":=by rfl)(ns:noStar a=true:=by rfl)(ns2:noStar b=true:=by rfl):SE X Ex Y (.Call (.Name "min" p) [a,b] [] pos) (aa xQ as):=fD (F7 hc) Rh hg hm ZY (by decide) (by decide) (by rw[VL,VL,ns,ns2];rfl) S
def KN(hm:X.mg "min"=none)(S:aN X Ex Y [a] as)(hc:X.calm=true:=by rfl)(hg:Gl X "min":=by rfl)(ns:noStar a=true:=by rfl):SE X Ex Y (.Call (.Name "min" p) [a] [] pos) (aa qD as):=fD (E7 hc) Jw hg hm ZY (by decide) (by decide) (by rw[VL,ns];rfl) S
def K0(hm:X.mg "max"=none)(S:aN X Ex Y [a] as)(hc:X.calm=true:=by rfl)(hg:Gl X "max":=by rfl)(ns:noStar a=true:=by rfl):SE X Ex Y (.Call (.Name "max" p) [a] [] pos) (aa xR as):=fD (HM hc) Jl hg hm PyProof.Rows.boot_max (by decide) (by decide) (by rw[VL,ns];rfl) S
def QY(hm:X.mg "int"=none)(S:aN X Ex Y [a] as)(hg:Gl X "int":=by rfl)(ns:noStar a=true:=by rfl):SE X Ex Y (.Call (.Name "int" p) [a] [] pos) (aa jy as):=qb Gb EJ hg hm ZZ (by decide) (by decide) (by rw[VL,ns];rfl) S
def vB(hm:X.mg "sum"=none)(S:aN X Ex Y [a] as)(hc:X.calm=true:=by rfl)(hg:Gl X "sum":=by rfl)(ns:noStar a=true:=by rfl):SE X Ex Y (.Call (.Name "sum" p) [a] [] pos) (aa qx as):=fD (GU hc) MO hg hm PyProof.Rows.boot_sum (by decide) (by decide) (by rw[VL,ns];rfl) S
def QU(hm:X.mg "any"=none)(S:aN X Ex Y [a] as)(hc:X.calm=true:=by rfl)(hg:Gl X "any":=by rfl)(ns:noStar a=true:=by rfl):SE X Ex Y (.Call (.Name "any" p) [a] [] pos) (aa yg as):=fD (Gk hc) MW hg hm PyProof.Rows.boot_any (by decide) (by decide) (by rw[VL,ns];rfl) S
def NZ(h1:X.mg "list"=none)(h2:X.mg "range"=none)(S:aN X Ex Y [a] as)(hc:X.calm=true:=by rfl)(g1:Gl X "list":=by rfl)(g2:Gl X "range":=by rfl)(ns:noStar a=true:=by rfl):SE X Ex Y (.Call (.Name "list" p) [.Call (.Name "range" p2) [a] [] pos2] [] pos) (aa mZ as):=IF hc g1 h1 g2 h2 ns S
def cW(S:aN X Ex Y es as)(ns:es.all noStar=true:=by rfl):SE X Ex Y (.List es pos) (aa cE as):=Ow ns S
def dN{k:Nat}(S:aN X Ex Y es as)(ns:es.all noStar=true:=by rfl):SE X Ex Y (.Tuple es k pos) (aa cJ as):=Qh ns S
def TU:SE X Ex Y (.Dict [] [] pos) IP:=NG Jh JD
variable{tg:Expr}
def qW(hm:X.mg "range"=none)(S:aN X Ex Y [a] as)(hg:Gl X "range":=by rfl)(ns:noStar a=true:=by rfl):SI X Ex Y tg (.Call (.Name "range" p) [a] [] pos) (jT lH as):=RY hg hm ns S
def Vh(hm:X.mg "range"=none)(S:aN X Ex Y [a,b] as)(hg:Gl X "range":=by rfl)(ns:noStar a=true:=by rfl)(ns2:noStar b=true:=by rfl):SI X Ex Y tg (.Call (.Name "range" p) [a,b] [] pos) (jT Gi as):=Rb hg hm ns ns2 S
def DP{x1:Nat}(hm:X.mg "enumerate"=none)(h:SE X Ex Y a d)(hg:Gl X "enumerate":=by rfl)(ns:noStar a=true:=by rfl):SI X Ex Y (.Tuple elts x1 tp) (.Call (.Name "enumerate" p) [a] [] pos) (sZ d):=RM hg hm ns h
def Dl{x1:Nat}(hm:X.mg "zip"=none)(h:SE X Ex Y a d)(h2:SE X Ex Y b d2)(hg:Gl X "zip":=by rfl)(ns:noStar a=true:=by rfl)(ns2:noStar b=true:=by rfl):SI X Ex Y (.Tuple elts x1 tp) (.Call (.Name "zip" p) [a,b] [] pos) (Eu d d2):=RG hg hm ns ns2 h h2
def gN(j:Nat){i:Nat}(hN:X.N[j]?=some x:=by rfl)(hj:Y[j]?=some i:=by rfl)(hl:Loc X.env.scope x:=by first|exact Or.inl rfl|exact Or.inr rfl)(hf:X.fn x=true\/X.env.scope.names.lookup x=some .local:=by first|exact Or.inl rfl|exact Or.inr rfl):fM X Y (.Name x p) (.nm i):=.nm hN hj hl hf
def g0:jI X Y [] []:=.nil
def gC(j:Nat){i:Nat}(t:jI X Y ts is)(hN:X.N[j]?=some x:=by rfl)(hj:Y[j]?=some i:=by rfl)(hl:Loc X.env.scope x:=by first|exact Or.inl rfl|exact Or.inr rfl)(hf:X.fn x=true\/X.env.scope.names.lookup x=some .local:=by first|exact Or.inl rfl|exact Or.inr rfl):jI X Y (.Name x p::ts) (i::is):=.cons hN hj hl hf t
def gT{k:Nat}(t:jI X Y ts is):fM X Y (.Tuple ts k p) (.tp is):=.tp t
def uy:Passes (fh X.prog X.w) X E0:=by rintro pins U H s e s' I⟨_,_,_,_,_,_,_,_,_,_,_,_,_,_,_,z⟩;exact z.elim
def aQ{k k':Nat}(F:bZ X.prog X.w X.K X.mg X.base k x ps (cF X.mg X.K ms sp))(hp:Passes (fh X.prog X.w) X Ex)(hr:dM k' X.A)(S:aN X Ex Y (e::es) as)(hk:k<=k':=by decide)(hg:Gl X x:=by rfl)(hd:(x==("__debug__":Str))=false:=by decide)(ns:(e::es).all noStar=true:=by rfl):SE X Ex Y (.Call (.Name x p) (e::es) [] pos) (aJ sp ms as):=MX F hp (hr.mono hk) hg hd ns S
def cC(h:SE X Ex (aO X) a d):S1 X Ex (.Return (some a) pos) (bY d):=Sf h
def lN(i:Nat)(hN:X.N[i]?=some x:=by rfl)(hv:fX X.env.scope x:=by nofun)(hd:(x==("__debug__":Str))=false:=by decide)(hcd:(x==("__classdict__":Str))=false:=by decide):S1 X Ex (.Return (some (.Name x p)) pos) (iM i):=N2 (cL hN hv hd hcd) (aS hN)
def dB(h:SE X Ex (aO X) a d)(hs:swapsWith a none pos.line X.env=pure false:=by rfl):S1 X Ex (.Expr a pos) (cK d):=Nq h hs
def aL(i:Nat)(hN:X.N.Nodup)(h:SE X Ex (aO X) a d)(hi:X.N[i]?=some x:=by rfl)(hl:Loc X.env.scope x:=by first|exact Or.inl rfl|exact Or.inr rfl)(hs:swapsWith a (some (.Name x p)) pos.line X.env=pure false:=by rfl)(hf:X.fn x=true\/X.env.scope.names.lookup x=some .local:=by first|exact Or.inl rfl|exact Or.inr rfl) : S1 X Ex (.Assign [.Name x p] a pos) (aB i d):=Rv hN hi hl hs hf h
def x9{k:Nat}(hN:X.N.Nodup)(ht:jI X (aO X) ts is)(h:SE X Ex (aO X) a d)(hc:X.calm=true:=by rfl)(hs:swapsWithSole [.Tuple ts k p] a pos.line X.env=pure false:=by rfl)(hw:swappedStores [.Tuple ts k p] a X.env=pure none:=by rfl):S1 X Ex (.Assign [.Tuple ts k p] a pos) (qv is d):=RK hc hN ht hs hw h
def yX(i:Nat)(hu:X.A.units+64<cLine)(hd:SE X Ex (aO X) a de)(hd2:SE X Ex (aO X) b dj)(hN:X.N[i]?=some x:=by rfl)(hv:fX X.env.scope x:=by nofun)(hs:swapsWithSole [.Subscript (.Name x p) b pos'] a pos.line X.env=pure false:=by rfl)
  (ha:∀v,assign (.Subscript (.Name x p) b pos') X.env v=(do
   let ov <-holding [v] (eval (.Name x p) X.env)
   let iv <-holding [v,ov] (eval b X.env)
   standAt pos'
   holding [v,ov,iv] (setItem ov iv v)
   release [v,ov,iv] []):=by intro _;rfl)(hb:(x==("__debug__":Str))=false:=by decide)(hcd:(x==("__classdict__":Str))=false:=by decide):S1 X Ex (.Assign [.Subscript (.Name x p) b pos'] a pos) (iH i dj de):=RQ hu (cL hN hv hb hcd) (fc (aS hN)) hs ha hd hd2
def fT(hc:ST X Ex (aO X) a t)(ha:SS X Ex u d)(hb:SS X Ex v e):S1 X Ex (.If a u v pos) (cG t d e):=Tw hc ha hb
def GW(hp:PassesOwn (model X.prog X.w) X.A X.env X.xe)(hc:ST X Ex (aO X) a t)(hb:SS X Ex u d):S1 X Ex (.While a u [] pos) (pK t d):=LG hp hc hb
def fP(hp:PassesOwn (model X.prog X.w) X.A X.env X.xe)(hN:X.N.Nodup)(hi:SI X Ex (aO X) tg a di)(ht:fM X (aO X) tg t)(hb:SS X Ex u d)(hc:X.calm=true:=by rfl)(hs:∀x,foldedSetIterable a X.env x=pure x:=by intro _;rfl):S1 X Ex (.For tg a u [] pos) (eK di t d):=RU hp hc hN hi ht hb hs
def e0:qV X Ex Y [] []:=.nil
def eC(h:SE X Ex Y e d)(t:qV X Ex Y es ds):qV X Ex Y (e::es) (d::ds):=.cons h t
def xM(j:Nat){i:Nat}{x name:Str}{id:String}{p apos cpos:Pos}{es:A03}{ds:List DE}{f:DM}{r:V->List V->Hp->VK->Prop}(hm:tL X id r)(D:wz X.K f r)(slot:Slot "list" name id)(hty:typeOf (.builtin id)=pure (.type "method_descriptor"))(S:qV X Ex Y es ds)(hN:X.N[j]?=some x:=by rfl)(hv:fX X.env.scope x:=by nofun)(hj:Y[j]?=some i:=by rfl)(ns:es.all noStar=true:=by rfl)(l30:decide (es.length<30)=true:=by rfl)(hline:(apos.endLine==cpos.line)=true:=by rfl)(hd:(x==("__debug__":Str))=false:=by decide)(hcd:(x==("__classdict__":Str))=false:=by decide):SE X Ex Y (.Call (.Attribute (.Name x p) name apos) es [] cpos) (jR f i ds):=Ss hm D slot hty (cL hN hv hd hcd) hj ns (WA l30) hline S
def lu:A05->Bool
 |[]=>true
 |a::r=>!r.contains a&&lu r
theorem iw:∀{l:A05},lu l=true->l.Nodup
 |[],_=>WU
 |a::r,h=>by rw[lu,VB,ZW,Y8,decide_eq_false_iff_not]at h;exact WB.mpr ⟨h.1,iw h.2⟩
def vH (Y cs ix:A05)(vs:A07)(sl:A05):Bool:=(cs.length==vs.length)&&ix.all (λi=>Nat.blt i Y.length)&&cs.all (λc=>!Y.contains c)&&lu (bI Y cs ix)&&sl.all (λi=>cs.contains i)
def uL(h:vH Y cs ix vs sl=true):cs.length=vs.length/\(∀i∈ix,i<Y.length)/\(∀c∈cs,c∉Y)/\(bI Y cs ix).Nodup/\∀i∈sl,i∈cs:=by unfold vH at h;rw[VB,VB,VB,VB,VW,VW,VW,beq_iff_eq]at h;obtain⟨⟨⟨⟨h1,h2⟩,h3⟩,h4⟩,h5⟩:=h;refine⟨h1,λi hi=>by simpa using h2 i hi,λc hc z=>?_,iw h4,λi hi=>?_⟩;{have:=h3 c hc;rw[ZW,Y8,decide_eq_false_iff_not]at this;exact this z};have:=h5 i hi;rw[Y8,XD]at this;exact this
def Qx (r:Zo):Bool:=r.all λg=>g.is_async==0
def FZ(h:Qx r=true):∀g∈r,g.is_async=0:=λg hg=>by have:=VW.mp h g hg;simpa using this
variable{cs:A05}{elt iter:Expr}{ifs:A03}{scope:Scope}
def lz{rest:Zo}{vs NB:A07}{ix:A05}{di:DI}{t:Tg}{c:DT}{r:DC}(B:j6 X.N X.env.scope scope vs NB ix=true)(hi:SI X Ex Y tg iter di)(ht:∀(C:Addr)(s:Shared)(H:Hp)(fp:A01),fM (X.block scope C NB s H fp) (bI Y cs ix) tg t)(hif:∀(C:Addr)(s:Shared)(H:Hp)(fp:A01),kH (X.block scope C NB s H fp) E0 (bI Y cs ix) ifs c)(hr:∀(C:Addr)(s:Shared)(H:Hp)(fp:A01)(D:Addr),SL (X.block scope C NB s H fp) (bI Y cs ix) cs D elt (⟨tg,iter,ifs,0⟩::rest) scope pos 1 r)(hc:X.calm=true:=by rfl)(ck:vH Y cs ix vs t.slots=true:=by rfl)(ha:Qx rest=true:=by rfl)(hs:∀v,foldedSetIterable iter X.env v=pure v:=by intro _;rfl):SE X Ex Y (.ListComp elt (⟨tg,iter,ifs,0⟩::rest) scope pos) (cz cs di t c r):=
 let⟨h1,h2,h3,h4,h5⟩:=uL ck
 Qd (bS.of B) hc h1 h2 h3 h4 hi ht h5 hif hr (FZ ha) hs
def we{j:Nat}{y:Str}{py spos:Pos}{rest:Zo}{vs NB:A07}{ix:A05}{di:DI}{t:Tg}{c:DT}{r:DC}(hN:X.N.Nodup)(B:j6 X.N X.env.scope scope vs NB ix=true)(hi:SI X Ex (aO X) tg iter di)(ht:∀(C:Addr)(s:Shared)(H:Hp)(fp:A01),fM (X.block scope C NB s H fp) (bI (aO X) cs ix) tg t)(hif:∀(C:Addr)(s:Shared)(H:Hp)(fp:A01),kH (X.block scope C NB s H fp) E0 (bI (aO X) cs ix) ifs c)(hr:∀(C:Addr)(s:Shared)(H:Hp)(fp:A01)(D:Addr),SL (X.block scope C NB s H fp) (bI (aO X) cs ix) cs D elt (⟨tg,iter,ifs,0⟩::rest) scope pos 1 r)(hj:X.N[j]?=some y:=by rfl)(hy:X.env.scope.names.lookup y=some .local:=by rfl)(hsw:swapsWith (.ListComp elt (⟨tg,iter,ifs,0⟩::rest) scope pos) (some (.Name y py)) spos.line X.env=pure true:=by rfl)(hc:X.calm=true:=by rfl)(ck:vH (aO X) cs ix vs t.slots=true:=by rfl)(ha:Qx rest=true:=by rfl)(hs:∀v,foldedSetIterable iter X.env v=pure v:=by intro _;rfl):S1 X Ex (.Assign [.Name y py] (.ListComp elt (⟨tg,iter,ifs,0⟩::rest) scope pos) spos) (aB j (cz cs di t c r)):=
 let⟨h1,h2,h3,h4,h5⟩:=uL ck
 RW hN hj hy (bS.of B) hc h1 h2 h3 h4 hi ht h5 hif hr (FZ ha) hs hsw
def dY{D:Addr}{k:Nat}(h:SE X E0 Y elt d)(hk:gens[k]?=none:=by rfl):SL X Y cs D elt gens scope pos k (cB sizeLine d):=MH h hk
def wj:PyData->Option String
 |.none=>some "NoneType"
 |.bool _=>some "bool"
 |.int _=>some "int"
 |.str _=>some "str"
 |.list _=>some "list"
 |.tuple _=>some "tuple"
 |.dict _=>none
def i7 (c t:String):Bool:=t==c||(c == "int" && t == "bool")
def Bf (c:String):DR:=λds P=>match ds with
 |[d]=>aA (wj d) λt=>P .sh (.bool (i7 c t))
 |_=>False
def tys:List String:=["NoneType","bool","int","str","list","tuple"]
def yi (K:Frag)(cs:List String):Bool:=cs.all λc=>tys.all λt=>kitOne K (.type t) (.type c)==some (i7 c t)
def QO{K:Frag}{cs:List String}(h:yi K cs=true){c t:String}(hc:c∈cs)(ht:t∈tys):kitOne K (.type t) (.type c)=some (i7 c t):=by have:=VW.mp (VW.mp h c hc) t ht;simpa using this
def Rq(s:ah Hm H)(r:Rp K Hm v d)(h:wj d=some t):gG K H v (.type t)/\t∈tys:=by
 cases r with
 |aW=>cases h;exact⟨.aW,by decide⟩
 |bl b=>cases h;exact⟨.bl b,by decide⟩
 |int i=>cases h;exact⟨.int i,by decide⟩
 |str x=>cases h;exact⟨.str x,by decide⟩
 |lst a _=>cases h;refine⟨?_,by decide⟩;rcases a with (a|⟨o,a⟩)|⟨its,n,a,_⟩;{exact .lst (s _ _ a)};{exact .cZ (s _ _ a)};exact .kl a
 |tup a _=>cases h;exact⟨.tup (s _ _ a),by decide⟩
 |dk _ _=>cases h
 |dt _ _=>cases h
 |exc _ _=>cases h
 |pd _ _ _=>cases h
def QT{css:List String}(kf:yi X.K css=true)(hc:css.contains c=true)(hm:X.mg "isinstance"=none)(hm2:X.mg x=none)(hv:bootBuiltins x=some (.type c))(hg:Gl X "isinstance")(hg2:Gl X x)(hn:x≠"__name__")(hd:(x==("__debug__":Str))=false)(ns:noStar a=true)(S:aN X Ex Y [a] as) : SE X Ex Y (.Call (.Name "isinstance" p) [a,.Name x p2] [] pos) (aa (Bf c) as):=by refine gk (r:=λvs H Q=>∃v t,vs=[v]/\gG X.K H v (.type t)/\t∈tys/\Q (.bl (i7 c t)) H) S (λU H Q h=>WE.of (Ad Il hg hm PyProof.Rows.boot_isinstance (iu bf (iu (Mm (v:=.ty c) hg2 hm2 hv rfl hn hd) nk) (aR ns)) (by decide) (by decide) (aR ns) (by rfl)) ?_) ?_;{refine λpins s I=>aH (h pins s I) λv s1 ⟨y,H1,I1,r1,w,t,e,ty,ht,q⟩=>⟨y,H1,I1,r1,?_⟩;cases e;refine⟨_,_,_,_,rfl,ty,λu hu=>?_,q⟩;cases hu;exact QO kf (by simpa using hc) ht};intro H Hm vs ds P Q s r h q;unfold Bf at h;split at h;{obtain⟨v,rfl,h1⟩:=dH r;rw[<-aX]at h;obtain⟨t,e,h⟩:=h;obtain⟨ty,ht⟩:=Rq s h1 e;exact⟨v,t,rfl,ty,ht,bO.sc q s h (.bl _)⟩};exact h.elim
def N4(kf:yi X.K css=true)(hm:X.mg "isinstance"=none)(hm2:X.mg x=none)(hv:bootBuiltins x=some (.type c))(S:aN X Ex Y [a] as)(hc:css.contains c=true:=by decide)(hg:Gl X "isinstance":=by rfl)(hg2:Gl X x:=by rfl)(hn:x≠"__name__":=by decide)(hd:(x==("__debug__":Str))=false:=by decide)(ns:noStar a=true:=by rfl) : SE X Ex Y (.Call (.Name "isinstance" p) [a,.Name x p2] [] pos) (aa (Bf c) as):=QT kf hc hm hm2 hv hg hg2 hn hd ns S
open Classical in
def Gh.gU (g:Gh)(H:Hp)(fp:A01):Gh:=⟨λa=>if a∈fp then H a else g.H0 a,λa=>if a∈fp then none else g.eu a,g.pins⟩
end
section
variable{K:Frag}{g:Gh}{E:En}{U:St}{H H' Hm Hm':Hp}{F:Nat->A01}{fp:A01}
def mG{a:Addr}(h:a∈fp):(g.gU H fp).H0 a=H a:=by unfold Gh.gU;exact if_pos h
def gX{a:Addr}(h:a∉fp):(g.gU H fp).H0 a=g.H0 a:=by unfold Gh.gU;exact if_neg h
def GN{a:Addr}(h:a∈fp):(g.gU H fp).eu a=none:=by unfold Gh.gU;exact if_pos h
def AR{a:Addr}(h:a∉fp):(g.gU H fp).eu a=g.eu a:=by unfold Gh.gU;exact if_neg h
structure oN(g:Gh)(F:Nat->A01)(H Hm:Hp)(fp:A01):Prop where
 A8:∀a∈fp,∃u,H a=some u/\oU u
 off:∀a∈fp,Hm a=none
 aF:∀a∈fp,∀i,a∉F i
 new:∀a∈fp,g.H0 a=none
def oN.bu(A:oN g F H Hm fp):∀a∈fp,H a≠none:=λa ha z=>by obtain⟨u,hu,_⟩:=A.A8 a ha;rw[z]at hu;cases hu
def oN.notM(A:oN g F H Hm fp)(R:Rl K g E U H Hm F):∀a∈fp,a∉g.M:=λa ha m=>by obtain⟨q,hq,rfl⟩:=V5.mp m;exact A.aF _ ha q.1 (by rw[R.zc hq];exact V3)
theorem Rl.gU(R:Rl K g E U H Hm F)(A:oN g F H Hm fp):Rl K (g.gU H fp) E U H Hm F where
 len:=R.len
 sub:=R.sub
 slot:=R.slot
 off:=R.off
 bu:=R.bu
 aF:=R.aF
 fr:=λp o hp ho=>by
  by_cases c:p∈fp
  .rw[mG c]at ho;exact ho
  .rw[gX c]at ho;exact R.fr p o hp ho
 new:=λi a ha=>by
  have c:a∉fp:=λz=>A.aF a z i ha
  rw[gX c];exact R.new i a ha
 pin:=R.pin
 old:=λa ha=>by
  by_cases c:a∈fp
  .rw[GN c];exact .inl (A.off a c)
  .rw[gX c]at ha;rw[AR c];exact R.old a ha
def Rl.yf{F':Nat->A01}(A:oN g F H Hm fp)(nM:∀a∈fp,a∉g.M)(R:Rl K (g.gU H fp) E' σ' H' Hm' F'):Rl K g E' σ' H' Hm' F'/\oN g F' H' Hm' fp/\∀a∈fp,H' a=H a:=by
 have keep:∀a∈fp,H' a=H a:=λa ha=>by
  cases e:H a with
  |none=>exact absurd e (A.bu a ha)
  |some o=>exact R.fr a o (nM a ha) (by rw[mG ha];exact e)
 refine⟨?_,⟨λa ha=>by rw[keep a ha];exact A.A8 a ha,λa ha=>?_,λa ha i z=>?_,A.new⟩,keep⟩
 .exact {
   len:=R.len
   sub:=R.sub
   slot:=R.slot
   off:=R.off
   bu:=R.bu
   aF:=R.aF
   fr:=λp o hp ho=>by
    have c:p∉fp:=λz=>by rw[A.new p z]at ho;cases ho
    exact R.fr p o hp (by rw[gX c];exact ho)
   new:=λi a ha=>by
    rcases R.new i a ha with m|m
    .exact .inl m
    .by_cases c:a∈fp
     .exact .inr (A.new a c)
     .rw[gX c]at m;exact .inr m
   pin:=R.pin
   old:=λa ha=>by
    have c:a∉fp:=λz=>ha (A.new a z)
    have h':=R.old a (by rw[gX c];exact ha)
    rw[AR c]at h';exact h' }
 .have h':=R.old a (by rw[mG ha];exact A.bu a ha);obtain⟨u,hu,nt⟩:=A.A8 a ha;exact h'.off (GN ha) R.sub (by rw[keep a ha];exact hu) nt
 rcases R.new i a z with m|m;{exact nM a ha m};rw[mG ha]at m;exact A.bu a ha m
def eU.snoc{b:Addr}(e:H b=some (.lst ys))(r:ay K Hm ys es)(i:eU K H Hm xs ds fp):b∉fp->eU K H Hm (xs++[.ref b]) (ds++[.list es]) (fp++[b]):=by
 induction i with
 |nil=>exact λn=>.own e r n .nil
 |kJ h1 h2 t ih=>exact λn=>.kJ h1 h2 (ih n)
 |own h1 h2 h3 t ih=>intro n;refine .own h1 h2 (λz=>?_) (ih λz=>n (V8 _ z));rcases VU.mp z with z|z;{exact h3 z};exact n (V6.mp z▸V3)
theorem eU.get:∀{xs:List V}{ds:Zy}{fp:A01}{m:Nat},eU K H Hm xs ds fp->ds[m]?=some (.list es)->∃b ys,xs[m]?=some (.ref b)/\H b=some (.lst ys)/\ay K Hm ys es/\b∈fp
 |_,_,_,_,.nil,h=>by simp at h
 |_,_,_,0,.kJ e _ _,h=>by simp at h;rw[h]at e;cases e
 |_,_,_,m+1,.kJ _ _ t,h=>t.get (m:=m) (by simpa using h)
 |_,_,_,0,.own e r _ _,h=>by simp at h;subst h;exact⟨_,_,rfl,e,r,V3⟩
 |_,_,_,m+1,.own _ _ _ t,h=>by obtain⟨b,ys,h1,h2,h3,h4⟩:=t.get (m:=m) (by simpa using h);exact⟨b,ys,h1,h2,h3,V8 _ h4⟩
theorem eU.put{b:Addr}(r:ay K Hm ys new):∀{xs:List V}{ds:Zy}{fp:A01}{m:Nat},eU K H Hm xs ds fp->xs[m]?=some (.ref b)->(∃es,ds[m]?=some (.list es))->eU K (upd H b (.lst ys)) Hm xs (ds.set m (.list new)) fp
 |_,_,_,_,.nil,h,_=>by simp at h
 |_,_,_,0,.kJ e _ _,_,⟨es,h⟩=>by simp at h;rw[h]at e;cases e
 |_,_,_,m+1,.kJ e h2 t,h,⟨es,h'⟩=>.kJ e h2 (t.put (m:=m) r (by simpa using h) ⟨es,by simpa using h'⟩)
 |_,_,_,0,.own (b:=b') e r' n t,h,_=>by simp at h;subst h;exact .own av r n (t.step (ah.refl _) λa ha=>ai λz=>n (z▸ha))
 |_,_,_,m+1,.own (b:=b') (fp:=fp) e r' n t,h,⟨es,h'⟩=>by have h:_:=h;obtain⟨b2,ys2,g1,g2,g3,g4⟩:=t.get (m:=m) (es:=es) (by simpa using h');simp at h;rw[h]at g1;cases g1;refine .own (by rw[ai (show b'≠b from λz=>n (by rw[z];exact g4))];exact e) r' n (t.put (m:=m) r h ⟨es,by simpa using h'⟩)
def Rl.Pj(R:Rl K g E U H Hm F){i:Nat}{b:Addr}(e:E[i]?=some (some (k,d)))(hv:U[i]?=some (some v))(hb:b∈F i)(new:Own K (upd H b o) Hm k v d' (F i))(nt:oU o)(hp:k=.ow true->∃ds,d'=.list ds) : Rl K g (E.set i (some (k,d'))) U (upd H b o) Hm F:=by
 have na:=R.off i b hb;have up:∀c,c≠b->upd H b o c=H c:=λc hc=>ai hc;have li:=aS e;exact {
  len:=by rw[VY];exact R.len
  sub:=λc u hc=>by
   have:c≠b:=λz=>by rw[z,na]at hc;cases hc
   rw[up c this];exact R.sub c u hc
  slot:=λj k' d'' e'=>by
   by_cases c:j=i
   .subst c;rw[aD li]at e';cases e';exact⟨_,hv,new⟩
   .rw[ak (Ne.symm c)]at e';obtain⟨u,g1,g2⟩:=R.slot j k' d'' e';refine⟨u,g1,g2.step (ah.refl _) λa ha=>up a λz=>c (R.aF j i b (z▸ha) hb)⟩
  off:=R.off
  bu:=λj a ha=>by
   by_cases c:a=b
   .rw[c];exact⟨_,av,nt⟩
   .rw[up a c];exact R.bu j a ha
  aF:=R.aF
  fr:=λq u hq ho=>by
   have:q≠b:=λz=>by
    rcases R.new i b hb with y|y
    .exact hq (z▸y)
    .rw[z,y]at ho;cases ho
   rw[up q this];exact R.fr q u hq ho
  new:=R.new
  pin:=λq hq=>by
   obtain⟨g1,ds',g2⟩:=R.pin q hq
   by_cases c:i=q.1
   .rw[<-c]at g1 g2⊢;rw[e]at g2;cases g2;obtain⟨ds,rfl⟩:=hp rfl;exact⟨g1,ds,aD li⟩
   .exact⟨g1,ds',by rw[ak c];exact g2⟩
  old:=R.old }
def LA(h:cO t d E=some E'):E'.length=E.length:=by
 have go:∀{is:A05}{ds:Zy}{E E':En},bw is ds E=some E'->E'.length=E.length:=by
  intro is;induction is with
  |nil=>intro ds E E' h;cases ds with|nil=>cases h;rfl|cons _ _=>cases h
  |cons j is ih=>
   intro ds E E' h;cases ds with
   |nil=>cases h
   |cons d ds=>rw[bw]at h;by_cases o:bL E j=true;{rw[if_pos o]at h;rw[ih h,VY]};rw[if_neg o]at h;cases h
 cases t with
 |nm j=>exact go (is:=[j]) h
 |tp js=>
  cases d with
  |tuple ds=>exact go (is:=js) h
  |_=>cases h
 |nt j js=>obtain⟨a,ds,rfl,h⟩:=qN h;exact go (is:=j::js) h
end
variable{X:Cx}{Ex:XK}{Y cs:A05}{elt tg iter:Expr}{ifs:A03}{scope:Scope}{pos:Pos}
def I0{vs:A07}{t:Tg}(B:bS X scope vs NB ix)(hc:X.calm=true)(hcs:cs.length=vs.length)(hix:∀i∈ix,i<Y.length)(aF:∀c∈cs,c∉Y)(nd:(bI Y cs ix).Nodup)(hi:SI X Ex Y tg iter di)(ht:∀(C:Addr)(s:Shared)(H:Hp)(fp:A01),fM (X.block scope C NB s H fp) (bI Y cs ix) tg t)(hts:∀i∈t.slots,i∈cs)(hif:∀(C:Addr)(s:Shared)(H:Hp)(fp:A01),kH (X.block scope C NB s H fp) E0 (bI Y cs ix) ifs c)(hr:∀(C:Addr)(s:Shared)(H:Hp)(fp:A01),SE (X.block scope C NB s H fp) E0 (bI Y cs ix) elt e)(hs:∀v,foldedSetIterable iter X.env v=pure v){w:(V->Hp->Prop)->St->Hp->Prop}(hw:∀{wi:TI}{G:TG}{tt:TT}{tr:TL}{U:St}{H:Hp}{Q:VK},PI X tg iter wi->(∀(C:Addr)(s:Shared)(H:Hp)(fp:A01),PG (X.block scope C NB s H fp) tg G)->(∀(C:Addr)(s:Shared)(H:Hp)(fp:A01),w4 (X.block scope C NB s H fp) ifs tt)-> (∀(C:Addr)(s:Shared)(H:Hp)(fp:A01)(D:Addr),PL (X.block scope C NB s H fp) D elt (⟨tg,iter,ifs,0⟩::[]) scope pos 1 tr)->tT wi vs.length ix G tt tr U H Q->w Q U H)(g:Gh)(x:XC)(E:En)(U:St)(H Hm:Hp)(F:Nat->A01)(P:En->Kd->PyData->Prop)(Q:VK)(hx:XL X Ex x g)(R:Rl X.K g E U H Hm F)(p:pW sizeLine cs di t c e x E P)(q:∀E' k v u H' Hm' F' fp,P E' k v->Rl X.K g E' U H' Hm' F'->ah Hm Hm'->Tm X.K g F' H' Hm' k u v fp->Q u H'):w Q (sel Y U) H:=by
 obtain⟨wi,hpi,hwi⟩:=hi;refine hw (wi:=wi) (G:=λv U H Q=>∀(C:Addr)(s:Shared)(H2:Hp)(fp:A01),WG (X.block scope C NB s H2 fp) tg v U H Q) (tt:=λU H Q=>∀(C:Addr)(s:Shared)(H2:Hp)(fp:A01),zR (X.block scope C NB s H2 fp) ifs U H Q)
  (tr:=K8 λU H Q=>∀(C:Addr)(s:Shared)(H2:Hp)(fp:A01),WE (X.block scope C NB s H2 fp) elt U H Q) hpi (λC s H2 fp pins s' U H v u Q I r h=>h C s H2 fp pins s' u I r) (λC s H2 fp pins s' U H Q I h=>h C s H2 fp pins s' I)
  (λC s H2 fp D=>Cs (λpins s' U H Q I h=>h C s H2 fp pins s' I)) ?_
 refine hwi g x E U H Hm F _ _ hx R p λE1 xs J H1 Hm1 F1 p1 R1 s1 it1=>?_;obtain⟨E0',I,hcl,i0,step,fin⟩:=p1;obtain⟨σ0,F0,R0,a0,n0⟩:=R1.br hcl;rw[<-hcs,vS hix aF a0 λc hc=>(n0 c hc).1];refine⟨λi m ys τ H'=>m=xs.length-i/\i<=xs.length/\∃E' dys' σ' Hm' F' fp,I i dys' E'/\Rl X.K g E' σ' H' Hm' F'/\ah Hm1 Hm'/\eU X.K H' Hm' ys dys' fp/\oN g F' H' Hm' fp/\Agree cs σ0 σ'/\τ=sel (bI Y cs ix) σ',
  ⟨xs.length,by simp,W3 _,E0',[],σ0,Hm1,F0,[],i0,R0,ah.refl _,.nil,⟨(λ_ z=>by cases z),(λ_ z=>by cases z),(λ_ z=>by cases z),λ_ z=>by cases z⟩,Agree.refl _ _,rfl⟩,?_⟩
 rintro i m ys τ H2⟨rfl,hi,E2,dys2,σ2,Hm2,F2,fp,i2,R2,s2,r2,A2,a2,rfl⟩;obtain⟨go,stop⟩:=it1 i H2 Hm2 s2 R2.sub;by_cases c':i<xs.length
 .obtain⟨go,mJ⟩:=go xs[i] (VG c');refine .inr ⟨go,λys τ H'=>i+1<=xs.length/\∃E' dys' σ' Hm' F' fp,I (i+1) dys' E'/\Rl X.K g E' σ' H' Hm' F'/\ah Hm1 Hm'/\eU X.K H' Hm' ys dys' fp/\oN g F' H' Hm' fp/\Agree cs σ0 σ'/\τ=sel (bI Y cs ix) σ',λys τ H' z=>⟨xs.length-(i+1),by lia,rfl,z⟩,λx H3 y C s H9 fp9=>?_⟩;obtain⟨Hm3,t1,t2,t3,old,rx⟩:=mJ x H3 y;have R3:=R2.turn t1 t2 t3 old;have k3:∀a∈fp,H3 a=H2 a:=λa ha=>by
   cases e:H2 a with
   |none=>exact absurd e (A2.bu a ha)
   |some o=>exact t3 _ _ e
  have A3:oN g F2 H3 Hm3 fp:=⟨λa ha=>by rw[k3 a ha];exact A2.A8 a ha,λa ha=>by
   obtain⟨u,hu,nt⟩:=A2.A8 a ha;exact(old a (A2.bu a ha)).off (A2.off a ha) t2 (t3 _ _ hu) nt,A2.aF,A2.new⟩
  have r3:=r2.step (H':=H3) t1 k3;have nM:=A3.notM R3;obtain⟨E4,e4,p4⟩:=step i xs[i] dys2 E2 (VG c') i2;obtain⟨G,g1,g2⟩:=tQ (X:=X.block scope C NB s H9 fp9) hc B.nd nd (ht C s H9 fp9);refine WG.of g1 (g2 (g:=g.gU H3 fp) e4 rx (R3.gU A3) λσ4 F4 R4 ag=>?_);have a4:Agree cs σ0 σ4:=a2.trans ⟨by rw[<-R3.len,<-R4.len,LA e4],λj hj=>ag j λz=>hj (hts j z)⟩;intro C2 s2' H92 fp92;refine(hif C2 s2' H92 fp92).ok XL.no R4 p4 λE5 b H5 Hm5 F5 p5 R5 s5=>?_;cases b with
  |true=>
   refine nJ λC3 s3' H93 fp93=>?_;refine hr C3 s3' H93 fp93 (g.gU H3 fp) xF E5 σ4 H5 Hm5 F5 _ _ XL.no R5 (by rw[if_pos rfl]at p5;exact p5) λE6 k6 v6 u6 H6 Hm6 F6 fp6 p6 R6 s6 T6=>?_;obtain⟨⟨pb,rfl⟩,hl,p6⟩:=p6;obtain⟨R6',A6,k6⟩:=Rl.yf A3 nM R6;have T1:=T6.own;have hlen:ys.length=dys2.length:=by
    have:∀{xs:List V}{ds:Zy}{fp:A01}{H Hm:Hp},eU X.K H Hm xs ds fp->xs.length=ds.length:=by
     intro xs ds fp H Hm h;induction h with
     |nil=>rfl
     |kJ _ _ _ ih=>rw[VR,VR,ih]
     |own _ _ _ _ ih=>rw[VR,VR,ih]
    exact this r2
   cases T1 with
   |@ow _ b zs es hb rz=>
    have nb:b∉fp:=λz=>by have:=T6.new b V3;rw[mG z]at this;exact A3.bu b z this
    have r6:=(r3.step (H':=H6) (s5.trans s6) k6).snoc hb rz nb;refine⟨by rw[hlen];exact hl,c',E6,_,σ4,Hm6,F6,fp++[b],p6,R6',s2.trans (t1.trans (s5.trans s6)),r6,⟨λa ha=>?_,λa ha=>?_,λa ha=>?_,λa ha=>?_⟩,a4,rfl⟩;{rcases VU.mp ha with ha|ha;{exact A6.A8 a ha};rw[V6.mp ha];exact⟨_,hb,lO⟩};{rcases VU.mp ha with ha|ha;{exact A6.off a ha};rw[V6.mp ha];exact T6.off b V3};{rcases VU.mp ha with ha|ha;{exact A6.aF a ha};rw[V6.mp ha];exact T6.aF b V3};rcases VU.mp ha with ha|ha;{exact A6.new a ha};rw[V6.mp ha];have:=T6.new b V3;rw[gX nb]at this;exact this
  |false=>obtain⟨R5',A5,k5⟩:=Rl.yf A3 nM R5;exact nP ⟨c',E5,dys2,σ4,Hm5,F5,fp,by simpa using p5,R5',s2.trans (t1.trans s5),r3.step (H':=H5) s5 k5,A5,a4,rfl⟩
 have e:i=xs.length:=by lia
 subst e;refine .inl ⟨stop (V4 _),λp hp=>?_⟩;obtain⟨E3,hcl2,p2⟩:=fin _ _ i2;obtain⟨σ3,F3,R3p,a3,n3⟩:=(R2.gU A2).br hcl2;obtain⟨R3,A3,_⟩:=Rl.yf A2 (A2.notM R2) R3p;have R3':=R3.agree (cs:=cs) ((a0.trans a2).trans a3).symm λc hc=>(n3 c hc).2;have s3:=bQ (o:=.lst ys) hp;have R4:=R3'.grow (H':=upd H2 p (.lst ys)) s3 (ah.refl _) (R3'.sub.trans s3) (λi a ha=>R3'.off i a ha) λ_ _=>.inl rfl;have np:p∉fp:=λz=>A2.bu p z hp;refine q _ _ _ _ _ Hm2 F3 (p::fp) p2 R4 (s1.trans s2) ⟨.dp av np (r2.step (H':=upd H2 p (.lst ys)) (ah.refl _) λa ha=>ai λz=>np (z▸ha)),λa ha=>?_,λa ha i=>?_,λa ha=>?_⟩;{rcases VF.mp ha with rfl|ha;{exact R3'.qp hp};exact A2.off a ha};{rcases VF.mp ha with rfl|ha;{exact R3'.fresh hp};exact A3.aF a ha i};rcases VF.mp ha with rfl|ha;{exact R3'.fH hp};exact A2.new a ha
def UA{j:Nat}(hN:X.N.Nodup)(B:j6 X.N X.env.scope scope vs NB ix=true)(hi:SI X Ex (aO X) tg iter di)(ht:∀(C:Addr)(s:Shared)(H:Hp)(fp:A01),fM (X.block scope C NB s H fp) (bI (aO X) cs ix) tg t)(hif:∀(C:Addr)(s:Shared)(H:Hp)(fp:A01),kH (X.block scope C NB s H fp) E0 (bI (aO X) cs ix) ifs c)(hr:∀(C:Addr)(s:Shared)(H:Hp)(fp:A01),SE (X.block scope C NB s H fp) E0 (bI (aO X) cs ix) elt e)(hj:X.N[j]?=some y:=by rfl)(hy:X.env.scope.names.lookup y=some .local:=by rfl)(hsw:swapsWith (.ListComp elt [⟨tg,iter,ifs,0⟩] scope pos) (some (.Name y py)) spos.line X.env=pure true:=by rfl)(hc:X.calm=true:=by rfl)(ck:vH (aO X) cs ix vs t.slots=true:=by rfl)(hs:∀v,foldedSetIterable iter X.env v=pure v:=by intro _;rfl):S1 X Ex (.Assign [.Name y py] (.ListComp elt [⟨tg,iter,ifs,0⟩] scope pos) spos) (aB j (pW sizeLine cs di t c e)):=by
 obtain⟨h1,h2,h3,h4,h5⟩:=uL ck;have B':bS X scope vs NB ix:=bS.of B;have ha:∀g∈([]:Zo),g.is_async=0:=λ_ z=>by cases z
 rw[qJ];intro g D' E U H Hm F D hx R p nx rt;refine I0 B' hc h1 h2 h3 h4 hi ht h5 hif hr hs (w:=λQ τ H=>(Q=λu H1=>D.nx (τ.set j (some u)) H1)->WS X (.Assign [.Name y py] (.ListComp elt [⟨tg,iter,ifs,0⟩] scope pos) spos) D τ H)
  (λg1 g2 g3 g4 g5 e=>by
   subst e;exact WS.of (yo hN hj hy B' hc g1 g2 g3 g4 hsw ha hs) g5) g D'.xc E U H Hm F _ _ hx R p (λE' k v u H' Hm' F' fp p' R' s' T=>?_) rfl
 rw[ji Wi (fc (aS hj)) (R'.len▸gw p'.1)];exact nx _ _ _ _ _ p'.2 (R'.put T p'.1) s'
def IB{i n:Nat}(h:dm E n=some E')(ne:i≠n):E'[i]?=E[i]?:=by unfold dm at h;split at h;{split at h;{cases h;exact ak (Ne.symm ne)};cases h};cases h
def Qv{x y name:Str}{id:String}{p yp sp apos cpos:Pos}{jx:Expr}{f:DM}{r:V->List V->Hp->VK->Prop}{dj:DE}{i j n jn:Nat}(hm:tL X id r)(D:wz X.K f r)(slot:Slot "list" name id)(hty:typeOf (.builtin id)=pure (.type "method_descriptor"))(hv:PE X (.Name x p) (kI j))(hj:Y[j]?=some i)(hy:PE X (.Name y yp) (kI jn))(hjn:Y[jn]?=some n)(hs:kg jx)(hd:SE X Ex Y jx dj)(hline:(apos.endLine==cpos.line)=true) : SE X Ex Y (.Call (.Attribute (.Subscript (.Name x p) jx sp) name apos) [.Name y yp] [] cpos) (yw f i dj n):=by
 intro g xc E U H Hm F P Q hx R h q;obtain⟨hh,h⟩:=h;obtain⟨o,ho⟩:=lC R hh;refine WE.of (xT Yt slot hty hm (bf (e:=.Subscript (.Name x p) jx sp)) (dh (es:=[.Name y yp]) rfl) rfl (ux rfl (show 1<30 by decide)) hline rfl rfl) ?_;refine WE.of (DF Et hv bf hs) ⟨o,bP hj ho,?_⟩;refine hd g xc E U H Hm F _ _ hx R h λE1 k1 w u1 H1 Hm1 F1 fp1 p1 R1 s1 T1=>?_;obtain⟨a,pp,ds,m,es,k,d,E2,rfl,e1,hix,hes,en,ne,hf,p1⟩:=p1;cases T1.own.int;obtain⟨v',h1,h2⟩:=R1.slot i _ _ e1;rw[ho]at h1;cases h1;obtain⟨vn,Hm2,F2,hvn,s2,R2,rn⟩:=R1.dm en hf;have e2:E2[i]?=some (some (.dp pp,.list ds)):=(IB hf ne).trans e1;obtain⟨v2,h3,h4⟩:=R2.slot i _ _ e2;rw[ho]at h3;cases h3;generalize hfi:F2 i=fi at h4;cases h4 with
 |@dp _ a0 xs _ fq ha0 n0 it0=>
  obtain⟨b,ys,hxm,hb,ry,mb⟩:=it0.get hes;have hlen:xs.length=ds.length:=by
   have:∀{xs:List V}{ds:Zy}{fp:A01}{H Hm:Hp},eU X.K H Hm xs ds fp->xs.length=ds.length:=by
    intro xs ds fp H Hm h;induction h with
    |nil=>rfl
    |kJ _ _ _ ih=>rw[VR,VR,ih]
    |own _ _ _ _ ih=>rw[VR,VR,ih]
   exact this it0
  refine .inl ⟨_,xs,a,.ref b,rfl,rfl,bH.of ha0,?_,.inl ⟨rfl,_,bH.of hb⟩,?_⟩;{show(lQ xs.length a).bind (λj=>xs[j]?)=some (.ref b);rw[hlen,show lQ ds.length a=some m from hix];exact hxm};refine WE.of hy ⟨vn,bP hjn hvn,?_⟩;show r (.ref b) [vn] H1 Q;have mbF:b∈F2 i:=by rw[hfi];exact V8 _ mb
  refine D H1 Hm2 b ys es [vn] [d] _ Q hb (R2.off i b mbF) R2.sub ry (.cons rn .nil) p1 λys' new u v p2 ry' ru=>?_;have nab:a0≠b:=λz=>n0 (z▸mb);have R3:=R2.Pj (o:=.lst ys') (d':=.list (ds.set m (.list new))) e2 ho mbF (by
   rw[hfi];exact .dp (by rw[ai nab];exact ha0) n0 (it0.put ry' hxm ⟨es,hes⟩)) lO λz=>by cases z
  exact q _ _ _ _ _ _ _ [] p2 R3 (s1.trans s2) (Tm.sh ru)
def Tr(j jn:Nat){i n:Nat}{x y name:Str}{id:String}{p yp sp apos cpos:Pos}{jx:Expr}{f:DM}{r:V->List V->Hp->VK->Prop}{dj:DE}(hm:tL X id r)(D:wz X.K f r)(slot:Slot "list" name id)(hty:typeOf (.builtin id)=pure (.type "method_descriptor"))(hd:SE X Ex Y jx dj)(hN:X.N[j]?=some x:=by rfl)(hv:fX X.env.scope x:=by nofun)(hj:Y[j]?=some i:=by rfl)(hNn:X.N[jn]?=some y:=by rfl)(hvn:fX X.env.scope y:=by nofun)(hjn:Y[jn]?=some n:=by rfl)(hs:kg jx:=by intro _ _;rfl)(hline:(apos.endLine==cpos.line)=true:=by rfl)(hb:(x==("__debug__":Str))=false:=by decide)(hcd:(x==("__classdict__":Str))=false:=by decide)(hbn:(y==("__debug__":Str))=false:=by decide)(hcn:(y==("__classdict__":Str))=false:=by decide) : SE X Ex Y (.Call (.Attribute (.Subscript (.Name x p) jx sp) name apos) [.Name y yp] [] cpos) (yw f i dj n):=Qv hm D slot hty (cL hN hv hb hcd) hj (cL hNn hvn hbn hcn) hjn hs hd hline
variable{P:Program}{w:World}{K:Frag}{mg:Zp}{base:Heap}{N:A07}{qual:Str}{f:Addr}{cd:Value}{A:Around}{outer:List Env}{s0:Shared}{H0:Hp}
def ML{j}(h:∃C,mg x=some (.ref C)/\kL K C EM "ValueError.__new__" none=true)(hg:Gl (gH (fh P w) P w K mg base N qual scope f cd A outer s0 H0 Ex) x:=by rfl)(hdb:(x==("__debug__":Str))=false:=by decide) : S1 (gH (fh P w) P w K mg base N qual scope f cd A outer s0 H0 Ex) Ex (.Raise (some (.Call (.Name x np) [.Constant (.str y) j p] [] cpos)) none pos) (yW x):=by obtain⟨C,h⟩:=h;intro g D' E U H Hm F D hx R hp nx rt;refine WS.of (IZ h.2 hg h.1 (iu EK nk) hdb) ⟨by show 1<=sizeLine;decide,λa ha=>?_⟩;exact hx x .none C a _ h.1 hp (λp o hp ho=>bQ ha _ _ (R.fr p o hp ho)) av (R.fH ha)
end Dv
namespace Dv
open PySem L2
def Lu (most:Nat)(E:En) (i:Nat)(v:PyData)(Q:En->Prop):Prop:=match E[i]?,v with
 |some (some (.ow p,.list ds)),.list es=>ds.length+es.length<=most/\Q (E.set i (some (.ow p,.list (ds++es))))
 |_,_=>False
universe u
def aI {a b:Prop}(x:a)(y:b):a/\b:=⟨x,y⟩
theorem rr0:dC v x E Q=Q E .sh v:=rfl
theorem rr1:bg i x (o::E) Q=GC (o::E) i Q:=rfl
theorem rr2:aa r as x (o::E) Q=ig as x (o::E) λE1 os=>zO r as E1 os Q:=rfl
theorem rr3:aJ sp ms as x (o::E) Q=ig as x (o::E) λE1 os=>Gf sp ms as x E1 os Q:=rfl
theorem rr4:bN d x (o::E) Q=d x (o::E) λE' _ v=>uQ v (Q E'):=rfl
theorem rr5:Kl i x (o::E) Q=HE (o::E) i Q:=rfl
theorem rr6:Lb t x (o::E) Q=t x (o::E) λE' b=>Q E' (!b):=rfl
theorem rr7:nR a b x (o::E) Q=a x (o::E) λE1 _ v=>BB v λc=>c7 c (b x E1 Q) (Q E1 .sh (.bool false)):=rfl
theorem rr8:oS a b x (o::E) Q=a x (o::E) λE1 _ v=>BB v λc=>c7 c (Q E1 .sh (.bool true)) (b x E1 Q):=rfl
theorem rr9:id 7=7:=rfl
theorem rr10:pR f f' a b c x (o::E) Q=a x (o::E) λE1 _ u=>rK u λi=>b x E1 λE2 _ v=>rK v λj=>c7 (f i j) (c x E2 λE3 _ w=>rK w λk=>Q E3 .sh (.bool (f' j k))) (Q E2 .sh (.bool false)):=rfl
theorem rr11:wV c a b x (o::E) Q=c x (o::E) λE1 t=>c7 t (a x E1 Q) (b x E1 Q):=rfl
theorem rr12:dD D E=D.nx E:=rfl
theorem rr13:ao a b D (o::E)=a { D with nx:=b D } (o::E):=rfl
theorem rr14:cG c a b D (o::E)=c D.xc (o::E) λE1 t=>c7 t (a D E1) (b D E1):=rfl
theorem rr15:aB i e D (o::E)=e D.xc (o::E) λE' k v=>bK (sG E' i) (D.nx (E'.set i (some (k,v)))):=rfl
theorem rr16:qv is e D (o::E)=e D.xc (o::E) λE' k v=>bK k.fz (Ls is v E' D.nx):=rfl
theorem rr17:bY e D (o::E)=e D.xc (o::E) D.rt:=rfl
theorem rr18:iM i D (o::E)=Fi (o::E) i D.rt:=rfl
theorem rr19:jR f i es x (o::E) Q=bK (jb (o::E) i) (ig (es.map .ev) x (o::E) λE1 os=>HX f i (es.map .ev) E1 os Q):=rfl
theorem rr20:iH i j e D (o::E)=e D.xc (o::E) λE1 k v=>bK k.fz (bK (here E1 i) (j D.xc E1 λE2 k2 w=>bK k2.fz (iH.setI E2 i w v D.nx))):=rfl
theorem rr21:id 7=7:=rfl
theorem rr22:yW c D E=D.xc c .none:=rfl
theorem rr23:cK e D (o::E)=e D.xc (o::E) λE' _ _=>D.nx E':=rfl
theorem rr24:fF x E Q=Q E true:=rfl
theorem rr25:iE e x (o::E) Q=e x (o::E) λE' k v=>bK k.fz (Kr v λxs=>Q E' xs):=rfl
theorem rr26:jT g as x (o::E) Q=ig as x (o::E) λE1 os=>aA (cA as E1 os) λds=>aA (g ds) λxs=>Q E1 xs:=rfl
theorem rr27:sZ e x (o::E) Q=e x (o::E) λE' k v=>bK k.fz (wL v λds=>Q E' (jk ds)):=rfl
theorem rr28:Eu a b x (o::E) Q=a x (o::E) λE1 k v=>bK k.fz (b x E1 λE2 k2 v2=>bK k2.fz (wL v λds=>wL v2 λes=>Q E2 ((ds.zip es).map λp=>.tuple [p.1,p.2]))):=rfl
theorem rr29:cB most e x ys (o::E) Q=e x (o::E) λE1 k v=>k.fz=true/\ys.length<most/\Q (ys++[v]) E1:=rfl
theorem rr30:ig [] x E Q=Q E []:=rfl
theorem rr31:ig (.pk i::r) x (o::E) Q=bK (here (o::E) i) (ig r x (o::E) λE' os=>Q E' (none::os)):=rfl
theorem rr32:ig (.ev d::r) x (o::E) Q=d x (o::E) λE1 k v=>bK k.fz (ig r x E1 λE' os=>Q E' (some v::os)):=rfl
theorem rr33:cA [] E []=some []:=rfl
theorem rr34:∀{i:Nat}{r:List Arg}{o:Option (Kd×PyData)}{E:En}{os:List (Option PyData)},cA (.pk i::r) (o::E) (none::os)=match(o::E)[i]? with
  |some (some (k,d))=>c7 k.rd ((cA r (o::E) os).map (d::·)) none
  |_=>none:=rfl
theorem rr35:∀{d:DE}{v:PyData}{r:List Arg}{E:En}{os:List (Option PyData)},cA (.ev d::r) E (some v::os)=(cA r E os).map (v::·):=rfl
theorem rr36:aA (some a) Q=Q a:=rfl
theorem rr37:aA none Q=False:=rfl
theorem rr38:here (o::E) i=match(o::E)[i]? with
  |some (some _)=>true
  |_=>false:=rfl
theorem rr39:bA (some (k,d))=!k.pin:=rfl
theorem rr40:bA none=true:=rfl
theorem rr41:jb (o::E) i=match(o::E)[i]? with
  |some (some (.ow _,.list _))=>true
  |_=>false:=rfl
theorem rr42:iI (o::E) i=match(o::E)[i]? with
  |some (some (.sh,_))=>true
  |_=>false:=rfl
theorem rr43:rN (o::E) i=match(o::E)[i]? with
  |some (some (k,d))=>c7 k.fz (some ((o::E).set i (some (.sh,d)))) none
  |_=>none:=rfl
theorem rr44:gP [] E=some E:=rfl
theorem rr45:gP (i::r) E=(rN E i).bind (gP r):=rfl
theorem rr46:GC (o::E) i Q=match(o::E)[i]? with
  |some (some (_,d))=>aA (rN (o::E) i) λE'=>Q E' .sh d
  |_=>False:=rfl
theorem rr47:Fi (o::E) i Q=match(o::E)[i]? with
  |some (some (k,d))=>bK (!k.pin) (Q ((o::E).set i none) k d)
  |_=>False:=rfl
theorem rr48:HE (o::E) i Q=match(o::E)[i]? with
  |some (some (k,d))=>bK k.rd (uQ d (Q (o::E)))
  |_=>False:=rfl
theorem rr49:∀{r:DR}{as:List Arg}{o:Option (Kd×PyData)}{E:En}{os:List (Option PyData)}{Q:En->Kd->PyData->Prop},zO r as (o::E) os Q=aA (cA as (o::E) os) λds=>r ds λk v=>aA (sO as (o::E) k v) λE2=>Q E2 k v:=rfl
theorem rr50:∀{sp:bG}{ms:A02}{as:List Arg}{x:XC}{o:Option (Kd×PyData)}{E:En}{os:List (Option PyData)}{Q:En->Kd->PyData->Prop},Gf sp ms as x (o::E) os Q=aA (cA as (o::E) os) λds=>bK (uH ms as (o::E)) (sp ds (λus k v=>GB ms as (o::E) us k v Q) x):=rfl
theorem rr51:∀{f:DM}{i:Nat}{as:List Arg}{o:Option (Kd×PyData)}{E:En}{os:List (Option PyData)}{Q:En->Kd->PyData->Prop},HX f i as (o::E) os Q=aA (cA as (o::E) os) λargs=>match(o::E)[i]? with
  |some (some (.ow p,.list ds))=>f ds args λnew v=>Q ((o::E).set i (some (.ow p,.list new))) .sh v
  |_=>False:=rfl
theorem rr52:Ov f (o::E) i v Q=match(o::E)[i]? with
  |some (some (_,.int a))=>rK v λb=>Q ((o::E).set i (some (.sh,.int (f a b))))
  |_=>False:=rfl
theorem rr53:uQ (.bool b) Q=Q b:=rfl
theorem rr54:BB (.bool b) Q=Q b:=rfl
theorem rr55:rK (.int i) Q=Q i:=rfl
theorem rr56:uQ (.list ds) Q=Q (!ds.isEmpty):=rfl
theorem rr57:Kr (.list ds) Q=Q ds:=rfl
theorem rr58:Kr (.tuple ds) Q=Q ds:=rfl
theorem rr59:wL (.list ds) Q=Q ds:=rfl
theorem rr60:sO as (o::E) k v=c7 ((cP as).all (iI (o::E))||flat k v) (some (o::E)) (gP (cP as) (o::E)):=rfl
theorem rr61:cP []=[]:=rfl
theorem rr62:cP (.pk i::r)=i::cP r:=rfl
theorem rr63:cP (.ev d::r)=cP r:=rfl
theorem rr64:Kd.fz .sh=true:=rfl
theorem rr65:Kd.fz (.ow false)=true:=rfl
theorem rr66:Kd.fz (.dp false)=true:=rfl
theorem rr67:Kd.fz (.dk false)=true:=rfl
theorem rr68:Kd.fz (.dt false)=true:=rfl
theorem rr69:Kd.rd .sh=true:=rfl
theorem rr70:Kd.rd (.ow p)=true:=rfl
theorem rr71:Kd.rd (.dp p)=true:=rfl
theorem rr72:Kd.rd (.dk p)=true:=rfl
theorem rr73:Kd.rd (.dt p)=true:=rfl
theorem rr74:Kd.pin .sh=false:=rfl
theorem rr75:Kd.pin (.ow p)=p:=rfl
theorem rr76:Kd.pin (.dp p)=p:=rfl
theorem rr77:Kd.pin (.dk p)=p:=rfl
theorem rr78:Kd.pin (.dt p)=p:=rfl
theorem rr79:flat .sh v=lf v:=rfl
theorem rr80:lf (.int i)=true:=rfl
theorem rr81:lf (.bool b)=true:=rfl
theorem rr82:lf (.str s)=true:=rfl
theorem rr83:lf .none=true:=rfl
theorem rr84:(bx ms Q x).xc=x:=rfl
theorem rr85:(bx ms Q x).nx (o::E)=aA (fE ms (o::E)) λus=>Q us .sh .none:=rfl
theorem rr86:(bx ms Q x).rt (o::E) k v=aA (fE ms (o::E)) λus=>Q us k v:=rfl
theorem rr87:fE [] E=some []:=rfl
theorem rr88:fE (true::ms) (some (.ow true,.list es)::E)=(fE ms E).map (.list es::·):=rfl
theorem rr89:fE (false::ms) (o::E)=fE ms E:=rfl
theorem rr90:ini (true::ms) (d::ds)=some (.ow true,d)::ini ms ds:=rfl
theorem rr91:ini (false::ms) (d::ds)=some (.sh,d)::ini ms ds:=rfl
theorem rr92:ini [] []=[]:=rfl
theorem rr93:List.replicate (n+1) (none:Option (Kd×PyData))=none::List.replicate n none:=rfl
theorem rr94:List.replicate 0 (none:Option (Kd×PyData))=[]:=rfl
theorem rr95:∀{α β:Type}{f:α->β}{a:α},(some a).map f=some (f a):=rfl
theorem rr96:∀{α β:Type}{f:α->Option β}{a:α},(some a).bind f=f a:=rfl
theorem rr97:∀{α:Type}{p:α->Bool},[].all p=true:=rfl
theorem rr98:∀{α:Type}{p:α->Bool}{a:α}{l:List α},(a::l).all p=(p a&&l.all p):=rfl
theorem rr99:(true&&b)=b:=rfl
theorem rr100:(false&&b)=false:=rfl
theorem rr101:(true||b)=true:=rfl
theorem rr102:(false||b)=b:=rfl
theorem rr103:((!true)=false):=rfl
theorem rr104:((!false)=true):=rfl
theorem rr105:∀{α:Type}{l:List α},([]:List α)++l=l:=rfl
theorem rr106:∀{α:Type}{a:α}{l m:List α},(a::l)++m=a::(l++m):=rfl
theorem rr107:sG (o::E) i=match(o::E)[i]? with
  |some o=>bA o
  |none=>false:=rfl
theorem rr108:bK true P=P:=rfl
theorem rr109:bK false P=False:=rfl
theorem rr110:∀{α:Sort u}{a b:α},c7 true a b=a:=rfl
theorem rr111:∀{α:Sort u}{a b:α},c7 false a b=b:=rfl
theorem rr112:Ls is (.tuple ds) E Q=aA (stK is ds E) Q:=rfl
theorem rr113:stK [] [] E=some E:=rfl
theorem rr114:stK (i::is) (d::ds) (o::E)=c7 (sG (o::E) i) (stK is ds ((o::E).set i (some (.sh,d)))) none:=rfl
theorem rr115:mz i []=false:=rfl
theorem rr116:mz i (j::l)=(i==j||mz i l):=rfl
theorem rr117:qi [] ks E=true:=rfl
theorem rr118:qi (i::r) ks E=((!mz i ks&&!mz i r&&jb E i)&&qi r ks E):=rfl
theorem rr119:∀{α:Type}{o:α}{E:List α},(o::E)[0]?=some o:=rfl
theorem rr120:∀{α:Type}{o:α}{E:List α}{n:Nat},(o::E)[n+1]?=E[n]?:=rfl
theorem rr121:∀{α:Type}{o a:α}{E:List α},(o::E).set 0 a=a::E:=rfl
theorem rr122:∀{α:Type}{o a:α}{E:List α}{n:Nat},(o::E).set (n+1) a=o::E.set n a:=rfl
def dv:=aI @rr0<|aI @rr1<|aI @rr2<|aI @rr3<|aI @rr4<|aI @rr5<|aI @rr6<|aI @rr7<|aI @rr8<|aI @rr9<|aI @rr10<|aI @rr11<|aI @rr12<|aI @rr13<|aI @rr14<|aI @rr15<|aI @rr16<|aI @rr17<|aI @rr18<|aI @rr19<|aI @rr20<|aI @rr21<|aI @rr22<|aI @rr23<|aI @rr24<|aI @rr25<|aI @rr26<|aI @rr27<|aI @rr28<|aI @rr29<|aI @rr30<|aI @rr31<|aI @rr32<|aI @rr33<|aI @rr34<|aI @rr35<|aI @rr36<|aI @rr37<|aI @rr38<|aI @rr39<|aI @rr40<|aI @rr41<|aI @rr42<|aI @rr43<|aI @rr44<|aI @rr45<|aI @rr46<|aI @rr47<|aI @rr48<|aI @rr49<|aI @rr50<|aI @rr51<|aI @rr52<|aI @rr53<|aI @rr54<|aI @rr55<|aI @rr56<|aI @rr57<|aI @rr58<|aI @rr59<|aI @rr60<|aI @rr61<|aI @rr62<|aI @rr63<|aI @rr64<|aI @rr65<|aI @rr66<|aI @rr67<|aI @rr68<|aI @rr69<|aI @rr70<|aI @rr71<|aI @rr72<|aI @rr73<|aI @rr74<|aI @rr75<|aI @rr76<|aI @rr77<|aI @rr78<|aI @rr79<|aI @rr80<|aI @rr81<|aI @rr82<|aI @rr83<|aI @rr84<|aI @rr85<|aI @rr86<|aI @rr87<|aI @rr88<|aI @rr89<|aI @rr90<|aI @rr91<|aI @rr92<|aI @rr93<|aI @rr94<|aI @rr95<|aI @rr96<|aI @rr97<|aI @rr98<|aI @rr99<|aI @rr100<|aI @rr101<|aI @rr102<|aI @rr103<|aI @rr104<|aI @rr105<|aI @rr106<|aI @rr107<|aI @rr108<|aI @rr109<|aI @rr112<|aI @rr113<|aI @rr114<|aI @rr115<|aI @rr116<|aI @rr117<|aI @rr118<|aI @rr119<|aI @rr120<|aI @rr121<|@rr122
def dw:
 (∀{o:Option (Kd×PyData)}{E:En}{i:Nat},bL (o::E) i=match(o::E)[i]? with
  |some o=>bA o
  |none=>false) /\
 (∀{P:Prop},(True/\P)=P) /\
 (∀{P:Prop},(P/\True)=P) /\
 (∀{α:Type}{a:α},(a=a)=True) /\
 (∀{b:Bool},(b||true)=true) /\
 (∀{α:Type}{a b:α},(if True then a else b)=a) /\
 (∀{α:Type}{a b:α},(if False then a else b)=b) /\
 (∀{p:Prop} [Decidable p],(decide p=true)=p) /\
 ((true=false)=False) /\
 ((false=true)=False) /\
 (∀{b:Bool},((!b)=true)=(b=false)) /\
 (∀{p:Prop} [Decidable p],(decide p=false)=¬p) /\
 (type_of%@d7) /\
 (∀{α:Type}{p:Prop} [Decidable p]{a b:α},c7 (decide p) a b=if p then a else b) /\
 (∀{p:Prop} [Decidable p]{a b:Prop},c7 (decide p) a b=if p then a else b) /\
 (∀{b:Bool}{p q:Prop},c7 b p q=if b=true then p else q) /\
 (∀{α:Type}{b:Bool}{p q:α},c7 b p q=if b=true then p else q):=
 ⟨(by intro o E i;unfold bL bA;generalize (o::E)[i]?=z;rcases z with _|_|⟨k,d⟩<;>rfl),(by intros;simp),(by intros;simp),(by intros;simp),(by intros;simp),(by intros;simp),(by intros;simp),(by intros;simp),(by intros;simp),(by intros;simp),(by intros;simp),(by intros;simp),@d7,(by intros;rw[bV];simp only[XD]),(by intros;rw[bV];simp only[XD]),(by intros;exact bV),(by intros;exact bV)⟩
def U3{x:PyData}{l:Zy}:dS (x::l) 0=some x:=by unfold dS lQ;simp
def UI{x y:PyData}{l:Zy}:dS (x::y::l) 1=some y:=by unfold dS lQ;simp;rw[if_pos (by lia)];rfl
def Vi{n:Nat}:kZ (n+1) 0=some 0:=by unfold kZ;simp
def Ti{n:Nat}:kZ (n+2) 1=some 1:=by unfold kZ;simp;lia
theorem rr123:cN [.int a,.int b] P=P .sh (.int (a+b)):=rfl
theorem rr124:cN [.list a,.list b] P=(a.length+b.length<=sizeLine/\P (.ow false) (.list (a++b))):=rfl
theorem rr125:cN [.tuple a,.tuple b] P=((a≠[]/\a.length+b.length<=sizeLine)/\P .sh (.tuple (a++b))):=rfl
theorem rr126:oz [.int a,.int b] P=P .sh (.int (a-b)):=rfl
theorem rr127:dW [.int a,.int b] P=(vG a b/\P .sh (.int (a*b))):=rfl
theorem rr128:dW [.list a,.int k] P=((-(2^63)<=k/\k<2^63/\a.length*k.toNat<=sizeLine)/\P (.ow false) (.list (List.replicate k.toNat a).flatten)):=rfl
theorem rr129:pT [.int a,.int b] P=(0<b/\P .sh (.int (a%b))):=rfl
theorem rr130:DG [.int a,.int b] P=(Dj a b/\P .sh (.int (a/b))):=rfl
theorem rr131:vp [.int a,.int b] P=(Ah a b/\P .sh (.int (a^b.toNat))):=rfl
theorem rr132:kT [.int a,.int b] P=P .sh (.bool (decide (a<b))):=rfl
theorem rr133:Qq [.int a,.int b] P=P .sh (.bool (decide (a<=b))):=rfl
theorem rr134:wG [.int a,.int b] P=P .sh (.bool (decide (b<a))):=rfl
theorem rr135:NN [.int a,.int b] P=P .sh (.bool (decide (b<=a))):=rfl
theorem rr136:gF [.int a] P=P .sh (.int (-a)):=rfl
theorem rr137:jC [.int a,.int b] P=P .sh (.bool (decide (a=b))):=rfl
theorem rr138:jC [.str a,.str b] P=P .sh (.bool (decide (a=b))):=rfl
theorem rr139:oX [.int a,.int b] P=P .sh (.bool !(decide (a=b))):=rfl
theorem rr140:oX [.str a,.str b] P=P .sh (.bool !(decide (a=b))):=rfl
theorem rr141:jC [.list a,.list b] P=((dl 8 (.list a)=true/\dl 8 (.list b)=true)/\P .sh (.bool (decide (PyData.list a=.list b)))):=rfl
theorem rr142:oX [.list a,.list b] P=((dl 8 (.list a)=true/\dl 8 (.list b)=true)/\P .sh (.bool !(decide (PyData.list a=.list b)))):=rfl
theorem rr143:aC [.list xs,.int i] P=aA (atK xs i) (P .sh):=rfl
theorem rr144:aC [.tuple xs,.int i] P=aA (atK xs i) (P .sh):=rfl
theorem rr145:fB [.list xs] P=P .sh (.int xs.length):=rfl
theorem rr146:fB [.tuple xs] P=P .sh (.int xs.length):=rfl
theorem rr147:qL [.list xs] P=P (.ow false) (.list xs):=rfl
theorem rr148:qL [.tuple xs] P=P (.ow false) (.list xs):=rfl
theorem rr149:kB [.list xs] P=P .sh (.tuple xs):=rfl
theorem rr150:kB [.tuple xs] P=P .sh (.tuple xs):=rfl
theorem rr151:xQ [.int a,.int b] P=P .sh (.int (if b<a then b else a)):=rfl
theorem rr152:id 7=7:=rfl
theorem rr153:id 7=7:=rfl
theorem rr154:jy [.int a] P=P .sh (.int a):=rfl
theorem rr155:jy [.bool b] P=P .sh (.int (if b=true then 1 else 0)):=rfl
theorem rr156:mZ [.int j] P=((0<=j/\j<=1000)/\P (.ow false) (.list (jU 0 j.toNat))):=rfl
theorem rr157:cE ds P=(ds.length<=sizeLine/\P (.ow false) (.list ds)):=rfl
theorem rr158:cJ ds P=(ds.length<=sizeLine/\P .sh (.tuple ds)):=rfl
theorem rr159:lB false false [.list xs] P=P (.ow false) (.list (cutD xs none none)):=rfl
theorem rr160:lB true false [.list xs,.int a] P=P (.ow false) (.list (cutD xs (some a) none)):=rfl
theorem rr161:lB false true [.list xs,.int b] P=P (.ow false) (.list (cutD xs none (some b))):=rfl
theorem rr162:lB true true [.list xs,.int a,.int b] P=P (.ow false) (.list (cutD xs (some a) (some b))):=rfl
theorem rr163:lB false true [.tuple xs,.int b] P=P .sh (.tuple (cutD xs none (some b))):=rfl
theorem rr164:lH [.int j]=@ite _ (-(2^62)<=j/\j<2^62) (Classical.propDecidable _) (some (jU 0 j.toNat)) none:=rfl
theorem rr165:Gi [.int i,.int j]=@ite _ (-(2^62)<=i/\i<2^62/\-(2^62)<=j/\j<2^62) (Classical.propDecidable _) (some (jU i (j-i).toNat)) none:=rfl
theorem rr166:Bf c [d] P=aA (wj d) λt=>P .sh (.bool (i7 c t)):=rfl
theorem rr167:wj (.int i)=some "int":=rfl
theorem rr168:wj (.tuple i)=some "tuple":=rfl
theorem rr169:wj (.list i)=some "list":=rfl
theorem rr170:wj (.bool b)=some "bool":=rfl
theorem rr171:wj .none=some "NoneType":=rfl
theorem rr172:i7 "int" "int"=true:=rfl
theorem rr173:i7 "int" "tuple"=false:=rfl
theorem rr174:i7 "tuple" "int"=false:=rfl
theorem rr175:i7 "tuple" "tuple"=true:=rfl
theorem rr176:i7 "bool" "int"=false:=rfl
theorem rr177:i7 "list" "list"=true:=rfl
theorem rr178:i7 "int" "NoneType"=false:=rfl
theorem rr179:i7 "tuple" "NoneType"=false:=rfl
theorem rr180:cS ds [d] P=(ds.length<sizeLine/\P (ds++[d]) .none):=rfl
theorem rr181:mT ds [.list es] P=(ds.length+es.length<=sizeLine/\P (ds++es) .none):=rfl
theorem rr182:id 7=7:=rfl
theorem rr183:id 7=7:=rfl
theorem rr184:cO (.nm i) d E=bw [i] [d] E:=rfl
theorem rr185:cO (.tp is) (.tuple ds) E=bw is ds E:=rfl
theorem rr186:bw [] [] E=some E:=rfl
theorem rr187:br [] E=some E:=rfl
theorem rr188:iH.setI (o::E) i w v Q=match(o::E)[i]?,w with
  |some (some (.ow p,.list ds)),.int a=>aA (zL ds.length a) λn=>Q ((o::E).set i (some (.ow p,.list (ds.set n v))))
  |some (some (.dk p,.dict kvs)),w=>(lF w=true/\kvs.length<16777216)/\Q ((o::E).set i (some (.dk p,.dict (putD kvs w v))))
  |some (some (.dt p,.dict (_::kvs))),.tuple ks=>(ks.all lF=true/\kvs.length<16777216)/\Q ((o::E).set i (some (.dt p,.dict ((.none,.none)::putD kvs (.tuple ks) v))))
  |_,_=>False:=rfl
theorem rr189:GB ms as (o::E) us k v Q=aA (jM ms as us (o::E)) λE2=>aA (uB ms as us E2 k v) λE3=>Q E3 k v:=rfl
theorem rr190:jM [] [] [] E=some E:=rfl
theorem rr191:jM (false::ms) (a::r) us E=jM ms r us E:=rfl
theorem rr192:jM (true::ms) (.pk i::r) (u::us) (o::E)=match(o::E)[i]? with
  |some (some (.ow p,.list _))=>c7 (BP u) (jM ms r us ((o::E).set i (some (.ow p,u)))) none
  |_=>none:=rfl
theorem rr193:BP (.list l)=true:=rfl
theorem rr194:uB ms as us (o::E) k v=c7 ((kept ms as).all (iI (o::E))||(flat k v&&us.all (flat (.ow false)))) (some (o::E)) (gP (kept ms as) (o::E)):=rfl
theorem rr195:kept [] []=[]:=rfl
theorem rr196:kept (false::ms) (.pk i::r)=i::kept ms r:=rfl
theorem rr197:kept (false::ms) (.ev d::r)=kept ms r:=rfl
theorem rr198:kept (true::ms) (a::r)=kept ms r:=rfl
theorem rr199:uH ms as (o::E)=(shape ms as&&qi (lent ms as) (kept ms as) (o::E)):=rfl
theorem rr200:lent [] []=[]:=rfl
theorem rr201:lent (true::ms) (.pk i::r)=i::lent ms r:=rfl
theorem rr202:lent (false::ms) (a::r)=lent ms r:=rfl
theorem rr203:shape [] []=true:=rfl
theorem rr204:shape (true::ms) (.pk i::r)=shape ms r:=rfl
theorem rr205:shape (false::ms) (a::r)=shape ms r:=rfl
theorem rr206:∀{α:Type},([]:List α).length=0:=rfl
theorem rr207:∀{α:Type}{a:α}{l:List α},(a::l).length=l.length+1:=rfl
theorem rr208:sizeLine=16777216:=rfl
theorem rr209:∀{f:DE->Arg},List.map f []=[]:=rfl
theorem rr210:∀{f:DE->Arg}{a:DE}{l:List DE},List.map f (a::l)=f a::List.map f l:=rfl
theorem rr211:atK (x::l) 0=some x:=rfl
theorem rr212:atK (x::y::l) 1=some y:=rfl
theorem rr213:zL (n+1) 0=some 0:=rfl
theorem rr214:zL (n+2) 1=some 1:=rfl
theorem rr215:zL (n+1+1) 1=some 1:=rfl
def OF:(∀{x:PyData}{l:Zy},dS (x::l) 0=some x)/\(∀{x y:PyData}{l:Zy},dS (x::y::l) 1=some y)/\(∀{n:Nat},kZ (n+1) 0=some 0)/\(∀{n:Nat},kZ (n+2) 1=some 1)/\(∀{n:Nat},kZ (n+1+1) 1=some 1)/\(∀{P:Kd->PyData->Prop},dO false [.none,.none] P=P .sh (.bool true))/\(∀{P:Kd->PyData->Prop},dO true [.none,.none] P=P .sh (.bool false))/\(∀{i:Int}{P:Kd->PyData->Prop},dO false [.int i,.none] P=P .sh (.bool false))/\(∀{i:Int}{P:Kd->PyData->Prop},dO true [.int i,.none] P=P .sh (.bool true))/\(∀{i:Zy}{P:Kd->PyData->Prop},dO false [.tuple i,.none] P=P .sh (.bool false))/\(∀{i:Zy}{P:Kd->PyData->Prop},dO true [.tuple i,.none] P=P .sh (.bool true))/\(∀{d:PyData}{xs:Zy}{P:Kd->PyData->Prop},oH false [d,.list xs] P=((xs.all (dl 8)=true/\dl 8 d=true)/\P .sh (.bool (decide (d∈xs)))))/\(∀{d:PyData}{xs:Zy}{P:Kd->PyData->Prop},oH true [d,.list xs] P=((xs.all (dl 8)=true/\dl 8 d=true)/\P .sh (.bool !(decide (d∈xs)))))/\(∀{d:PyData}{xs:Zy}{P:Kd->PyData->Prop},oH false [d,.tuple xs] P=((xs.all (dl 8)=true/\dl 8 d=true)/\P .sh (.bool (decide (d∈xs)))))/\(∀{d:PyData}{xs:Zy}{P:Kd->PyData->Prop},oH true [d,.tuple xs] P=((xs.all (dl 8)=true/\dl 8 d=true)/\P .sh (.bool !(decide (d∈xs)))))/\(∀{i:Nat}{is:A05}{d:PyData}{ds:Zy}{o:Option (Kd×PyData)}{E:En},bw (i::is) (d::ds) (o::E)=if bL (o::E) i then bw is ds ((o::E).set i (some (.sh,d)))else none)/\(∀{i:Nat}{r:A05}{o:Option (Kd×PyData)}{E:En},br (i::r) (o::E)=if bL (o::E) i then br r ((o::E).set i none)else none)/\(∀{i:Nat},List.contains [] i=false)/\(∀{i j:Nat}{l:A05},List.contains (j::l) i=(i==j||List.contains l i))/\(∀{α:Type},(([]:List α).Nodup)=True)/\(∀{i:Nat},([i]:A05).Nodup=True)/\type_of%@uf/\type_of%@zX:=
 ⟨U3,UI,Vi,Ti,Ti,(by simp[dO]),(by simp[dO]),(by simp[dO]),(by simp[dO]),(by simp[dO]),(by simp[dO]),(by intro d xs P;cases d<;>rfl),(by intro d xs P;cases d<;>rfl),(by intro d xs P;cases d<;>rfl),(by intro d xs P;cases d<;>rfl),rfl,rfl,(by intros;simp),(by intros;rw[List.contains_cons]),(by intros;simp),(by intros;simp),@uf,@zX⟩
def dx:=aI @rr123<|aI @rr124<|aI @rr125<|aI @rr126<|aI @rr127<|aI @rr128<|aI @rr129<|aI @rr130<|aI @rr131<|aI @rr132<|aI @rr133<|aI @rr134<|aI @rr135<|aI @rr136<|aI @rr137<|aI @rr138<|aI @rr139<|aI @rr140<|aI @rr141<|aI @rr142<|aI @rr143<|aI @rr144<|aI @rr145<|aI @rr146<|aI @rr147<|aI @rr148<|aI @rr149<|aI @rr150<|aI @rr151<|aI @rr152<|aI @rr153<|aI @rr154<|aI @rr155<|aI @rr156<|aI @rr157<|aI @rr158<|aI @rr159<|aI @rr160<|aI @rr161<|aI @rr162<|aI @rr163<|aI @rr164<|aI @rr165<|aI @rr166<|aI @rr167<|aI @rr168<|aI @rr169<|aI @rr170<|aI @rr171<|aI @rr172<|aI @rr173<|aI @rr174<|aI @rr175<|aI @rr176<|aI @rr177<|aI @rr178<|aI @rr179<|aI @rr180<|aI @rr181<|aI @rr182<|aI @rr183<|aI @rr184<|aI @rr185<|aI @rr186<|aI @rr187<|aI @rr188<|aI @rr189<|aI @rr190<|aI @rr191<|aI @rr192<|aI @rr193<|aI @rr194<|aI @rr195<|aI @rr196<|aI @rr197<|aI @rr198<|aI @rr199<|aI @rr200<|aI @rr201<|aI @rr202<|aI @rr203<|aI @rr204<|aI @rr205<|aI @rr206<|aI @rr207<|aI @rr208<|aI @rr209<|aI @rr210<|aI @rr211<|aI @rr212<|aI @rr213<|aI @rr214<|aI @rr215<|@OF
end Dv
namespace L2
open PySem PySem.Spec PyProof.Rows
def G7{K:Zv}{mb:Zp}{CX:lA}{k:Nat}{fa a:Addr}{sp:Sp}{s₁:Shared}{vs:A00}{ns:A06}(KX:K.In s₁.heap)(hns:s₁.heap.Ns mainGlobals mg)(hb:s₁.heap.Ns builtinsNs mb)(hbb:∀x:Str,x≠"__name__"->mb x=bootBuiltins x)(hlim:s₁.heap.NoLimit)(hg:s₁.gens=#[])(ha:s₁.heap.get? a=some { cls:=.type "list",data:=.seq vs.toArray })(hi:IntsAre vs ns)(hl:ns.length<=sizeLine)(hr:dM k callerA)(F:∀base:Heap,K.In base->base.Ns mainGlobals mg->gA P w K mg base CX k fa fd [x] sp)(hbind:∀(s:Shared)(u:Value),BindsTo s fd ⟨[u],[]⟩ [(x,u)])(hsp:∀H:Hp,Jp H->Dv.bW K H a (ns.map V.int)->sp [.ref a] H (λv _=>v=.bl true) λ_ _ _=>False)(hCX:∀H e s',CX [] H s₁ (λ_ _ _=>False) e s'->False) : codeAny (model P w) callerA (.call (.ref fa) ⟨[.ref a],[]⟩) (λr s'=>r=.ok (.ret (.bool true))/\OldK s₁.heap s'.heap/\s'.os=s₁.os/\AllBare s'.gens) s₁:=by
 have rv:=wQ hi;have Ar:=hi.length
 -- from an abstract heap in which nothing but the script may be tracked
 have core:∀H:Hp,Jp H->Dv.bW K H a (ns.map V.int)->dg P w H s₁.heap->(∀b,H b≠none->b=a)->(H a≠none->K.lookup a=none)->
   codeAny (model P w) callerA (.call (.ref fa) ⟨[.ref a],[]⟩) (λr s'=>r=.ok (.ret (.bool true))/\OldK s₁.heap s'.heap/\s'.os=s₁.os/\AllBare s'.gens) s₁:=by
  intro H hO hS hok hA hK;have base_of:∀{b:Addr}{o:Obj},s₁.heap.get? b=some o->H b=none->(oA s₁.heap H).get? b=some o:=λe n=>JY e n
  have noA:∀{b:Addr}{o:Obj}{es:Zr}{ep:Nat},s₁.heap.get? b=some o->o.data=.dict es ep->H b=none:=λ{b o es ep} e d=>by
   cases q:H b with
   |none=>rfl
   |some u=>
    have e':b=a:=hA b (by rw[q];simp)
    subst e';rw[ha]at e;cases e;have d':Data.seq vs.toArray _=Data.dict es ep:=d;cases d'
  have nsK:∀{b:Addr}{m:Zp},s₁.heap.Ns b m->(oA s₁.heap H).Ns b m:=λ{b m} ⟨o,es,ep,e,d,r⟩=>⟨o,es,ep,base_of e (noA e d),d,r⟩
  have hKb:K.In (oA s₁.heap H):=λb o e=>base_of (KX b o e) (by
   cases q:H b with
   |none=>rfl
   |some u=>
    have e':b=a:=hA b (by rw[q];simp)
    subst e';rw[hK (by rw[q];simp)]at e;cases e)
  have hM:Mod K mg (oA s₁.heap H):=⟨hKb,nsK hns,⟨mb,nsK hb,hbb⟩,let⟨mc,h1,h2⟩:=hlim;⟨mc,nsK h1,h2⟩⟩
  have e0:CT P w K mg (oA s₁.heap H) callerA [] s₁ H:=⟨rfl,hM,λb o e=>LL e,Ym (EU _ _),trivial,λb hb=>absurd (show b∈([]:A01)from hb) (by simp),hok,.of_eq hg⟩
  refine YB ((F _ hKb (nsK hns)).run callerA [] s₁ H ⟨[.ref a],[]⟩ [.ref a] [.ref a] _ _ hr e0 (hbind s₁ (.ref a)) (.cons rfl .nil) (hsp H hO hS)) λr s' h=>?_
  cases r with
  |error e=>exact(hCX H e s' h).elim
  |ok fl=>
   cases fl with
   |next=>exact False.elim h
   |brk=>exact False.elim h
   |cont=>exact False.elim h
   |ret u=>
    obtain⟨v,H',os,bare,un,hok',r',q⟩:=h;have q':v=.bl true:=q;subst q';obtain rfl:u=Value.bool true:=r';refine⟨rfl,OldK.of_keep λb o e=>?_,os,bare⟩
    cases q:H b with
    |none=>exact un.keep b o e q (by intro z;exact absurd (show b∈([]:A01)from z) (by simp)) (by simp)
    |some u=>
     rcases hO b with z|⟨ob,xs,z⟩
     .rw[q]at z;cases z
     .have z2:=un.jK b ob _ z;obtain⟨e1,_⟩:=hok b _ z;obtain⟨e2,_⟩:=hok' b _ z2;rw[e]at e1;cases e1;exact e2
 cases hk:K.lookup a with
 |some o=>
  -- the script is one of the module's own objects
  have e:=KX a o hk;rw[ha]at e;cases e;refine core (λ_=>none) (λ_=>.inl rfl) (.inr ⟨vs,_,hk,by rw[Ar];exact hl,rv⟩) (λb u z=>by have z':(none:Option HO)=some u:=z;cases z') (λb z=>absurd rfl z) λz=>absurd rfl z
 |none=>
  refine core (λb=>if b=a then some (.cZ { cls:=.type "list",data:=.seq vs.toArray } (.lst (ns.map V.int)))else none) (λb=>?_) (.inl (.inr ⟨{ cls:=.type "list",data:=.seq vs.toArray },if_pos rfl⟩)) (λb u z=>?_) (λb z=>?_) λ_=>hk
  .by_cases hb:b=a
   .exact .inr ⟨_,_,if_pos hb⟩
   .exact .inl (if_neg hb)
  .by_cases hb:b=a
   .have z':=(if_pos hb).symm.trans z;cases z';subst hb;exact⟨ha,by rw[V2];exact hl,vs,_,rv,ha⟩
   .have z':=(if_neg hb).symm.trans z;cases z'
  .by_cases hb:b=a
   .exact hb
   .exact absurd (if_neg hb) z
def NJ{l:PySem.W.OpenLaw}{n k:Nat}{YP:World->Heap->Prop}{d:DefRec}{K:Params->Zv}{CX:World->lA}{sp:World->Sp}(hn:l.most=some n)(hn2:n<=sizeLine)(hdf:d.params.defaults=[])(hr:dM k callerA)(hY:∀(w:World)(h:Heap),YP w h->(K w.params).In h)(F:∀(w:World)(mg:Zp)(fa:Addr)(h:Heap),(K w.params).In h->h.Ns mainGlobals mg->mg d.name=some (.ref fa)-> ∃fd:FuncData,(∀(s:Shared)(u:Value),BindsTo s fd ⟨[u],[]⟩ [(x,u)]) /\ ∀base:Heap,(K w.params).In base->base.Ns mainGlobals mg->gA l.prog w (K w.params) mg base (CX w) k fa fd [x] (sp w))(hsp:∀(w:World)(H:Hp)(a:Addr)(ns:A06),ns.length<=n->Jp H->Dv.bW (K w.params) H a (ns.map V.int)->sp w [.ref a] H (λv _=>v=.bl true) λ_ _ _=>False)(hCX:∀(w:World)(H:Hp)(s:Shared)(e:Value)(s':Shared),CX w [] H s (λ_ _ _=>False) e s'->False) : PySem.W.WalkO q loose XP YP l.row.toRowW d [] (λf vs=>PySem.call f vs):=by refine Tp.AB hn hdf λw s₀ s₁ mg mb fa o pm cd doc a vs ns G AAB ho hd hcd hmg hobj hints hlen hg=>?_;have KX:=hY w _ AAB;obtain⟨fd,hb,hF⟩:=F w mg fa _ KX G.T.g hmg;exact G7 KX G.T.g G.T.b G.T.builtins G.T.nolimit hg hobj hints (VX hlen hn2) hr hF hb (λH hO hS=>hsp w H a ns hlen hO hS) λH e s'=>hCX w H s₁ e s'
end L2
namespace Dv
open PySem L2 PySem.W
inductive AV(K:Frag)(vs:List V)(H:Hp)(Q:VK):Prop
 |mk:∀(a:Addr)(ns:A06),(vs=[.ref a])->(bW K H a (ns.map V.int))->(ns.length<=63)->(∀H',Q (.bl true) H')->AV K vs H Q
def FG (K:Frag):Sp:=λvs H Q _E3=>AV K vs H Q
def vC:bG:=λds Q x=>∃ns:A06,ds=[.list (ns.map .int)]/\ns.length<=63/\Q [] .sh (.bool true)
def LK(h:FG K vs H Q E):cF mg K [false] vC vs H Q E:=by
 obtain⟨a,ns,rfl,r,hl,q⟩:=h;refine⟨[.list (ns.map .int)],[],H,λ_ _ r=>r=.bool true,xF,ah.refl _,.sh (.lst r (sW ns)) .nil,⟨ns,rfl,hl,rfl⟩,λus k r u H' Hm' fp e _ _ _ _ _ o _=>?_,λ_ _ _ _ _ _ z=>z.elim⟩;cases e;cases o with
 |sh h=>cases h;exact q H'
def GQ{l:OpenLaw}{YP:World->Heap->Prop}{d:DefRec}{K:Params->Frag}{k:Nat}(hn:l.most=some 63)(hdf:d.params.defaults=[])(hr:dM k callerA)(hY:∀(w:World)(h:Heap),YP w h->(K w.params).In h)(F:∀(w:World)(mg:Zp)(fa:Addr)(h:Heap),(K w.params).In h->h.Ns mainGlobals mg->mg d.name=some (.ref fa)-> ∃fd:FuncData,(∀(s:Shared)(u:Value),BindsTo s fd ⟨[u],[]⟩ [(pn,u)])/\∀base:Heap,(K w.params).In base->base.Ns mainGlobals mg->gA l.prog w (K w.params) mg base (fh l.prog w) k fa fd [pn] (cF mg (K w.params) [false] vC)) : WalkO q loose XP YP l.row.toRowW d [] (λf vs=>PySem.call f vs):=
 L2.NJ (n:=63) (k:=k) (x:=pn) (CX:=λw=>fh l.prog w) (sp:=λw=>FG (K w.params)) hn (by decide) hdf hr hY (λw mg fa h h1 h2 h3=>by
  obtain⟨fd,hb,hF⟩:=F w mg fa h h1 h2 h3;exact⟨fd,hb,λbase g1 g2=>(hF base g1 g2).imp λvs H Q E z=>LK z⟩) (λ_ _ a ns hl _ hS=>⟨a,ns,rfl,hS,hl,λ_=>rfl⟩) λw H s e s' z=>by
  obtain⟨_,_,_,_,_,_,_,_,_,_,_,_,_,_,_,z⟩:=z;exact z.elim
end Dv
namespace TS
open PySem PyProof.Rows
variable{prog:Program}{w:World}{A:Around}{E:Zn}{s:Shared}{kd:SortKind}{P:Value->Prop}{xs0:Array Keyed}
def PR{st:SortSt}(L:vf prog w A s kd P)(G:Good P xs0)(B:SB kd xs0 st)(p0:pendingOf st=#[])(h2:2<=xs0.size)(h64:xs0.size<64)(h:∀st',SB kd xs0 st'->Q () st'):wpS (model prog w) A E s sortRuns' Q st:=by
 rw[sortRuns'_eq];refine VE (wpS_get ?_);dsimp only;have hmr:minRun' xs0.size xs0.size 0=xs0.size:=by
  obtain⟨f,hf⟩:∃f,xs0.size=f+1:=⟨xs0.size-1,by lia⟩;have:minRun' (f+1) xs0.size 0=xs0.size:=by rw[minRun'_succ,if_pos h64];rfl
  rwa[<-hf]at this
 simp only[B.size,hmr];refine VE (Wo (Wq
  (I:=λx c st'=>(x=0/\c=(none,0)/\SB kd xs0 st'/\pendingOf st'=#[])\/(1<=x/\c=(none,xs0.size)/\SB kd xs0 st'/\(pendingOf st').size=1))
  (Q:=λc st'=>c=(none,xs0.size)/\SB kd xs0 st'/\(pendingOf st').size=1) ?step ?fin (.inl ⟨rfl,rfl,B,p0⟩)) ?post)
 case fin=>
  rintro c st' (⟨hx,_,_⟩|⟨_,hc,hD⟩)
  .lia
  .exact⟨hc,hD⟩
 case step=>
  rintro x c st' _ hx (⟨rfl,rfl,B1,p1⟩|⟨hx1,rfl,hD⟩)
  .dsimp only;rw[if_neg (by lia)]
   simp only[YM,Nat.min_self,YF];refine VE (Jy L G B1 (by lia) (by lia) λm st2 B2 p2 m1 m2=>?_)
   dsimp only;have push:∀st3:SortSt,SB kd xs0 st3->pendingOf st3=#[]->SB kd xs0 (setPending st3 ((pendingOf st3).push (0,xs0.size,0)))/\(pendingOf (setPending st3 ((pendingOf st3).push (0,xs0.size,0)))).size=1:=λst3 B3 p3=>
    ⟨⟨B3.perm,B3.kind,B3.ok⟩,by show((pendingOf st3).push _).size=1;rw[p3];rfl⟩
   by_cases hlt:m<xs0.size
   .rw[if_pos hlt];refine VE (wpS_lift (Ww ⟨rfl,?_⟩));refine VE (P8 L G B2 (by lia) λst3 B3 p3=>?_)
    simp only[YR,We,WC];refine VE (wpS_get ?_);have p4:pendingOf st3=#[]:=p3.trans (p2.trans p1);have hb:(pendingOf st3).back?=none:=by rw[p4];rfl
    rw[hb];dsimp only;exact VE (wpS_modify (VT (.inr ⟨by lia,rfl,push st3 B3 p4⟩)))
   .rw[if_neg hlt];have hm:m=xs0.size:=by lia
    subst hm;refine VE (wpS_get ?_);have p4:pendingOf st2=#[]:=p2.trans p1;have hb:(pendingOf st2).back?=none:=by rw[p4];rfl
    rw[hb];dsimp only;exact VE (wpS_modify (VT (.inr ⟨by lia,rfl,push st2 B2 p4⟩)))
  .dsimp only;rw[if_pos (V4 _)];exact VT ⟨rfl,hD⟩
 case post=>
  rintro c st'⟨rfl,B1,p1⟩;dsimp only;refine VE (Wo (Wq (I:=λ_ c st''=>st''=st'/\c=(none,())) (Q:=λc st''=>st''=st'/\c=(none,())) ?_ (λ_ _ hh=>hh) ⟨rfl,rfl⟩) ?_)
  .rintro x c st'' _ _⟨rfl,rfl⟩;refine VE (wpS_get ?_);rw[if_pos (by rw[p1];exact V4 1)]
   exact VT ⟨rfl,rfl⟩
  .rintro c st''⟨rfl,rfl⟩;exact VT (h _ B1)
def zC{a:Addr}{n:Nat}(ho:s.heap.get? a=some (seqObj "list" vs.toArray n))(hv:∀v∈vs,IsPair s.heap v)(few:vs.length<=63)(h:∀us:Zx,us.toList.Perm vs->R (.done (.ret .none)) { s with heap:=sortedHeap s.heap a vs us }):wpAny (model prog w) A (Builtin.«list.sort» ⟨[.ref a],[]⟩) R E s:=by
 have line:(1000:Nat)<=sizeLine:=by decide
 have az:a<s.heap.objs.size:=VC ho;rw[list_sort_plain (a:Addr)];refine V0 (Yo ho rfl (?_:_));refine V0 (listUpdate_at ho rfl (?_:_) (by simp;lia) (by simp));obtain⟨ep,g1⟩:∃ep,(s.heap.update a (Obj.mapSeq λ_=>#[])).get? a=some (seqObj "list" #[] ep):=⟨_,get?_update_seq ho λ_=>#[]⟩;refine V0 (seqEpoch_at g1 rfl (?_:_));refine V0 (wpAny_newTuple (?_:_) (by simp;lia));refine V0 (wpAny_newList (?_:_));refine W9 (?_:_);have g6:(((s.heap.update a (Obj.mapSeq λ_=>#[])).push (seqObj "tuple" vs.toArray 0)).push (seqObj "list" #[] 0)).get? a=some (seqObj "list" #[] ep):=VS _ (VS _ g1);have keep:∀b o,b≠a->s.heap.get? b=some o->(((s.heap.update a (Obj.mapSeq λ_=>#[])).push (seqObj "tuple" vs.toArray 0)).push (seqObj "list" #[] 0)).get? b=some o:=λb o hb e=>VS _ (VS _ ((Wm _ _ (Ne.symm hb)).trans e));have hv6:∀v∈vs,IsPair (((s.heap.update a (Obj.mapSeq λ_=>#[])).push (seqObj "tuple" vs.toArray 0)).push (seqObj "list" #[] 0)) v:=λv m=>(hv v m).keep ho rfl keep;refine id (?_:wpAny (model prog w) A _ R E { s with heap:=((s.heap.update a (Obj.mapSeq λ_=>#[])).push (seqObj "tuple" vs.toArray 0)).push (seqObj "list" #[] 0) });dsimp only;have psz:(vs.toArray.zip vs.toArray).size=vs.length:=by simp
 have out:∀zs:Array Keyed,zs.Perm (vs.toArray.zip vs.toArray)->(zs.map (·.2)).toList.Perm vs:=λzs p=>by
  have p2:=(Array.perm_iff_toList_perm.mp p).map (·.2);rw[Array.toList_map];refine p2.trans ?_;have:((vs.toArray.zip vs.toArray).toList.map (·.2))=vs:=by rw[Array.toList_zip];simp[List.map_snd_zip]
  rw[this]
 by_cases h2:vs.toArray.size<2;{rw[if_pos h2,if_pos h2];refine V0 (V1 (?_:_));rw[StateT.run_pure];refine V0 (V1 (?_:_));dsimp only;refine V0 (seqEpoch_at g6 rfl (?_:_));have o1:=out (vs.toArray.zip vs.toArray) (Array.Perm.refl _);have l1:=o1.length_eq;rw[Wa]at l1;refine V0 (listUpdate_at g6 rfl (?_:_) (by simp) (VX (Ym l1) (by lia)));simp only[bne_self_eq_false,We,WC];refine V1 (?_:_);exact h _ o1};rw[if_neg h2,if_neg h2];have ne:vs≠[]:=λz=>h2 (by rw[z];decide);refine V0 (Ej (s:={ s with heap:=((s.heap.update a (Obj.mapSeq λ_=>#[])).push (seqObj "tuple" vs.toArray 0)).push (seqObj "list" #[] 0) }) ne hv6 (?_:_));refine V0 (Vw (PR (kd:=tuples' true) (P:=IsPair (((s.heap.update a (Obj.mapSeq λ_=>#[])).push (seqObj "tuple" vs.toArray 0)).push (seqObj "list" #[] 0))) (xs0:=vs.toArray.zip vs.toArray) (s:={ s with heap:=((s.heap.update a (Obj.mapSeq λ_=>#[])).push (seqObj "tuple" vs.toArray 0)).push (seqObj "list" #[] 0) }) (Q:=λ_ st'=>SB (tuples' true) (vs.toArray.zip vs.toArray) st') D0 (λk p hp=>?_) ⟨Array.Perm.refl _,rfl,rfl⟩ rfl (by rw[psz];rw[VM]at h2;lia) (by rw[psz];lia) λst' B=>B) ?_ λ_ _ e=>e);{have m:p∈(vs.toArray.zip vs.toArray).toList:=VV (by rw[WK];exact hp);rw[Array.toList_zip]at m;exact hv6 _ (Yc m).1};rintro⟨⟨⟩,st'⟩s'⟨rfl,B⟩;dsimp only;refine V0 (seqEpoch_at g6 rfl (?_:_));have o1:=out _ B.perm;have l1:=o1.length_eq;rw[Wa]at l1;refine V0 (listUpdate_at g6 rfl (?_:_) (by simp) (VX (Ym l1) (by lia)));rw[B.ok];simp only[bne_self_eq_false,We,WC];refine V1 (?_:_);exact h _ o1
end TS
namespace L2
open PySem PySem.Spec PyProof.Rows
section
variable{X:Cx}
inductive An(K:Zv)(xs:List V)(H:Hp)(Q:VK):Prop
 |mk:∀(a:Addr)(ys:List V),(xs=[.ref a])->(bH K H a ys)->((∀y∈ys,∃(b:Addr) (i j:Int),y=.ref b/\bR K H b [.int i,.int j]))->(ys.length<=63)->(∀(zs:List V)(p:Addr),zs.Perm ys->H p=none->Q (.ref p) (upd H p (.lst zs)))->An K xs H Q
def CI (K:Zv):List V->Hp->VK->Prop:=λxs H Q=>An K xs H Q
def xx:b8 X (.builtin "sorted") (CI X.K):=by
 intro pins s U H xs us Q I r h;obtain⟨a,ys,rfl,hq,tu,few,q⟩:=h;obtain⟨u,rfl,ru⟩:=r.one;cases ru;obtain⟨its,rv,p,_⟩:=I.list hq;have hlen:its.length=ys.length:=rv.length.symm;have hv:∀v∈its,TS.IsPair s.heap v:=λv m=>by
  obtain⟨i,hi⟩:=W6 m;have go:∀{ys:List V}{its:A00},Vals ys its->∀(i:Nat)(u:Value),its[i]?=some u->∃x,ys[i]?=some x/\RelV x u:=λ{ys its} r=>by
   induction r with
   |nil=>exact λi u h=>(nomatch h)
   |cons h _ ih=>
    intro i u e;cases i with
    |zero=>cases e;exact⟨_,rfl,h⟩
    |succ i=>exact ih i u e
  obtain⟨x,hx,rx⟩:=go rv i v hi;obtain⟨b,i1,j1,rfl,sb⟩:=tu x (VV hx);cases rx;obtain⟨its2,r2,⟨o2,e2,c2,n2,d2⟩,_⟩:=I.tuple sb;cases r2 with
  |cons ra r3=>
   cases r3 with
   |cons rb r4=>cases r4;obtain⟨t,rfl⟩:=ra;obtain⟨u,rfl⟩:=rb;exact⟨b,o2,i1,j1,t,u,n2,rfl,e2,c2,d2⟩
 have line:(1000:Nat)<=sizeLine:=by decide
 refine Calls.call_function_entry kind_sorted plain_sorted entry_sorted (args_sorted1 _) (?_:_);unfold Builtin.«sorted»;refine V0 (m:=checkCount "sorted" 1 1 _) (V1 (?_:_));refine V0 (collect_list p.isList (?_:_) (by lia));refine V0 (wpAny_newList (?_:_) (by lia));have sz:((s.heap.push (seqObj "list" #[] 0)).update s.heap.objs.size (Obj.mapSeq (·++its.toArray))).objs.size=s.heap.objs.size+1:=by rw[Heap.size_update];exact size_push' _ _
 have g0:(((s.heap.push (seqObj "list" #[] 0)).update s.heap.objs.size (Obj.mapSeq (·++its.toArray))).push (seqObj "list" its.toArray 0)).get? (s.heap.objs.size+1)=some (seqObj "list" its.toArray 0):=by rw[<-sz];exact W0 _ rfl
 have old:∀b o,s.heap.get? b=some o->(((s.heap.push (seqObj "list" #[] 0)).update s.heap.objs.size (Obj.mapSeq (·++its.toArray))).push (seqObj "list" its.toArray 0)).get? b=some o:=λb o e=>VS _ ((Wm _ _ (Xc (VC e))).trans (VS _ e));refine id (?_:wpAny _ _ _ _ _ { s with heap:=((s.heap.push (seqObj "list" #[] 0)).update s.heap.objs.size (Obj.mapSeq (·++its.toArray))).push (seqObj "list" its.toArray 0) });rw[sz];have hv2:∀v∈its,TS.IsPair (((s.heap.push (seqObj "list" #[] 0)).update s.heap.objs.size (Obj.mapSeq (·++its.toArray))).push (seqObj "list" its.toArray 0)) v:=λv m=>by obtain⟨b,o,i,j,t,u,n,e,ho,r⟩:=hv v m;exact⟨b,o,i,j,t,u,n,e,old b o ho,r⟩
 refine V0 (W9 (Wu slot_list_sort ⟨_,g0,rfl⟩ entry_list_sort (TS.zC g0 hv2 (by lia) λout pm=>⟨_,rfl,(?_:_)⟩) (args_list_sort _)));obtain⟨n,hn⟩:=sortedHeap_at (vs:=its) (out:=out) g0;obtain⟨zs,pz,rz⟩:=G8 pm rv;have new:s.heap.get? (s.heap.objs.size+1)=none:=ZF (Nat.le_succ _);have I2:=I.Ko (a:=s.heap.objs.size+1) (o:=.lst zs) (t':=s.toks) (h':=sortedHeap (((s.heap.push (seqObj "list" #[] 0)).update s.heap.objs.size (Obj.mapSeq (·++its.toArray))).push (seqObj "list" its.toArray 0)) (s.heap.objs.size+1) its out) (λb o hb=>by
   have lt:=VC hb;rw[sortedHeap_old (VO (YL lt)) (by rw[size_push',sz];exact YL (YL lt))]
   exact old b o hb) new
  ⟨by rw[pz.length_eq];lia,out.toList,n,rz,by simpa using hn⟩
 exact V1 ⟨_,rfl,.ref (s.heap.objs.size+1),_,I2,rfl,q zs _ pz (I.mR new)⟩
end
end L2
namespace Dv
open PySem L2 PySem.W
def pZ:DR:=λds P=>∃ps:Zu,ds=[.list (ps.map pD)]/\ps.length<=63/\∀qs:Zu,qs.Perm ps->P (.ow false) (.list (qs.map pD))
def JX:∀{zs ys:List V},zs.Perm ys->∀{ps:Zu},ay K H ys (ps.map pD)->∃qs:Zu,qs.Perm ps/\ay K H zs (qs.map pD):=by
 intro zs ys h;induction h with
 |nil=>intro ps r;exact⟨ps,.refl _,r⟩
 |cons x _ ih=>
  intro ps r;cases ps with
  |nil=>cases r
  |cons p ps=>
   cases r with
   |cons h t=>obtain⟨qs,pq,r'⟩:=ih t;exact⟨p::qs,pq.cons _,.cons h r'⟩
 |swap x y l=>
  intro ps r
  match ps,r with
  |p::p2::ps,.cons h (.cons h2 t)=>exact⟨p2::p::ps,List.Perm.swap _ _ _,.cons h2 (.cons h t)⟩
 |trans _ _ ih1 ih2=>intro ps r;obtain⟨q1,p1,r1⟩:=ih2 r;obtain⟨q2,p2,r2⟩:=ih1 r1;exact⟨q2,p2.trans p1,r2⟩
def Ie:cM K pZ (CI K):=by
 rintro H Hm vs ds P Q s r⟨ps,rfl,hn,h⟩q;obtain⟨x,rfl,h1⟩:=dH r;obtain⟨a,xs,rfl,ha,r1⟩:=dX h1;have l1:xs.length=ps.length:=by rw[r1.len,V2]
 refine⟨a,xs,rfl,(bW.mono s ha).sq,λy hy=>?_,by rw[l1];exact hn,λzs p pm hp=>?_⟩
 .obtain⟨i,hi⟩:=W6 hy;obtain⟨d,e,r'⟩:=r1.TY hi;rw[VA]at e;obtain⟨p,_,rfl⟩:=X5.mp e;cases r' with
  |tup b r2=>obtain⟨x,y,rfl,h2,h3⟩:=fV r2;cases h2;cases h3;exact⟨_,_,_,rfl,bR.of (s _ _ b)⟩
 obtain⟨qs,pq,r'⟩:=JX pm r1;exact bO.nl q s (h qs pq) hp r'
variable{X:Cx}{Ex:XK}{Y:A05}{a:Expr}{p pos:Pos}{as:List Arg}
def Fz(hm:X.mg "sorted"=none)(S:aN X Ex Y [a] as)(hg:Gl X "sorted":=by rfl)(ns:noStar a=true:=by rfl):SE X Ex Y (.Call (.Name "sorted" p) [a] [] pos) (aa pZ as):=fD xx Ie hg hm PyProof.Rows.boot_sorted (by decide) (by decide) (by rw[VL,ns];rfl) S
end Dv
namespace Dv
open PySem L2 PySem.W PyProof.Rows
def xy{M:Model}{A:Around}{E:Zn}{s:Shared}{a b:Value}{T id:String}{Q:Zn}(ha:s.TypeIs a T)(hb:s.TypeIs b T)(hl:typeLookup (.type T) (dunderI "add")=pure (some (.builtin id)))(hi:isSeqSlotId id=true)(hfill:fillsNumberSlot (.type T) "add"=pure false)(hc:wpAny M A (call (.builtin id) [a,b]) Q E s):wpAny M A (inplaceOp .Add a b) Q E s:=by
 unfold inplaceOp;refine W9 ?_;have hfi:fillsInplaceSlot (.type T) "add" (Operator.Add == .Add)=pure false:=by unfold fillsInplaceSlot;show(typeLookup (.type T) (dunderI "add")>>=λfi=>pure (fi.isSome&&!isSeqSlot fi))=pure false;rw[hl];show(pure ((some (Value.builtin id)).isSome&&!isSeqSlotId id):Sem Bool)=pure false;rw[hi];rfl
 have hsi:seqSlot? (.type T) (dunderI "add")=pure (some (.builtin id)):=PySem.seqSlot_of hl hi;refine V0 (Xq ha (V0 (wpAny_of_eq hfi ?_)));show wpAny M A (if false=true then _ else _) Q E s;rw[if_neg VQ];refine V0 (binaryOp1_none (nm:="add") ha hb hfill ?_);refine V0 (wpAny_of_eq hsi ?_);exact V0 (Ww hc)
def US (K:Frag):yG:=λx y H Q=>∃l b xs zs,x=.ref l/\y=.ref b/\H l=some (.lst xs)/\bW K H b zs/\xs.length+zs.length<=sizeLine/\Q (.ref l) (upd H l (.lst (xs++zs)))
variable{X:Cx}{Ex:XK}
def Mv:Ke X .Add (US X.K):=by
 intro pins s U H x y v u Q I rx ry h;obtain⟨l,b,xs,zs,rfl,rfl,hH,hB,hz,q⟩:=h;cases rx;cases ry;obtain⟨z,its,n,r,hl,e⟩:=I.yx hH;obtain⟨z2,its2,n2,r2,e2⟩:=hB.get I;have hl2:=r2.length;have hsz:its.toArray.size+its2.toArray.size<=sizeLine:=by rw[VM,VM];lia
 have hlong:¬(!its.toArray.isEmpty&&Builtin.List.listTooLong (its.toArray.size+its2.toArray.size))=true:=by rw[su hsz,YO];exact VQ
 refine xy (T:="list") ⟨_,e,rfl⟩ ⟨_,e2,rfl⟩ F.slot_list_iadd.lookup (by decide+kernel) noFill_list_add ?_;refine XO F.slot_list_iadd ⟨_,e,rfl⟩ F.entry_list_iadd (F.args_list_iadd_2 _ _)
  (AutoSeq1.list___iadd___list_list_0 l its.toArray n b its2.toArray n2 hlong (by rw[VM];lia) (by lia)) ⟨e,e2,?_⟩
 refine⟨.ref l,_,I.zU (its':=its++its2) hH e (by simp) (r.append r2) ?_,rfl,q⟩;rw[VI];lia
def SA{i:Nat}(hN:X.N.Nodup)(hi:X.N[i]?=some x)(hl:Loc X.env.scope x)(hf:X.fn x=true\/X.env.scope.names.lookup x=some .local)(h:SE X Ex (aO X) e d):S1 X Ex (.AugAssign (.Name x pos') .Add e pos) (xZ sizeLine i d):=by
 intro g D' E U H Hm F D hx R p nx rt;obtain⟨hh,p⟩:=p;have hh':here E i=true:=by unfold jb at hh;unfold here;split at hh;{rename_i q;rw[q]};cases hh
 obtain⟨v0,hv0⟩:=lC R hh';refine WS.of (NT hN hi hl bf Mv hf) ⟨v0,bP (fc (aS hi)) hv0,h g D'.xc E U H Hm F _ _ hx R p λE' k v u H' Hm' F' fp p' R' s' T=>?_⟩;obtain⟨fz,pp,ds,es,e1,rfl,hlen,p'⟩:=p';obtain⟨Hm2,up,R2,rp⟩:=T.cZ R' fz;obtain⟨b,zs,rfl,hb,rz⟩:=dX rp;obtain⟨v1,h1,h2⟩:=R2.slot i _ _ e1;rw[hv0]at h1;cases h1;generalize hfi:F' i=fi at h2;cases h2 with
 |@ow _ a xs _ ha rx=>
  obtain⟨a',xs',g1,g2,g3,g4,R3⟩:=R2.chg (es:=ds++es) e1 (rx.app rz);rw[hv0]at g1;cases g1;rw[ha]at g2;cases g2;refine⟨a,b,xs,zs,rfl,rfl,ha,bW.mono R2.sub hb,by rw[rx.len,rz.len];exact hlen,?_⟩;show D.nx ((sel (aO X) U).set i (some (.ref a))) _;have hsel:(sel (aO X) U).set i (some (.ref a))=sel (aO X) U:=by refine W8 λj=>?_;rw[Wf];by_cases c:i=j;{subst c;have:=bP (fc (aS hi)) hv0;rw[if_pos rfl,this,if_pos];rcases W4 i (sel (aO X) U).length with z|z;{exact z};rw[VZ z]at this;cases this};rw[if_neg c]
  rw[hsel];exact nx _ _ _ _ _ p' R3 (s'.trans up)
def Um(i:Nat)(hN:X.N.Nodup)(h:SE X Ex (aO X) e d)(hi:X.N[i]?=some x:=by rfl)(hl:Loc X.env.scope x:=by first|exact Or.inl rfl|exact Or.inr rfl)(hf:X.fn x=true\/X.env.scope.names.lookup x=some .local:=by first|exact Or.inl rfl|exact Or.inr rfl):S1 X Ex (.AugAssign (.Name x pos') .Add e pos) (xZ sizeLine i d):=SA hN hi hl hf h
end Dv
namespace Dv
open PySem L2 PySem.W
variable{K:Frag}{g:Gh}{E:En}{U:St}{H H' Hm Hm':Hp}{F:Nat->A01}
def Rl.RL(R:Rl K g E U H Hm F){p:Addr}(A:oN g F H Hm [p]):Rl K g E U (upd H p o) Hm F where
 len:=R.len
 sub:=λb u e=>by
  have:b≠p:=λz=>by rw[z,A.off p V3]at e;cases e
  rw[ai this];exact R.sub _ _ e
 slot:=λi k d e=>by
  obtain⟨v,h1,h2⟩:=R.slot i k d e;exact⟨v,h1,h2.step (ah.refl _) λa ha=>ai λz=>A.aF p V3 i (z▸ha)⟩
 off:=R.off
 bu:=λi a ha=>by
  obtain⟨u,hu,n⟩:=R.bu i a ha;have ne:a≠p:=λz=>A.aF p V3 i (z▸ha)
  exact⟨u,by rw[ai ne];exact hu,n⟩
 aF:=R.aF
 fr:=λq o hq ho=>by
  have:q≠p:=λz=>by rw[z,A.new p V3]at ho;cases ho
  rw[ai this];exact R.fr q o hq ho
 new:=R.new
 pin:=R.pin
 old:=R.old
end Dv
namespace SM
open PySem
variable{prog:Program}{w:World}{K:Type}[DecidableEq K]{knd:HeapKind prog w K}{A:Around}{E:Zn}{s:Shared}{d a:Addr}{k:K}{xs:List (K×Addr×Value)}
def GX(hu:knd.room A)(hkey:knd.is s.heap k a)(hm:s.heap.DictOfH knd d xs)(hsz:xs.length<=sizeLine)(old:∀p,atKey xs k=some p->Q p.2 { s with toks:=s.toks+knd.draws k })(new:atKey xs k=none->∀h',h'.DictOfH knd d (storedH xs k a dv)->Heap.SameBut d s.heap h'->Q dv { s with heap:=h',toks:=s.toks+knd.draws k }):wpAny (model prog w) A (dictSetDefault d (.ref a) dv) Q E s:=by
 obtain⟨o,es,ep,ho,hc,hd,he,his,hn⟩:=hm;unfold dictSetDefault;try with_reducible refine W9 ?_
 refine V0 (knd.pyHash hu hkey (?_:_));refine V0 (wpAny_dictFind_heap (s:={ s with toks:=s.toks+knd.draws k }) hu hkey ho hd he his hn (λhno=>?_) λj p hj=>?_)
 .have hnot:k∉xs.map (·.1):=not_mem_keys_of_get hno;have hat:=atKey_none_of_get hno;refine V0 (Ww (V0 (wpAny_updateDictKeys (hz:=by have e:=size_of_entries he;lia) (s:={ s with toks:=s.toks+knd.draws k }) ho hd (V1 (new hat _ ⟨_,_,ep+1,XN _ ho (Obj.isFreed_of_dict (Obj.data_mapDictKeys hd _)),hc.mapDictKeys _,Obj.data_mapDictKeys hd _,?_,?_,?_⟩ (XX ..))))));{rw[storedH_new hat];simp[he,entryOfKey]}
  .rw[storedH_new hat];intro x hx;rcases VU.mp hx with hx|hx;{exact knd.keeps (his x hx) ho hd (XX ..)};have e:x=(k,a,dv):=by simpa using hx
   subst e;exact knd.keeps hkey ho hd (XX ..)
  rw[storedH_new hat,VJ,Xl];refine⟨hn,by simp,λx hx y hy e=>?_⟩;have e2:y=k:=by simpa using hy
  exact hnot (by rw[<-e2,<-e];exact hx)
 have hat:=atKey_of_get hn hj;refine V0 (Yw (s:={ s with toks:=s.toks+knd.draws k }) ho hd (?_:_));rw[entry_at he j,hj];exact V0 (Ww (V1 (old p hat)))
def tW(hu:knd.room A.in1)(hkey:knd.is s.heap k a)(hd0:(d==sysModules)=false)(hm:s.heap.DictOfH knd d xs)(hsz:xs.length<=sizeLine)(old:∀p,atKey xs k=some p->Q p.2 { s with toks:=s.toks+knd.draws k })(new:atKey xs k=none->∀h',h'.DictOfH knd d (storedH xs k a dv)->Heap.SameBut d s.heap h'->Q dv { s with heap:=h',toks:=s.toks+knd.draws k }):wpAny (model prog w) A (call (.builtin "dict.setdefault") [.ref d,.ref a,dv]) Q E s:=by refine Wu F.slot_dict_setdefault hm.typeIs F.entry_dict_setdefault (?_:_) (F.args_dict_setdefault_3 _ _ _);unfold Builtin.«dict.setdefault»;refine V0 (?_:_);unfold Builtin.Dict.keyAndDefault;refine V0 (wpAny_notOrdered_dict hm.typeIs (?_:_));refine id (?_:wpAny _ _ (pure (d,Value.ref a,some dv)) _ _ s);refine V1 (?_:_);refine id (?_:wpAny _ _ (if(d==sysModules)=true then _ else(dictSetDefault d (.ref a) dv>>=_)) _ _ s);rw[if_neg (by rw[hd0];exact VQ)];exact V0 (GX hu hkey hm hsz (λp hp=>V1 ⟨p.2,rfl,old p hp⟩) λhn h' hm' hs'=>V1 ⟨dv,rfl,new hn h' hm' hs'⟩)
end SM
namespace L2
open PySem PySem.Spec PyProof.Rows
variable{X:Cx}
def RX:V->List V->Hp->VK->Prop:=λx vs H Q=>∃(a b:Addr)(kvs:List (List Key×V))(k:List Key) (v:V),x=.ref a/\vs=[.ref b,v]/\H a=some (.dT kvs)/\H b=some (.tup (k.map kV))/\kvs.length<sizeLine /\
 match cI kvs k with
 |some u=>Q u H
 |none=>Q v (upd H a (.dT (kvs++[(k,v)])))
def LN(hu:X.A.units+8<cLine):EZ X "dict.setdefault" RX:=by
 intro pins s U H x vs v us Q I rx rv h;obtain⟨a,b,kvs,k,y,rfl,rfl,ha,hb,hl,q⟩:=h;cases rx;obtain⟨u1,u2,rfl,ru1,ru2⟩:=rv.two;cases ru1;obtain⟨z,hd,xs,rel,dd⟩:=Kv I.hok ha;have hz:xs.length<=sizeLine:=by rw[<-Paired.length rel];exact z
 have rv2:=rel.val k;refine SM.tW (YE (by lia)) (mX I.hok hb) hd dd hz (λp hp=>?_) λhn h' dd' hs=>?_
 .rw[hp]at rv2;cases e:cI kvs k with
  |none=>rw[e]at rv2;exact absurd rv2.fW (by simp)
  |some u=>rw[e]at rv2 q;obtain⟨w',hw,rw'⟩:=jG.some_of (v:=u) (o:=some p.2) rv2;cases hw;exact⟨u,H,I.tok _,rw',q⟩
 rw[hn]at rv2;cases e:cI kvs k with
 |some u=>rw[e]at rv2;exact absurd rv2.fW (by simp)
 |none=>
  rw[e]at q;have ep:putK kvs k y=kvs++[(k,y)]:=by unfold putK;rw[if_neg];rw[sD,e];decide
  have rp:=rel.put k hb ru2;rw[ep]at rp;obtain⟨qo,es,ep',hq,h2,h3,h4,_,h5⟩:=dd';refine⟨y,_,uX I (ob:=.dT (kvs++[(k,y)])) (by rw[ha];exact Wt) hs ⟨qo,hq⟩ ⟨by rw[VI];exact hl,hd,_,rp.keeps λc ys ec=>?_,qo,es,ep',hq,h2,h3,h4,h5⟩,ru2,q⟩;rw[ai (K7 ec ha (λz=>nomatch z))];exact ec
end L2
namespace SM
open PySem
def qu (h:Heap)(d:Addr)(es:Zr) (ep:Nat):Prop:=∃o,h.get? d=some o/\o.ExactDict/\o.data=.dict es ep
variable{prog:Program}{w:World}{A:Around}{E:Zn}{s:Shared}{es:Zr}{ep:Nat}{v d it:Addr}{i:Nat}
def qu.ty(h:qu s.heap d es ep):s.TypeIs (.ref d) "dict":=by obtain⟨o,ho,hc,_⟩:=h;exact⟨o,ho,hc.1⟩
def L4(hd:(d==sysModules)=false)(hm:qu s.heap d es ep)(q:Q (.ref s.heap.objs.size) { s with heap:=s.heap.push { cls:=.type "dict_values",data:=.fields #[.ref d] } }) : wpAny (model prog w) A (call (.builtin "dict.values") [.ref d]) Q E s:=by refine Wu F.slot_dict_values hm.ty F.entry_dict_values (?_:_) (F.args_dict_values_1 _);unfold Builtin.«dict.values»;refine V0 (?_:_);unfold Builtin.Dict.noArgs;refine V0 (wpAny_notOrdered_dict hm.ty (?_:_));refine id (?_:wpAny _ _ (pure d) _ _ s);refine V1 (?_:_);refine id (?_:wpAny _ _ (Builtin.Dict.showsAll d>>=_) _ _ s);unfold Builtin.Dict.showsAll;rw[if_neg (by rw[hd];exact VQ)];refine V0 (V1 (?_:_));exact V0 (Wl (V1 ⟨_,rfl,q⟩))
def Gg(hv:s.heap.IsValuesView v d)(hm:qu s.heap d es ep)(q:Q (.ref s.heap.objs.size) { s with heap:=s.heap.push { cls:=.type "dict_valueiterator",data:=.fields #[.ref d,.int 0 0,.int es.size 0,.int ep 0] } }):wpAny (model prog w) A (pyIter (.ref v)) Q E s:=by
 obtain⟨ov,v1,v2,v3⟩:=id hv;obtain⟨o,m1,m2,m3⟩:=id hm;refine wpAny_pyIter_slot hv.typeIs F.slot_dict_values_iter (Wu F.slot_dict_values_iter hv.typeIs F.entry_dict_values_iter (?_:_) (F.args_dict_values_iter_1 _));unfold Builtin.«dict_values.__iter__»;refine V0 (V1 (?_:_));refine V0 (?_:_);unfold Builtin.Dict_items.dictOf;refine V0 (XM v1 v3 (x:=.ref d) rfl (V1 (?_:_)));refine V0 (?_:_);unfold Builtin.Dict_items.newIterator;refine V0 (Yw m1 m3 (?_:_));refine V0 (wpAny_dictEpoch m1 m3 (?_:_));have own0:Builtin.Dict_items.ownsTuple "dict_valueiterator"=false:=by decide
 simp only[own0,We,WC];refine Wl (V1 ⟨_,rfl,"dict_valueiterator",_,⟨_,W0 _ rfl,rfl⟩,Yx.lookup,(?_:_)⟩);simpa[rawInt]using q
def Js(ht:s.heap.IsValIter it d i es.size ep)(hm:qu s.heap d es ep)(hx:es[i]?=some e)(q:∀h',h'.IsValIter it d (i+1) es.size ep->Heap.SameBut it s.heap h'->Q (some e.val) { s with heap:=h' }):wpAny (model prog w) A (pyNext (.ref it)) Q E s:=by
 obtain⟨o,t1,t2,t3⟩:=id ht;obtain⟨od,m1,m2,m3⟩:=id hm;unfold pyNext;refine V0 (wpAny_attempt (Yh (name:=Str.ofString "__next__") ht.typeIs Yx
  (Wu Yx ht.typeIs Zh (?_:_) (Zi _))))
 refine V0 (V1 (?_:_));refine V0 (?_:_);refine V0 (?_:_);first|refine V0 (Yy ht.typeIs (V1 (?_:_)))|refine V0 (Yz ht.typeIs (V1 (?_:_)))
 refine V0 (wpAny_fieldsOf t1 t3 (?_:_));have own0:Builtin.Dict_items.ownsTuple "dict_valueiterator"=false:=by decide
 simp only[own0,We,WC];refine id (?_:wpAny _ _ (if(Value.ref d==Value.none)=true then _ else _) _ _ s);have nn:¬((Value.ref d==Value.none)=true):=λz=>VQ z;rw[if_neg nn];refine V0 (V1 (?_:_));refine V0 (Yw m1 m3 (?_:_));rw[if_neg (by simp)];refine V0 (V1 (?_:_));refine V0 (wpAny_dictEpoch m1 m3 (?_:_));rw[if_neg (by simp)];refine V1 (?_:_);have lt:i<es.size:=(Yl.mp hx).1;have ev:es[i]=e:=(Yl.mp hx).2;simp only[show ¬((i:Int)<0)from Wx.mpr (YU i),WC,Yg,WQ lt];refine V0 (?_:_);first|refine V0 (Yy ht.typeIs (V1 (?_:_)))|refine V0 (Yz ht.typeIs (V1 (?_:_)))
 refine V0 (Za ht.typeIs (?_:_));refine id (?_:wpAny _ _ (setField (.ref it) 1 (rawInt ((i:Int)+1))>>=_) _ _ s);refine V0 (YI t1 t3 (by simp) (?_:_));have ht':(s.heap.update it (Obj.mapFields (·.setIfInBounds 1 (rawInt ((i:Int)+1))))).IsValIter it d (i+1) es.size ep:=
  ⟨_,XN _ t1 (ZT (Yn t3 _)),(Obj.cls_mapFields ..).trans t2,by rw[Yn t3];simp[rawInt]⟩
 generalize hU:s.heap.update it (Obj.mapFields (·.setIfInBounds 1 (rawInt ((i:Int)+1))))=AAA at ht'⊢;refine V0 (W9 (?_:_));refine V0 (Za (s:={ s with heap:=AAA }) ht'.typeIs (?_:_));refine V0 (Za (s:={ s with heap:=AAA }) ht'.typeIs (?_:_));refine id (?_:wpAny _ _ (pure es[i].val) _ _ _);refine V1 (V1 ⟨_,rfl,V1 (?_:_)⟩);rw[ev];exact q AAA ht' (hU▸XX ..)
def AI(hh:A.handled=none)(ht:s.heap.IsValIter it d i es.size ep)(hm:qu s.heap d es ep)(hx:es.size<=i)(q:∀h',Heap.ExtBut it s.heap h'->Q none { s with heap:=h' }):wpAny (model prog w) A (pyNext (.ref it)) Q E s:=by
 obtain⟨o,t1,t2,t3⟩:=id ht;obtain⟨od,m1,m2,m3⟩:=id hm;unfold pyNext;refine V0 (wpAny_attempt (Yh (name:=Str.ofString "__next__") ht.typeIs Yx
  (Wu Yx ht.typeIs Zh (?_:_) (Zi _))))
 refine V0 (V1 (?_:_));refine V0 (?_:_);refine V0 (?_:_);first|refine V0 (Yy ht.typeIs (V1 (?_:_)))|refine V0 (Yz ht.typeIs (V1 (?_:_)))
 refine V0 (wpAny_fieldsOf t1 t3 (?_:_));have own0:Builtin.Dict_items.ownsTuple "dict_valueiterator"=false:=by decide
 simp only[own0,We,WC];refine id (?_:wpAny _ _ (if(Value.ref d==Value.none)=true then _ else _) _ _ s);have nn:¬((Value.ref d==Value.none)=true):=λz=>VQ z;rw[if_neg nn];refine V0 (V1 (?_:_));refine V0 (Yw m1 m3 (?_:_));rw[if_neg (by simp)];refine V0 (V1 (?_:_));refine V0 (wpAny_dictEpoch m1 m3 (?_:_));rw[if_neg (by simp)];refine V1 (?_:_);simp only[show ¬((i:Int)<0)from Wx.mpr (YU i),WC,Yg,ZO hx];refine V0 (?_:_);first|refine V0 (Yy ht.typeIs (V1 (?_:_)))|refine V0 (Yz ht.typeIs (V1 (?_:_)))
 refine id (?_:wpAny _ _ (setField (.ref it) 0 .none>>=_) _ _ s);refine V0 (YI t1 t3 (by simp) (?_:_));refine id (?_:wpAny _ _ (newExc (.type "StopIteration") []>>=_) _ _ _);refine V0 (?_:_);simp only[newTuple,newExc];refine V0 (Wl (?_:_) (by size_fits));refine V0 (m:=firstArgMember _ _) (wpAny_of_eq (a:=Value.none) (by first|rfl|(simp only[firstArgMember];rfl)) (?_:_));refine Wl (?_:_) (by size_fits);simp only[raiseNew];refine V0 (wpAny_handled (?_:_));rw[show A.in1.handled=none from hh];refine V0 (V1 (wpAny_throw (?_:_)));refine V0 (wpAny_isInstance (T:="StopIteration") (b:=true) ⟨_,W0 _ rfl,rfl⟩ isSubtype_stop (?_:_));exact V1 (q _ (((XX ..).extBut.push _).push _))
end SM
namespace L2
open PySem PySem.Spec PyProof.Rows
theorem xh{α β:Type}{F:α->β->Prop}:∀{l:List α}{m:List β},Paired F l m->∀{i:Nat}{x:α},l[i]?=some x->∃y,m[i]?=some y/\F x y
 |_,_,.nil,_,_,h=>nomatch h
 |_,_,.cons r _,0,_,h=>by cases h;exact⟨_,rfl,r⟩
 |_,_,.cons _ t,i+1,_,h=>xh t (i:=i) h
end L2
namespace Dv
open PySem L2 PySem.W
variable{X:Cx}{Ex:XK}{Y:A05}{pos:Pos}{tg:Expr}
def set_same{U:St}{i:Nat}(h:U[i]?=some (some v)):U.set i (some v)=U:=by refine W8 λj=>?_;rw[Wf];by_cases c:i=j;{subst c;rw[if_pos rfl,h,if_pos (aS h)]};rw[if_neg c]
def Rec (K:Frag) (x:Str)(st:Stmt):Prop:=∃(f:Addr)(fd:FuncData),nsIn K mainGlobals x=some (some (.ref f))/\uF K x x st f fd
def Qi{K:Frag}{x:Str}{st:Stmt}{f:Addr}{oc:Value}{od an:Zz}{osl:Zm}{kV doc pm cdv ct:Value}(n:nsIn K mainGlobals x=some (some (.ref f)))(l:K.lookup f=some ⟨oc,od,.func (fnOf x x (ki st) (ir st) (au st) .none kV doc pm an cdv ct),osl⟩)(c:codeIn K cdv x=true)(k:keepIn K (.ref f)=true):Rec K x st:=⟨f,_,n,QV l c k⟩
def Nh (K:Frag) (x:Str):Prop:=∃C,nsIn K mainGlobals x=some (some (.ref C))/\kL K C EM "ValueError.__new__" none=true
def LU{K:Frag}{x:Str}{C:Addr}(h1:nsIn K mainGlobals x=some (some (.ref C)))(h2:kL K C EM "ValueError.__new__" none=true):Nh K x:=⟨C,h1,h2⟩
def bD{P:Program}{w:World}{K:Frag}{base:Heap}{mg:Zp}{k:Nat}{x:Str}{ps:A07}{sp:Sp}{st:Stmt}(N:∃h:Heap,K.In h/\h.Ns mainGlobals mg)(r:Rec K x st)(b:∀(kV doc pm:Value)(an:Zz)(cdv ct:Value)(us:A00),us.length=ps.length->bindArgs (fnOf x x (ki st) (ir st) (au st) .none kV doc pm an cdv ct) ⟨us,[]⟩=pure (ps.zip us))(ok:∀{f:Addr}{fd:FuncData},uF K x x st f fd->gA P w K mg base (fh P w) k f fd ps sp):bZ P w K mg base k x ps sp:=by obtain⟨f,fd,n,F⟩:=r;obtain⟨h,X,G⟩:=N;exact⟨f,fd,mg_of X G n,F.kp,F.binds b,ok F⟩
end Dv
namespace L2
open PySem PySem.Spec PyProof.Rows PySem.W
variable{X:Cx}
theorem x6:∀{vs:A00}{ds:Zy}{as:A01},ReadsAll h vs ds as->∀{i:Nat}{v:Value},vs[i]?=some v->∃d bs,ds[i]?=some d/\Reads h v d bs
 |_,_,_,.nil,_,_,e=>nomatch e
 |_,_,_,.cons r _,0,_,e=>by cases e;exact⟨_,_,rfl,r⟩
 |_,_,_,.cons _ t,i+1,_,e=>x6 t (i:=i) e
end L2
namespace Dv
open PySem L2 PySem.Spec PyProof.Rows PySem.W
inductive zP(K:Frag) (x:V)(vs:List V)(H:Hp)(Q:VK):Prop
 |mk:∀(p:Addr) (y:V)(xs:List V)(ds:Zy)(d:PyData) (j:Nat),(x=.ref p)->(vs=[y])->(bW K H p xs)->(jQ K H y d)->(mq K H xs ds)->(ds.all (dl 8)=true)->(dl 8 d=true)->(ds[j]?=some d)->((∀(m:Nat) e,m<j->ds[m]?=some e->e≠d))->(Q (.int j) H)->zP K x vs H Q
def Ma (K:Frag):V->List V->Hp->VK->Prop:=λx vs H Q=>zP K x vs H Q
variable{X:Cx}{Ex:XK}{Y:A05}
theorem zV{K:Frag}{H:Hp}:∀{xs:List V}{ds:Zy},mq K H xs ds->xs.length=ds.length
 |_,_,.nil=>rfl
 |_,_,.cons _ r=>congrArg (·+1) (zV r)
def Ff(hu:X.A.units+64<cLine):tL X "list.index" (Ma X.K):=by
 intro pins s U H x vs v us Q I rx rv h;obtain⟨p,y,xs,ds,d,j,rfl,rfl,hH,hy,hx,la,ld,hj,hno,q⟩:=h;cases rx;obtain⟨u,rfl,ru⟩:=rv.one;obtain⟨hz,its,n,r,e⟩:=hH.get I;obtain⟨as,ra⟩:=I.readsAll hx r;obtain⟨bs,rb⟩:=I.reads hy ru;have l1:=zV hx;have l2:=r.length;have hlt:j<its.length:=by have:=(Wj.mp hj).1;lia
 have line:sizeLine<2^62:=by decide
 have val:∀(m:Nat)(w:Value) e,its[m]?=some w->ds[m]?=some e->PyData.eqv (SeqAt.readOf s.heap w) d=decide (e=d):=λm w e' h1 h2=>by obtain⟨d',cs,h3,h4⟩:=x6 ra h1;rw[h2]at h3;cases h3;have l3:=VW.mp la e' (VV h2);rw[SeqAt.readOf_eq (fm l3).1 h4,yc l3 ld]
 refine XO F.slot_list_index ⟨_,e,rfl⟩ F.entry_list_index (F.args_list_index_2 _ _) (SeqAt.list_indexAt p its.toArray n none #[] u (λy=>PyData.eqv (SeqAt.readOf s.heap y) d) j (by simpa using hlt) (by lia) ?_ ?_) ⟨e,?_,⟨.int j,H,I.tok _,⟨_,rfl⟩,q⟩⟩;{show PyData.eqv (SeqAt.readOf s.heap its.toArray[j]) d=true;rw[val j _ d (by simp[hlt]) hj];exact Vu rfl}
 .intro m hm hmj;have hm':m<its.length:=by simpa using hm
  have hn:m<ds.length:=by lia
  show PyData.eqv (SeqAt.readOf s.heap its.toArray[m]) d=false;rw[val m _ ds[m] (by simp[hm']) (VG hn)];exact Vv (hno m _ hmj (VG hn))
 refine SeqAt.items_eqAt (xs:=ds) (by simpa using ra) rb (kj λe he=>(fm (VW.mp la e he)).1) (fm ld).1 ?_;have:=(fm ld).2;lia
end Dv
namespace SM
open PySem PySem.SetTable
variable{prog:Program}{w:World}{A:Around}{E:Zn}{s:Shared}{t:SetTable}{es:Array Ent}
def Jv{p:Nat}(hp:p<=es.size)(e:Ent):(insertAt es p e).toList.Perm (es.toList++[e]):=by
 have e1:(insertAt es p e).toList=es.toList.take p++e::es.toList.drop p:=by
  refine W8 λi=>?_;have lt:(es.toList.take p).length=p:=by rw[WI,Wa];lia
  rw[WK,nG hp];by_cases c:i<p;{rw[if_pos c,XJ (by lia),Ye c,WK]};rw[if_neg c,Xd (by lia),lt];by_cases c2:i=p;{rw[if_pos c2,c2,Nat.sub_self];rfl};rw[if_neg c2,show i-p=(i-1-p)+1 by lia,List.getElem?_cons_succ,YQ,show p+(i-1-p)=i-1 by lia,WK]
 rw[e1];have e2:es.toList++[e]=es.toList.take p++(es.toList.drop p++[e]):=by rw[<-Wv,Z0]
 rw[e2];exact List.Perm.append_left _ (List.perm_append_comm (l₁:=[e]))
end SM
namespace SM
open PySem PySem.SetTable PySem.W PyProof.Rows
variable{prog:Program}{w:World}{A:Around}{E:Zn}{s:Shared}{es:Array Ent}{ep:Nat}{a it:Addr}
def FN(q:Q (.ref s.heap.objs.size) { s with heap:=s.heap.push (lg w) }) : codeAny (model prog w) A (.call (.builtin "set.__new__") ⟨[.type "set"],[]⟩) (wants Q E) s:=by
 refine codeAny_of_tree (?_:_);show wpAny _ A.in1 (do
  checkBuiltinCall "set.__new__" ⟨[.type "set"],[]⟩
  again (.builtin "set.__new__" ⟨[.type "set"],[]⟩)) _ _ s
 refine V0 (wpAny_of_eq F.newCall_set_0 (V1 ⟨plainId_quiet F.plain_set_new _,codeAny_builtin F.entry_set_new (?_:_)⟩));rw[Around.under_plainId F.plain_set_new (_:Args)];unfold Builtin.«set.__new__»;unfold Builtin.Frozenset.newClass;have sub0:=sub_set_self;obtain⟨hp,g,d,tk,os⟩:=s;dsimp only
 wp_walk
 refine wpAny_askSetting (V1 (?_:_));dsimp only;simp only[newObj];refine V0 (wpAny_alloc (V1 (?_:_)));exact V1 q
def MC(q:Q (.ref s.heap.objs.size) { s with heap:=s.heap.push (lg w) }):wpAny (model prog w) A (call (.type "set") []) Q E s:=by
 obtain⟨cc,tl,hmro⟩:=F.called_set.mro;have made':=F.called_set.made;have sub':=F.called_set.sub;refine wpAny_call (codeAny_of_tree (?_:wpAny _ _ (callAny (.type "set") _) _ _ _));refine V1 ⟨Code.quiet_builtin _ (by decide+kernel),codeAny_builtin F.entry_type_call (?_:_)⟩;rw[Around.under_plain (weight_type_call_type "set" ([]:A00) []) rfl];have no':=F.called_set.notType;have can':=F.called_set.canCreate;have chk':=F.typeCall_set_0;repeat (any_goals (first|assumption|wp_step))
 refine YB (FN (E:=E) (Q:=λob s1=>ob=.ref s.heap.objs.size/\s1={ s with heap:=s.heap.push (lg w) }) ⟨rfl,rfl⟩) λr s1 hr1=>?_;cases r with
 |error e=>exact hr1
 |ok fl=>
  cases fl with
  |ret ob=>
   obtain⟨rfl,rfl⟩:=hr1;have zs:(s.heap.push (lg w)).get? s.heap.objs.size=some (lg w):=W0 _ rfl;have ty:Shared.TypeIs { s with heap:=s.heap.push (lg w) } (.ref s.heap.objs.size) "set":=⟨_,zs,rfl⟩;have li':=F.called_set.init.lookup;have bi':=F.called_set.init.bind (.ref s.heap.objs.size);repeat (any_goals (first|assumption|wp_step))
   refine YB (codeAny_call_builtin (R:=wants (λr s2=>r=.none/\Q (.ref s.heap.objs.size) s2) E) F.called_set.init.plain F.entry_set_init (check_set_init ty (?_:_))) λr2 s2 hr2=>?_
   .unfold Builtin.«set.__init__» noKeywords
    wp_walk
    exact⟨rfl,q⟩
   cases r2 with
   |error e=>exact hr2
   |ok fl2=>
    cases fl2 with
    |ret r=>obtain⟨rfl,hq⟩:=hr2;repeat (any_goals (first|assumption|wp_step))
    |_=>exact hr2.elim
  |_=>exact hr1.elim
end SM
namespace L2
open PySem PySem.Spec PyProof.Rows
section
variable{prog:Program}{w:World}{A:Around}{E:Zn}{s:Shared}{l:Addr}{xs:Array (Int×Tok)}
def rG(hl:s.heap.IsTuple l (intItems xs))(h:∀s₂:Shared,s₂={ s with heap:=s.heap.push { cls:=.type "tuple_iterator",data:=.fields #[.ref l,.int 0 0] } }-> (s₂.heap.IsTupleIter s.heap.objs.size l 0/\s₂.heap.IsTuple l (intItems xs))->(∀b∈[s.heap.objs.size,l],b<s₂.heap.objs.size)->l≠s.heap.objs.size->Q (.ref s.heap.objs.size) s₂) : wpAny (model prog w) A (pyIter (.ref l)) Q E s:=by
 have hlt:l<s.heap.objs.size:=by obtain⟨_,e,_⟩:=hl;exact VC e
 refine wpAny_pyIter_tuple hl (h _ rfl ⟨⟨_,W0 _ rfl,rfl,rfl⟩,hl.push _⟩ (λb hb=>?_) (VO hlt));show b<(s.heap.push _).objs.size;rw[Yp];rcases VF.mp hb with rfl|hb;{exact Xw _};rcases VF.mp hb with rfl|hb;{exact YL hlt};cases hb
def wA{h':Heap}(hk:∀b o,b∉[s.heap.objs.size]->(s.heap.push o1).get? b=some o->h'.get? b=some o) : ∀b o,s.heap.get? b=some o->h'.get? b=some o:=λb o e=>by refine hk b o (λhm=>?_) (VS _ e);rcases VF.mp hm with e1|hm;{exact absurd (e1▸VC e) (Vz _)};cases hm
def El(hh:A.handled=none)(hl:s.heap.IsTuple l (intItems xs))(hne:0<xs.size)(h:∀v h' tk,(intItems xs)[argBest (λi j=>decide (numAt xs i>numAt xs j)) (xs.size-1)]?=some v->(∀b o,s.heap.get? b=some o->h'.get? b=some o)->Q v { s with heap:=h',toks:=tk }) : wpAny (model prog w) A (call (.builtin "max") [.ref l]) Q E s:=by refine call_max_walk (rG hl λs₂ e st hfp hlI=>?_);subst e;refine⟨_,_,_,_,_,_,_,rfl,Walks.tuple (A:=A.in1) hh _ l hlI (intItems xs),st,hfp,by simpa[intItems]using hne,CmpOf.ints_gt (numAt xs) (λ_ _=>Xv),λv h' tk hP hk=>?_⟩;exact h v h' tk (by simpa[intItems]using hP) (wA hk)
def Eg(hh:A.handled=none)(hl:s.heap.IsTuple l (intItems xs))(hne:0<xs.size)(h:∀v h' tk,(intItems xs)[argBest (λi j=>decide (numAt xs i<numAt xs j)) (xs.size-1)]?=some v->(∀b o,s.heap.get? b=some o->h'.get? b=some o)->Q v { s with heap:=h',toks:=tk }) : wpAny (model prog w) A (call (.builtin "min") [.ref l]) Q E s:=by refine call_min_walk (rG hl λs₂ e st hfp hlI=>?_);subst e;refine⟨_,_,_,_,_,_,_,rfl,Walks.tuple (A:=A.in1) hh _ l hlI (intItems xs),st,hfp,by simpa[intItems]using hne,CmpOf.ints_lt (numAt xs) (λ_ _=>Xv),λv h' tk hP hk=>?_⟩;exact h v h' tk (by simpa[intItems]using hP) (wA hk)
end
section
variable{X:Cx}
inductive EN(K:Zv)(xs:List V)(H:Hp)(Q:VK):Prop
 |mk:∀(a:Addr)(ns:A06),(xs=[.ref a])->(bR K H a (ns.map V.int))->(ns≠[])->(∀M,M∈ns->(∀n∈ns,M<=n)->Q (.int M) H)->EN K xs H Q
def Kf (K:Zv):List V->Hp->VK->Prop:=λxs H Q=>EN K xs H Q
inductive GH(K:Zv)(xs:List V)(H:Hp)(Q:VK):Prop
 |mk:∀(a:Addr)(ns:A06),(xs=[.ref a])->(bR K H a (ns.map V.int))->(ns≠[])->(∀M,M∈ns->(∀n∈ns,n<=M)->Q (.int M) H)->GH K xs H Q
def KD (K:Zv):List V->Hp->VK->Prop:=λxs H Q=>GH K xs H Q
def HV(hc:X.calm=true):b8 X (.builtin "min") (Kf X.K):=by
 intro pins s U H xs us Q I r h;obtain⟨a,ns,rfl,hq,ne,q⟩:=h;obtain⟨u,rfl,ru⟩:=vals1 r;cases ru;obtain⟨its,rv,p,_⟩:=I.tuple hq;obtain⟨ps,rfl,rfl⟩:=nh rv;have hl:s.heap.IsTuple a (intItems ps.toArray):=by have:s.heap.IsTuple a (ps.map (λp=>Value.int p.1 p.2)).toArray:=p;simpa[intItems]using this
 refine Eg (I.ok.hd hc) hl (by simpa using XS.mpr (λe=>ne (by rw[e];rfl))) λv h' tk hv hk=>?_;obtain⟨t,rfl⟩:=Xv hv;obtain⟨g1,g2⟩:=argBest_lt (numAt ps.toArray) (ps.toArray.size-1);have pos:0<ps.length:=XS.mpr λe=>ne (by rw[e];rfl);refine⟨.int _,H,I.kept (t':=tk) hk,⟨_,rfl⟩,q _ ?_ λn hn=>?_⟩;{rw[XT];exact getD_mem (by simp at g1⊢;lia)};obtain⟨j,hj,rfl⟩:=mem_getD hn;rw[V2]at hj;have e:(ps.map (·.1)).getD j 0=numAt ps.toArray j:=by rw[XT]
 rw[e];exact g2 j (by simp;lia)
def GD(hc:X.calm=true):b8 X (.builtin "max") (KD X.K):=by
 intro pins s U H xs us Q I r h;obtain⟨a,ns,rfl,hq,ne,q⟩:=h;obtain⟨u,rfl,ru⟩:=vals1 r;cases ru;obtain⟨its,rv,p,_⟩:=I.tuple hq;obtain⟨ps,rfl,rfl⟩:=nh rv;have hl:s.heap.IsTuple a (intItems ps.toArray):=by have:s.heap.IsTuple a (ps.map (λp=>Value.int p.1 p.2)).toArray:=p;simpa[intItems]using this
 refine El (I.ok.hd hc) hl (by simpa using XS.mpr (λe=>ne (by rw[e];rfl))) λv h' tk hv hk=>?_;obtain⟨t,rfl⟩:=Xv hv;obtain⟨g1,g2⟩:=argBest_gt (numAt ps.toArray) (ps.toArray.size-1);have pos:0<ps.length:=XS.mpr λe=>ne (by rw[e];rfl);refine⟨.int _,H,I.kept (t':=tk) hk,⟨_,rfl⟩,q _ ?_ λn hn=>?_⟩;{rw[XT];exact getD_mem (by simp at g1⊢;lia)};obtain⟨j,hj,rfl⟩:=mem_getD hn;rw[V2]at hj;have e:(ps.map (·.1)).getD j 0=numAt ps.toArray j:=by rw[XT]
 rw[e];exact g2 j (by simp;lia)
def tY (i j:Int):Prop:=i.natAbs<2^128/\j.natAbs<2^128
def CQ (i j:Int):Prop:=0<=j/\j<=1000/\i.natAbs<2^128
def tY.ok{i j:Int}(h:tY i j):IntMulOk i j:=
 .of_bits (VX (intBits_le h.1) (by decide)) (VX (intBits_le h.2) (by decide))
def L7:bE X (binaryOp .Mult) (rI tY λi j=>.int (i*j)):=BH λ_ _ _ _ _ _ _ hc q=>mul_int q hc.ok
def MR:bE X (binaryOp .Pow) (rI CQ λi j=>.int (i^j.toNat)):=BH λi j _ _ _ _ _ hc q=>by have h1:=hc.1;have h2:=hc.2.1;have h3:=intBits_le hc.2.2;refine pow_int h1 ?_ q;have:(Builtin.Int.intBits i:Int)*j<=128*1000:=Int.mul_le_mul (by lia) h2 h1 (by lia);exact XE this (by decide)
end
end L2
namespace Dv
open PySem L2 PySem.W
def C9:DR:=qG tY λi j=>.int (i*j)
def DW:DR:=qG CQ λi j=>.int (i^j.toNat)
def LP{a b:Int}:C9 [.int a,.int b] P=(tY a b/\P .sh (.int (a*b))):=rfl
def Mr{a b:Int}:DW [.int a,.int b] P=(CQ a b/\P .sh (.int (a^b.toNat))):=rfl
variable{X:Cx}{Ex:XK}{Y:A05}{a b:Expr}{as:List Arg}{pos:Pos}
def Rk(S:aN X Ex Y [a,b] as):SE X Ex Y (.BinOp a .Mult b pos) (aa C9 as):=jr L7 (nH λ_ _ _=>.int _) S
def RJ(S:aN X Ex Y [a,b] as):SE X Ex Y (.BinOp a .Pow b pos) (aa DW as):=jr MR (nH λ_ _ _=>.int _) S
def qA:DR:=λds P=>match ds with
 |[.tuple [.int a,.int b]]=>P .sh (.int (if b<a then b else a))
 |_=>False
def qO:DR:=λds P=>match ds with
 |[.tuple [.int a,.int b]]=>P .sh (.int (if b>a then b else a))
 |_=>False
def MM{a b:Int}:qA [.tuple [.int a,.int b]] P=P .sh (.int (if b<a then b else a)):=rfl
def MF{a b:Int}:qO [.tuple [.int a,.int b]] P=P .sh (.int (if b>a then b else a)):=rfl
def JF:cM K qA (Kf K):=by
 intro H Hm vs ds P Q s r h q;unfold qA at h;split at h
 .obtain⟨x,rfl,h1⟩:=dH r;cases h1 with
  |@tup a xs _ a1 r1=>
   obtain⟨y,z,rfl,h2,h3⟩:=fV r1;cases h2;cases h3;rename_i i j;refine⟨a,[i,j],rfl,bR.of (s _ _ a1),Z1 _ _,λM m1 m2=>?_⟩;have e:M=if j<i then j else i:=by have e1:=m2 i (by simp);have e2:=m2 j (by simp);simp only[VF,WH,XA]at m1;split<;>lia
   rw[e];exact bO.sc q s h (.int _)
 exact h.elim
def JU:cM K qO (KD K):=by
 intro H Hm vs ds P Q s r h q;unfold qO at h;split at h
 .obtain⟨x,rfl,h1⟩:=dH r;cases h1 with
  |@tup a xs _ a1 r1=>
   obtain⟨y,z,rfl,h2,h3⟩:=fV r1;cases h2;cases h3;rename_i i j;refine⟨a,[i,j],rfl,bR.of (s _ _ a1),Z1 _ _,λM m1 m2=>?_⟩;have e:M=if j>i then j else i:=by have e1:=m2 i (by simp);have e2:=m2 j (by simp);simp only[VF,WH,XA]at m1;split<;>lia
   rw[e];exact bO.sc q s h (.int _)
 exact h.elim
variable{p:Pos}
def Rt(hm:X.mg "min"=none)(S:aN X Ex Y [a] as)(hc:X.calm=true:=by rfl)(hg:Gl X "min":=by rfl)(ns:noStar a=true:=by rfl):SE X Ex Y (.Call (.Name "min" p) [a] [] pos) (aa qA as):=fD (HV hc) JF hg hm ZY (by decide) (by decide) (by rw[VL,ns];rfl) S
def Ri(hm:X.mg "max"=none)(S:aN X Ex Y [a] as)(hc:X.calm=true:=by rfl)(hg:Gl X "max":=by rfl)(ns:noStar a=true:=by rfl):SE X Ex Y (.Call (.Name "max" p) [a] [] pos) (aa qO as):=fD (GD hc) JU hg hm PyProof.Rows.boot_max (by decide) (by decide) (by rw[VL,ns];rfl) S
end Dv
namespace L2
open PySem PySem.Spec PyProof.Rows
end L2
namespace Dv
open PySem L2 PySem.W
def Fg (k:Kd)(v:PyData)(Q:Zy->Prop):Prop:=match k,v with
 |.ow _,.list es=>Q es
 |_,_=>False
def yO (as:List Arg)(us:Zy)(E:En)(k:Kd)(v:PyData):Option En:=c7 ((cP as).all (iI E)||(flat k v&&us.all (flat (.ow false)))) (some E) (gP (cP as) E)
def qa (sp:bG)(as1:List Arg)(d0:DE)(as2 as:List Arg):DE:=λx E Q=>ig as1 x E λE1 os1=>d0 x E1 λE2 k v=>Fg k v λes=>ig as2 x E2 λE3 os2=>aA (cA as1 E3 os1) λds1=>aA (cA as2 E3 os2) λds2=>sp (ds1++.list es::ds2) (λus k v=>aA (yO as us E3 k v) λE4=>Q E4 k v) x
def Iu:qa sp as1 d0 as2 as x (o::E) Q=ig as1 x (o::E) λE1 os1=>d0 x E1 λE2 k v=>Fg k v λes=>ig as2 x E2 λE3 os2=>aA (cA as1 E3 os1) λds1=>aA (cA as2 E3 os2) λds2=>sp (ds1++.list es::ds2) (λus k v=>aA (yO as us E3 k v) λE4=>Q E4 k v) x:=rfl
def Sx{p:Bool}:Fg (.ow p) (.list es) Q=Q es:=rfl
def QK:yO as us (o::E) k v=c7 ((cP as).all (iI (o::E))||(flat k v&&us.all (flat (.ow false)))) (some (o::E)) (gP (cP as) (o::E)):=rfl
def Ra(h:Fg k v Q):∃p es,k=.ow p/\v=.list es/\Q es:=by unfold Fg at h;split at h;{exact⟨_,_,rfl,rfl,h⟩};exact h.elim
variable{K:Frag}
theorem Got.mono{U:St}{Hm Hm':Hp}{as:List Arg}{os:List (Option PyData)}{vs:List V}(s:ah Hm Hm')(G:Got K U Hm as os vs):Got K U Hm' as os vs:=by
 induction G with
 |nil=>exact .nil
 |pk h _ ih=>exact .pk h ih
 |ev r _ ih=>exact .ev (r.mono s) ih
def FL(h:Ag K H Hm ms vs2 ds2 as):ay K Hm vs1 ds1->Ag K H Hm (List.replicate vs1.length false++ms) (vs1++vs2) (ds1++ds2) as:=by
 induction ds1 generalizing vs1 with
 |nil=>intro r;cases r;exact h
 |cons d ds ih=>intro r;cases r with|cons a b=>exact .sh a (ih b)
def Q4(r:ay K Hm vs ds):Ag K H Hm (List.replicate vs.length false) vs ds []:=by have h:=FL (Ag.nil (K:=K) (H:=H) (Hm:=Hm)) r;rwa[WO,WO,WO]at h
def BK{U:St}{Hm:Hp}{as:List Arg}{os:List (Option PyData)}{vs:List V}(G:Got K U Hm as os vs):vs.length=as.length:=by
 induction G with
 |nil=>rfl
 |pk _ _ ih=>exact congrArg (·+1) ih
 |ev _ _ ih=>exact congrArg (·+1) ih
def Gh.put (g:Gh)(a:Addr)(o:HO):Gh:={ H0:=upd g.H0 a o,eu:=λb=>if b=a then none else g.eu b,pins:=g.pins }
def Rl.beside{F:Nat->A01}{a:Addr}(R:Rl K g E U H Hm F)(ha:H a=some o)(hm:Hm a=none)(nf:∀i,a∉F i)(h0:g.H0 a=none):Rl K (g.put a o) E U H Hm F where
 len:=R.len
 sub:=R.sub
 slot:=R.slot
 off:=R.off
 bu:=R.bu
 aF:=R.aF
 fr:=λp u hp hu=>by
  by_cases c:p=a
  .subst c
   replace hu:upd g.H0 p o p=some u:=hu
   rw[av]at hu;cases hu;exact ha
  .replace hu:upd g.H0 a o p=some u:=hu
   rw[ai c]at hu;exact R.fr p u hp hu
 new:=λi b hb=>by
  rcases R.new i b hb with z|z
  .exact .inl z
  .exact .inr ((ai λy=>nf i (by rw[<-y];exact hb)).trans z)
 pin:=R.pin
 old:=λb hb=>by
  show OE (Hm b) (if b=a then none else g.eu b)
  by_cases c:b=a
  .rw[if_pos c,c,hm];exact .rfl'
  .rw[if_neg c];exact R.old b (by replace hb:upd g.H0 a o b≠none:=hb;rwa[ai c]at hb)
def Rl.LC{F:Nat->A01}{a:Addr}(R:Rl K (g.put a (.lst xs)) E U H Hm F)(nM:a∉g.M)(h0:g.H0 a=none) : H a=some (.lst xs)/\Hm a=none/\(∀i,a∉F i)/\Rl K g E U (λb=>if b=a then none else H b) Hm F:=by
 have ha:H a=some (.lst xs):=R.fr a _ nM av;have hm:Hm a=none:=by have h:=R.old a (by show upd g.H0 a (.lst xs) a≠none;rw[av];exact λz=>nomatch z);refine h.off ?_ R.sub ha lO;show(if a=a then none else g.eu a)=none;exact if_pos rfl
 have nf:∀i,a∉F i:=λi z=>by rcases R.new i a z with y|y;{exact nM y};replace y:upd g.H0 a (.lst xs) a=none:=y;rw[av]at y;cases y
 have nF:∀{i b},b∈F i->b≠a:=λh z=>nf _ (z▸h);refine⟨ha,hm,nf,{ len:=R.len,sub:=λb o e=>?_,slot:=λi k d e=>?_,off:=R.off,bu:=λi b hb=>?_,aF:=R.aF,fr:=λp u hp hu=>?_,new:=λi b hb=>?_,pin:=R.pin,old:=λb hb=>?_ }⟩;{show(if b=a then none else H b)=some o;rw[if_neg λz=>by rw[z,hm]at e;cases e];exact R.sub b o e};{obtain⟨v,h1,h2⟩:=R.slot i k d e;exact⟨v,h1,h2.step (ah.refl _) λb hb=>if_neg (nF hb)⟩};{obtain⟨u,hu,nt⟩:=R.bu i b hb;exact⟨u,(if_neg (nF hb)).trans hu,nt⟩}
 .have c:p≠a:=λz=>by rw[z,h0]at hu;cases hu
  exact(if_neg c).trans (R.fr p u hp ((ai c).trans hu))
 .rcases R.new i b hb with z|z;{exact .inl z};exact .inr ((ai (nF hb)).symm.trans z)
 have c:b≠a:=λz=>hb (by rw[z,h0]);have h:=R.old b (by show upd g.H0 a (.lst xs) b≠none;rwa[ai c]);have e:(g.put a (.lst xs)).eu b=g.eu b:=if_neg c;rwa[e]at h
variable{X:Cx}{Ex:XK}{Y:A05}
def M0(h:pQ X es1 U H λvs1 H1=>pQ X es2 U H1 λvs2 H2=>Q (vs1++vs2) H2):pQ X (es1++es2) U H Q:=by
 induction es1 generalizing H Q with
 |nil=>exact h
 |cons e es ih=>exact λpins s I=>aH (h pins s I) λv s1 ⟨y,H1,I1,r1,w⟩=>⟨y,H1,I1,r1,ih w⟩
def Jx{x:Str}{k:Nat}{ps:A07}{sp:bG}{p pos:Pos}{e0:Expr}{es1 es2:A03}{d0:DE}{as1 as2:List Arg}(F:bZ X.prog X.w X.K X.mg X.base k x ps (cF X.mg X.K (List.replicate es1.length false++true::List.replicate es2.length false) sp))(hp:Passes (fh X.prog X.w) X Ex)(hr:dM k X.A)(hg:Gl X x)(hd:(x==("__debug__":Str))=false){e:Expr}{es:A03}(hes:e::es=es1++e0::es2)(ns:(e::es).all noStar=true)(S1:aN X Ex Y es1 as1)(S0:SE X Ex Y e0 d0)(S2:aN X Ex Y es2 as2):SE X Ex Y (.Call (.Name x p) (e::es) [] pos) (qa sp as1 d0 as2 (as1++as2)):=by
 intro g xc E U H Hm Fo P Q hx R h q;obtain⟨f,fd,h1,h2,h3,h4⟩:=F;refine WE.of (Cb (E:=Ex) h4 hr hg h1 h2 h3 .nil hp (dh ns) hd (aR (by rw[VL,VB]at ns;exact ns.1)) (eO (by rw[VL,VB]at ns;exact ns.2))) ?_;rw[hes];refine M0 ?_;refine ju hx S1 R h λE1 os1 vs1 H1 Hm1 F1 p1 R1 s1 G1=>?_;refine S0 g xc E1 U H1 Hm1 F1 _ _ hx R1 p1 λE2 k v u H2 Hm2 F2 fp p2 R2 s2 T=>?_;obtain⟨b,es',rfl,rfl,p2⟩:=Ra p2;obtain⟨own,toff,tdis,tnew⟩:=T;cases own with
 |@ow _ a xs _ ha hxs=>
 have hm:=toff a V3;have nf:=tdis a V3;have h0:=tnew a V3;have nM:a∉g.M:=λz=>by obtain⟨y,hy,rfl⟩:=V5.mp z;exact nf y.1 (by rw[R2.zc hy];exact V3)
 have hx':XL X Ex xc (g.put a (.lst xs)):=λc d C b H' hC hxc fr hb hn=>by
  replace hn:upd g.H0 a (.lst xs) b=none:=hn;have nb:b≠a:=λz=>by rw[z,av]at hn;cases hn
  exact hx c d C b H' hC hxc (λp o hp ho=>fr p o hp (by
   show upd g.H0 a (.lst xs) p=some o;rw[ai λz=>by rw[z,h0]at ho;cases ho];exact ho)) hb (by rwa[ai nb]at hn)
 refine ju hx' S2 (R2.beside ha hm nf h0) p2 λE3 os2 vs2 H3 Hm3 F3 p3 R3 s3 G2=>?_;obtain⟨ha3,hm3,nf3,R4⟩:=R3.LC nM h0;rw[<-aX,eL]at p3;obtain⟨ds1,f1,p3⟩:=p3;rw[<-aX,eL]at p3;obtain⟨ds2,f2,p3⟩:=p3;have off:∀c∈(cP (as1++as2)).flatMap F3,Hm3 c=none:=λc hc=>by obtain⟨i,_,h⟩:=Vy.mp hc;exact R4.off i c h
 have up:=ie (Hm:=Hm3) (H:=λb=>if b=a then none else H3 b) off;have pin:∀(as:List Arg),(∀i∈cP as,i∈cP (as1++as2))->∀i∈cP as,∀c∈F3 i,lend Hm3 (λb=>if b=a then none else H3 b) ((cP (as1++as2)).flatMap F3) c=(if c=a then none else H3 c):=λas hs i hi c hc=>eW (Vy.mpr ⟨i,hs i hi,hc⟩);have pk1:∀{as bs:List Arg}{i:Nat},i∈cP as->i∈cP (as++bs):=by
  intro as bs i;induction as with
  |nil=>intro h;cases h
  |cons y as ih=>
   cases y with
   |pk j=>intro h;rcases VF.mp h with rfl|h;{exact V3};exact V8 _ (ih h)
   |ev d=>exact ih
 have pk2:∀{as bs:List Arg}{i:Nat},i∈cP bs->i∈cP (as++bs):=by
  intro as bs i;induction as with
  |nil=>exact id
  |cons y as ih=>
   cases y with
   |pk j=>exact λh=>V8 _ (ih h)
   |ev d=>exact ih
 have r1:=nB R4 up (G1.mono (s2.trans s3)) f1 (pin _ λ_=>pk1);have r2:=nB R4 up G2 f2 (pin _ λ_=>pk2);have lo:lend Hm3 (λb=>if b=a then none else H3 b) ((cP (as1++as2)).flatMap F3) a=none:=by
  rw[cQ λz=>by
   obtain⟨i,_,h⟩:=Vy.mp z;exact nf3 i h]
  exact hm3
 have sb:ah (lend Hm3 (λb=>if b=a then none else H3 b) ((cP (as1++as2)).flatMap F3)) H3:=λc o e=>by have e2:=i8 R4.sub c o e;replace e2:(if c=a then none else H3 c)=some o:=e2;split at e2;{cases e2};exact e2
 have l1:vs1.length=es1.length:=by
  have:∀{es:A03}{as:List Arg},aN X Ex Y es as->es.length=as.length:=λS=>by
   induction S with
   |nil=>rfl
   |pk _ _ _ ih=>exact congrArg (·+1) ih
   |ev _ _ ih=>exact congrArg (·+1) ih
  rw[BK G1,this S1]
 have l2:vs2.length=es2.length:=by
  have:∀{es:A03}{as:List Arg},aN X Ex Y es as->es.length=as.length:=λS=>by
   induction S with
   |nil=>rfl
   |pk _ _ _ ih=>exact congrArg (·+1) ih
   |ev _ _ ih=>exact congrArg (·+1) ih
  rw[BK G2,this S2]
 have ag:Ag X.K H3 (lend Hm3 (λb=>if b=a then none else H3 b) ((cP (as1++as2)).flatMap F3)) (List.replicate vs1.length false++true::List.replicate vs2.length false) (vs1++.ref a::vs2) (ds1++.list es'::ds2) [a]:=FL (.mu ha3 (((hxs.mono s3).mono up)) lo (by simp) (Q4 r2)) r1;rw[l1,l2]at ag;show cF X.mg X.K _ sp ((vs1++.ref a::vs2)++[]) H3 Q Ex;rw[WO];refine⟨_,_,_,_,xc,sb,ag,p3,λus k r u H' Hm' fp p4 sM sS fr old bk o new=>?_,λc d C b H' hC hxc fr hb hn=>?_⟩
 .replace p4:aA (yO (as1++as2) us E3 k r) λE4=>P E4 k r:=p4;rw[<-aX]at p4;obtain⟨E4,hE,p4⟩:=p4;unfold yO at hE;rw[bV,nW]at hE;have hn:∀{c},(if c=a then none else H3 c)≠none->c≠a/\H3 c≠none:=λ{c} h=>by by_cases z:c=a;{rw[if_pos z]at h;exact absurd rfl h};rw[if_neg z]at h;exact⟨z,h⟩
  obtain⟨Hm'',F'',R'',s'',T⟩:=uJ R4 (E2:=E3) (E3:=E4) (is:=cP (as1++as2)) (ix:=[]) (us:=us) (λ_ z=>nomatch z) (λ_ z=>nomatch z) rfl (λ_ _=>rfl) (λ_ z=>nomatch z) (tE hE) sM sS
   (λp w hp hw=>fr p w (λz=>by rw[V6.mp z,if_pos rfl]at hw;cases hw) (by
    by_cases z:p=a
    .rw[if_pos z]at hw;cases hw
    .rw[if_neg z]at hw;exact hw)) (λc _ hc=>old c (λz=>(hn hc).1 (V6.mp z)) (hn hc).2) o (λc hc=>by
     obtain⟨n1,n2⟩:=new c hc;exact⟨by show(if c=a then none else H3 c)=none;rw[n1];split<;>rfl,n2⟩)
  exact q _ _ _ _ _ _ _ _ p4 R'' (s1.trans (s2.trans (s3.trans s''))) T
 refine hx c d C b H' hC hxc (λp o hp ho=>fr p o (λz=>?_) (R3.fr p o hp ?_)) hb ?_;{rw[V6.mp z,h0]at ho;cases ho};{show upd g.H0 a (.lst xs) p=some o;rw[ai λz=>by rw[z,h0]at ho;cases ho];exact ho};have n:=R3.fH hn;replace n:upd g.H0 a (.lst xs) b=none:=n;rwa[ai λz=>by rw[z,ha3]at hn;cases hn]at n
def FA{k k':Nat}{x:Str}{ps:A07}{sp:bG}{p pos:Pos}{e0 e:Expr}{es es1 es2:A03}{d0:DE}{as1 as2:List Arg}{ms:A02}(F:bZ X.prog X.w X.K X.mg X.base k x ps (cF X.mg X.K ms sp))(hp:Passes (fh X.prog X.w) X Ex)(hr:dM k' X.A)(S1:aN X Ex Y es1 as1)(S0:SE X Ex Y e0 d0)(S2:aN X Ex Y es2 as2)(hes:e::es=es1++e0::es2:=by rfl)(hms:ms=List.replicate es1.length false++true::List.replicate es2.length false:=by rfl){as:List Arg}(ha:as=as1++as2:=by rfl)(hk:k<=k':=by decide)(hg:Gl X x:=by rfl)(hd:(x==("__debug__":Str))=false:=by decide)(ns:(e::es).all noStar=true:=by rfl) : SE X Ex Y (.Call (.Name x p) (e::es) [] pos) (qa sp as1 d0 as2 as):=by subst hms ha;exact Jx F hp (hr.mono hk) hg hd hes ns S1 S0 S2
end Dv
namespace SM
open PySem PySem.W PyProof.Rows
variable{prog:Program}{w:World}{A:Around}{E:Zn}{s:Shared}{es:Zr}{ep:Nat}{v d:Addr}
def qu.at(D:qu h d es ep)(k:∀o,h.get? d=some o->h'.get? d=some o):qu h' d es ep:=by obtain⟨o,ho,r⟩:=D;exact⟨o,k o ho,r⟩
def Fj(hh:A.handled=none)(I d:Addr)(ne:d≠I)(es:Zr) (ep:Nat) : Walks prog w A I [I,d] [I] es.size (λi v=>∃e,es[i]?=some e/\v=e.val) (λi h=>h.IsValIter I d i es.size ep/\qu h d es ep) where
 sub:=λb hb=>by
  simp at hb;simp[hb]
 frame:=λi h h' st hk=>⟨st.1.at λo e=>hk I (by simp) o e,st.2.at λo e=>hk d (by simp) o e⟩
 item:=λi s Q E hi st hQ=>by
  refine Js st.1 st.2 (WQ hi) λh' hit' sb=>?_
  exact hQ _ h' s.toks ⟨_,WQ hi,rfl⟩ ⟨hit',st.2.at λo e=>by rw[sb.2 d ne];exact e⟩ λb o hb e=>by rw[sb.2 b (λz=>hb (by simp[z]))];exact e
 done:=λs Q E st hQ=>AI hh st.1 st.2 (V4 _) λh' eb=>hQ h' s.toks λb o hb e=>eb b o (λz=>hb (by simp[z])) e
 self:=λi s Q E st hQ=>wpAny_pyIter_valiter st.1 hQ
def JS(v d:Addr)(es:Zr) (ep:Nat):KdlSrc prog w "dict_values" v d es.size (λi x=>∃e,es[i]?=some e/\x=e.val) (λh=>h.IsValuesView v d/\qu h d es ep) where
 type:=λs D=>D.1.typeIs
 there:=λh D=>by
  obtain⟨⟨o,ho,_⟩,o2,ho2,_⟩:=D;exact⟨VC ho,VC ho2⟩
 keep:=λh h' D hk=>by
  obtain⟨⟨o,ho,r⟩,D2⟩:=D;exact⟨⟨o,hk v (.inl rfl) o ho,r⟩,D2.at λo e=>hk d (.inr rfl) o e⟩
 notList:=by decide
 notTuple:=by decide
 hint:=λA E s Q D q=>kdl_hint_values D.1.typeIs q
 iter:=λA s hh D=>by
  refine⟨_,_,λE Q q=>Gg D.1 D.2 q,Fj hh _ d ?_ es ep,⟨⟨_,W0 _ rfl,rfl,rfl⟩,D.2.at λo e=>VS _ e⟩⟩
  obtain⟨o,ho,_⟩:=D.2;exact VO (VC ho)
end SM
namespace L2
open PySem PySem.Spec PyProof.Rows
section
variable{X:Cx}
theorem wR{α β:Type}{F:α->β->Prop}:∀{l:List α}{m:List β},l.length=m.length->(∀(j:Nat) x y,l[j]?=some x->m[j]?=some y->F x y)->Paired F l m
 |[],[],_,_=>.nil
 |[],_::_,h,_=>nomatch h
 |_::_,[],h,_=>nomatch h
 |x::l,y::m,h,k=>.cons (k 0 x y rfl rfl) (wR (Nat.succ.inj h) λj a b e1 e2=>k (j+1) a b e1 e2)
inductive NS(Q:VK) (x:V)(H1:Hp):Prop
 |mk:∀a kvs,(x=.ref a)->(H1 a=some (.dT kvs))->(∀l,H1 l=none->Q (.ref l) (upd H1 l (.lst (kvs.map (·.2)))))->NS Q x H1
def UK (tl:TE):TE:=λU H Q=>tl U H λx H1=>NS Q x H1
def Jg{apos cpos:Pos}(hc:X.calm=true)(hg:Gl X "list")(hm:X.mg "list"=none)(hl:PE X l tl)(hbase:attributeBase l "values" X.env (eval l X.env)=eval l X.env:=by rfl)(hline:(apos.endLine==cpos.line)=true:=by rfl) : PE X (.Call (.Name "list" p) [.Call (.Attribute l "values" apos) [] [] cpos] [] pos) (UK tl):=by
 intro pins s U H Q I h;refine Call_ (iQ I hg hm ZV (Xp ?_ rfl rfl));show wpAny _ _ (spliced ((false,eval (.Call (.Attribute l "values" apos) [] [] cpos) X.env)::backTo pos [])) _ _ s;refine Calls.spliced_cons ?_;refine wpAny_Call_method0_late hbase hline (aH (hl pins s U H _ I h) λv s1 ⟨x,H1,I1,r1,q1⟩=>?_);obtain⟨a,kvs,e,ha,q⟩:=q1;subst e;cases r1;obtain⟨z,hd,xs,rel,o,es,ep,h1,h2,h3,h4,h5⟩:=(show bC X.prog X.w H1 s1.heap a (.dT kvs)from I1.hok a _ ha);refine⟨"dict","dict.values",F.plainAttrs_dict,F.slot_dict_values,F.type_dict_values,⟨o,h1,h2.1⟩,λb e=>?_,Yj rfl (PySem.evalArgs_none (SM.L4 hd ⟨o,h1,h2,h3⟩ ?_))⟩;{cases e;exact⟨o,h1,h2.2.1⟩};refine Calls.spliced_nil ?_;have el:es.size=kvs.length:=by rw[<-Wa,h4,V2,Paired.length rel]
 have kp1:∀b u,s1.heap.get? b=some u->(s1.heap.push { cls:=.type "dict_values",data:=.fields #[.ref a] }).get? b=some u:=λb u e=>VS _ e;refine PySem.W.kdl_call (s:={ s1 with heap:=s1.heap.push { cls:=.type "dict_values",data:=.fields #[.ref a] } }) (SM.JS s1.heap.objs.size a es ep) (I1.ok.hd hc) ⟨⟨_,W0 _ rfl,rfl,rfl⟩,⟨o,kp1 _ _ h1,h2,h3⟩⟩ (by lia) λh' tk acc c kp hS its=>?_;obtain⟨z1,z2⟩:=its;have rv:Vals (kvs.map (·.2)) acc.toList:=by refine wR (by rw[V2];show kvs.length=acc.size;lia) λj x y hx hy=>?_;rw[WK]at hy;obtain⟨en,e1,rfl⟩:=z2 j y hy;rw[<-WK,h4,VA]at e1;rw[VA]at hx;obtain⟨kv,e3,rfl⟩:=X5.mp hx;obtain⟨k,e4,r⟩:=xh rel e3;rw[e4]at e1;cases e1;exact r.2.2
 have I2:Inv X pins U H1 { s1 with heap:=s1.heap.push { cls:=.type "dict_values",data:=.fields #[.ref a] } }:=I1.kept (t':=s1.toks) kp1;exact⟨.ref _,_,I2.laid (t':=tk) kp (V4 _) (o:=.lst (kvs.map (·.2))) ⟨by rw[V2];exact z,acc.toList,c,rv,by simpa using hS⟩,rfl,q _ (I2.hok.fresh (V4 _))⟩
end
end L2
namespace Dv
open PySem L2 PySem.W
def Qj (E:En) (i:Nat):Bool:=match E[i]? with
 |some (some (.dt _,.dict ((.none,.none)::_)))=>true
 |_=>false
def FW (kvs:Zl)(k v:PyData):Zl:=match cH kvs k with
 |some _=>kvs
 |none=>kvs++[(k,v)]
def DA (i jc:Nat)(e:DE):DE:=λx E Q=>Qj E i=true/\∃kc ks,E[jc]?=some (some (kc,.list ks))/\kc.rd=true/\ks.all lF=true/\e x E λE2 k v=>k.fz=true/\∃kvs,E2[i]?=some (some (.dt false,.dict ((.none,.none)::kvs)))/\kvs.length<sizeLine/\Q (E2.set i (some (.dt false,.dict ((.none,.none)::FW kvs (.tuple ks) v)))) .sh ((cH kvs (.tuple ks)).getD v)
def NX (i:Nat):DE:=λ_ E Q=>∃p kvs,E[i]?=some (some (.dt p,.dict ((.none,.none)::kvs)))/\Q E (.ow false) (.list (kvs.map (·.2)))
variable{K:Frag}
theorem d8.vals:∀{kvs:List (List Key×V)}{ds:Zl},d8 K H kvs ds->ay K H (kvs.map (·.2)) (ds.map (·.2))
 |_,_,.nil=>.nil
 |_,_,.cons r t=>.cons r t.vals
variable{X:Cx}{Ex:XK}{Y:A05}
def GZ{tp:Addr}{F:Nat->A01}(R:Rl K g E U H Hm F)(htp:H tp=none):Rl K g E U (upd H tp (.tup xs)) (upd Hm tp (.tup xs)) F/\ah Hm (upd Hm tp (.tup xs)):=by
 have n:=fL R.sub htp;have s2:=bQ (o:=.tup xs) n;refine⟨R.grow (bQ htp) s2 (λb o e=>?_) (λi a ha=>?_) λa ha=>.inl (ai λz=>R.nL ha (z▸htp)),s2⟩;{by_cases c:b=tp;{rw[c,av]at e⊢;exact e};rw[ai c]at e⊢;exact R.sub _ _ e};rw[ai λz=>by
  obtain⟨u,hu,_⟩:=R.bu i a ha;rw[z,htp]at hu;cases hu]
 exact R.off i a ha
def Pz{i j jc jj:Nat}(hu:X.A.units+64<cLine)(hg:Gl X "tuple")(hm:X.mg "tuple"=none)(hv:PE X (.Name x p) (kI j))(hj:Y[j]?=some i)(hc:PE X (.Name c cp) (kI jj))(hjc:Y[jj]?=some jc)(h0:SE X Ex Y e d)(ns:noStar e=true)(l1:(ap.endLine==cpos.line)=true):SE X Ex Y (.Call (.Attribute (.Name x p) "setdefault" ap) [.Call (.Name "tuple" tp) [.Name c cp] [] cpos1,e] [] cpos) (DA i jc d):=by
 intro g xc E U H Hm F P Q hx R h q;obtain⟨hd,kc,ks,ec,hkc,hks,pq⟩:=h;obtain⟨p0,kv0,ei⟩:∃p kvs,E[i]?=some (some (.dt p,.dict ((.none,.none)::kvs))):=by unfold Qj at hd;split at hd;{rename_i p kvs e;exact⟨p,kvs,e⟩};cases hd
 obtain⟨v0,hv0,o0⟩:=R.slot i _ _ ei;obtain⟨a,kvs0,rfl,ha0⟩:∃a kvs,v0=.ref a/\H a=some (.dT kvs):=by
  generalize F i=fi at o0;cases o0 with
  |dt ha _=>exact⟨_,_,rfl,ha⟩
 obtain⟨vc,hvc,oc⟩:=R.slot jc _ _ ec;have rc:Rp X.K H vc (.list ks):=oc.rp hkc R.sub λ_ _=>rfl;obtain⟨k,rfl⟩:=jA hks;cases rc with
 |@lst ca xs _ hca rxs=>
 have exs:=rR rxs;subst exs;refine WE.of (xT PySem.F.plainAttrs_dict PySem.F.slot_dict_setdefault PySem.F.type_dict_setdefault (LN (by lia)) hv (iu (lS oO hg hm PyProof.Rows.boot_tuple (iu hc nk)) (iu bf nk (aR ns))) rfl (by rw[aR (by rfl),aR ns];rfl) l1 (aR (by rfl)) ?_) ?_;{exact eO (by rw[VL,ns];rfl)};refine⟨_,bP hj hv0,.inr (.inr (.inl ⟨rfl,.inr ⟨_,ha0⟩⟩)),_,bP hjc hvc,ca,_,rfl,.inl ⟨hca.sq,λtp htp=>?_⟩⟩;obtain⟨R1,sm1⟩:=GZ (xs:=k.map kV) R htp;refine h0 g xc E U _ _ F _ _ hx R1 pq λE2 kd v u H2 Hm2 F2 fp p2 R2 s2 T=>?_;obtain⟨hk,kvd,e2,hl,pq⟩:=p2;obtain⟨Hm3,s3,R3,rv⟩:=T.cZ R2 hk;have htp3:H2 tp=some (.tup (k.map kV)):=R3.sub _ _ (s3 _ _ (s2 _ _ av));obtain⟨v',F3,hv3,R4,T4⟩:=R3.move e2 rfl;rw[hv0]at hv3;cases hv3;generalize hfi:F2 i=fi at T4;obtain⟨own,toff,tdis,tnew⟩:=T4;have li:=aS e2;have op:bL (E2.set i none) i=true:=by unfold bL;rw[aD li]
 cases own with
 |@dt _ _ kvs _ ha tvs=>
 refine⟨a,tp,kvs,k,u,rfl,rfl,ha,htp3,by rw[tvs.len];exact hl,?_⟩;have sm:=sm1.trans (s2.trans s3);rcases tvs.val (k:=k)with⟨z1,z2⟩|⟨w,d',z1,z2,rw'⟩;{rw[z2];have A1:oN g F3 H2 Hm3 [a]:=⟨λb hb=>by rw[V6.mp hb];exact⟨_,ha,tK⟩,toff,tdis,tnew⟩;have R5:=R4.RL (o:=.dT (kvs++[(k,u)])) A1;have T6:Tm X.K g F3 (upd H2 a (.dT (kvs++[(k,u)]))) Hm3 (.dt false) (.ref a) (.dict ((.none,.none)::(kvd++[(.tuple (k.map bF),v)]))) [a]:=⟨.dt av (tvs.app k rv),toff,tdis,tnew⟩;have R7:=R5.put T6 op;rw[Z2,set_same hv0]at R7;unfold FW at pq;rw[z1]at pq;exact q _ _ _ _ _ _ _ [] pq R7 sm (Tm.sh rv)};rw[z1];unfold FW at pq;rw[z2]at pq;have T6:Tm X.K g F3 H2 Hm3 (.dt false) (.ref a) (.dict ((.none,.none)::kvd)) [a]:=⟨.dt ha tvs,toff,tdis,tnew⟩;have R7:=R4.put T6 op;rw[Z2,set_same hv0]at R7;exact q _ _ _ _ _ _ _ [] pq R7 sm (Tm.sh rw')
def Uj(j jj:Nat){i jc:Nat}(hu:X.A.units+64<cLine)(hm:X.mg "tuple"=none)(h0:SE X Ex Y e d)(hg:Gl X "tuple":=by rfl)(hN:X.N[j]?=some x:=by rfl)(hv:fX X.env.scope x:=by nofun)(hj:Y[j]?=some i:=by rfl)(hNc:X.N[jj]?=some c:=by rfl)(hvc:fX X.env.scope c:=by nofun)(hjc:Y[jj]?=some jc:=by rfl)(ns:noStar e=true:=by rfl)(l1:(ap.endLine==cpos.line)=true:=by rfl)(b1:(x==("__debug__":Str))=false:=by decide)(b2:(x==("__classdict__":Str))=false:=by decide)(b3:(c==("__debug__":Str))=false:=by decide)(b4:(c==("__classdict__":Str))=false:=by decide) : SE X Ex Y (.Call (.Attribute (.Name x p) "setdefault" ap) [.Call (.Name "tuple" tp) [.Name c cp] [] cpos1,e] [] cpos) (DA i jc d):=Pz hu hg hm (cL hN hv b1 b2) hj (cL hNc hvc b3 b4) hjc h0 ns l1
def UT(j:Nat){i:Nat}(hm:X.mg "list"=none)(hc:X.calm=true:=by rfl)(hg:Gl X "list":=by rfl)(hN:X.N[j]?=some x:=by rfl)(hv:fX X.env.scope x:=by nofun)(hj:Y[j]?=some i:=by rfl)(hline:(apos.endLine==cpos.line)=true:=by rfl)(b1:(x==("__debug__":Str))=false:=by decide)(b2:(x==("__classdict__":Str))=false:=by decide) : SE X Ex Y (.Call (.Name "list" lp) [.Call (.Attribute (.Name x p) "values" apos) [] [] cpos] [] pos) (NX i):=by
 intro g xc E U H Hm F P Q hx R h q;obtain⟨p0,kvd,ei,pq⟩:=h;obtain⟨v0,hv0,o0⟩:=R.slot i _ _ ei;refine WE.of (Jg hc hg hm (cL hN hv b1 b2) rfl hline) ?_;generalize F i=fi at o0;cases o0 with
 |@dt _ a kvs _ ha tvs=>
 refine⟨_,bP hj hv0,a,kvs,rfl,ha,λl hl=>?_⟩;have s2:=bQ (o:=.lst (kvs.map (·.2))) hl;have R2:=R.grow (H':=upd H l (.lst (kvs.map (·.2)))) s2 (ah.refl _) (R.sub.trans s2) R.off λ_ _=>.inl rfl;refine q _ _ _ _ _ Hm F [l] pq R2 (ah.refl _) ⟨.ow av tvs.vals,λb hb=>?_,λb hb i=>?_,λb hb=>?_⟩;{rw[V6.mp hb];exact R.qp hl};{rw[V6.mp hb];exact R.fresh hl};rw[V6.mp hb];exact R.fH hl
def Ku:DS:=λ_ _=>False
def Si:S1 X Ex st Ku:=λ_ _ _ _ _ _ _ _ _ _ p=>p.elim
end Dv
namespace SM
open PySem PySem.SetTable PySem.SeqAt
def tV (h:Heap)(k:Ty)(v:Value):Prop:=match k with
 |.inl n=>∃t,v=.int (n:Int) t
 |.inr e=>∃b o n t u,v=.ref b/\h.get? b=some o/\o.cls=.type "tuple"/\o.data=.seq #[.int (e.1:Int) t,.int (e.2:Int) u] n
inductive PK(h:Heap)(k:Ty×Ty):Addr->Prop
 |mk {b:Addr}{o:Obj}{n:Nat}{u v:Value}:h.get? b=some o->o.cls=.type "tuple"->o.data=.seq #[u,v] n->tV h k.1 u->tV h k.2 v->PK h k b
def Ig (k:Ty):Nat:=match k with
 |.inl _=>1
 |.inr _=>3
def BG (k:Ty×Ty):Nat:=Ig k.1+Ig k.2+1
variable{prog:Program}{w:World}{A:Around}{E:Zn}{s:Shared}{h h':Heap}
def tV.inj(a:tV h k v)(b:tV h k' v):k=k':=by
 cases k with
 |inl n=>
  obtain⟨t,rfl⟩:=a;cases k' with
  |inl m=>obtain⟨u,e⟩:=b;injection e with e _;rw[e]
  |inr e=>obtain⟨_,_,_,_,_,z,_⟩:=b;cases z
 |inr e=>
  obtain⟨b1,o,n,t,u,rfl,ho,_,hd⟩:=a;cases k' with
  |inl m=>obtain⟨u,e⟩:=b;cases e
  |inr f=>obtain⟨b2,o2,n2,t2,u2,z,ho2,_,hd2⟩:=b;cases z;rw[ho]at ho2;cases ho2;rw[hd]at hd2;injection hd2 with z _;have z:=congrArg Array.toList z;injection z with z1 z;injection z with z2 _;injection z1 with z1 _;injection z2 with z2 _;rw[WD z1 z2]
theorem PK.inj{b:Addr}(a:PK h k b)(c:PK h k' b):k=k':=by
 cases a with|mk ho _ hd h1 h2=>
 cases c with|mk ho2 _ hd2 g1 g2=>
 rw[ho]at ho2;cases ho2;rw[hd]at hd2;injection hd2 with z _;have z:=congrArg Array.toList z;injection z with z1 z;injection z with z2 _;subst z1 z2;exact WD (h1.inj g1) (h2.inj g2)
def tV.keep(m:∀b o its n,h.get? b=some o->o.data=.seq its n->h'.get? b=some o)(a:tV h k v):tV h' k v:=by
 cases k with
 |inl n=>exact a
 |inr e=>obtain⟨b,o,n,t,u,z,ho,hc,hd⟩:=a;exact⟨b,o,n,t,u,z,m _ _ _ _ ho hd,hc,hd⟩
theorem PK.keep(m:∀b o its n,h.get? b=some o->o.data=.seq its n->h'.get? b=some o){b:Addr}(a:PK h k b):PK h' k b:=by cases a with|mk ho hc hd h1 h2=>exact .mk (m _ _ _ _ ho hd) hc hd (h1.keep m) (h2.keep m)
def QW(hu:A.units+8<cLine)(a:tV s.heap k v)(b:tV s.heap k' v'):EqAt A s v v' (decide (k=k')):=by
 cases k with
 |inl n=>
  obtain⟨t,rfl⟩:=a;cases k' with
  |inl m=>
   obtain⟨u,rfl⟩:=b;have e:decide ((Sum.inl n:Ty)=.inl m)=((n:Int)==(m:Int)):=by rw[Wg,Wy,beq_iff_eq];exact⟨λz=>by injection z with z,λz=>by rw[z]⟩
   rw[e];exact EqAt.int_int _ _ _ _
  |inr e=>obtain⟨b,o,n2,t2,u2,rfl,ho,hc,hd⟩:=b;rw[Vv (by intro z;cases z)];exact EqAt.int_tuple _ _ ⟨o,ho,hc,n2,hd⟩ (by lia)
 |inr e=>
  obtain⟨b1,o,n,t,u,rfl,ho,hc,hd⟩:=a;cases k' with
  |inl m=>obtain⟨u,rfl⟩:=b;rw[Vv (by intro z;cases z)];exact EqAt.tuple_int _ _ ⟨o,ho,hc,n,hd⟩ (by lia)
  |inr f=>
   obtain⟨b2,o2,n2,t2,u2,rfl,ho2,hc2,hd2⟩:=b;by_cases c:b1=b2;{subst c;rw[Vu (tV.inj (h:=s.heap) (k:=.inr e) (k':=.inr f) ⟨b1,o,n,t,u,rfl,ho,hc,hd⟩ ⟨b1,o2,n2,t2,u2,rfl,ho2,hc2,hd2⟩)];exact EqAt.same _};refine EqAt.of_refs c ?_;have z:=RcAt.tuples (A:=A) (s:=s) (e:=λj=>if j=0 then((e.1:Int)==(f.1:Int))else((e.2:Int)==(f.2:Int))) ⟨o,ho,hc,n,hd⟩ ⟨o2,ho2,hc2,n2,hd2⟩ (by lia) λj h1 h2=>by have hj:j<2:=h1;rcases(show j=0\/j=1 by lia)with rfl|rfl;{exact EqAt.int_int _ _ _ _};exact EqAt.int_int _ _ _ _
   have e0:decide ((Sum.inr e:Ty)=.inr f)=((List.range (min (#[Value.int (e.1:Int) t,.int (e.2:Int) u]:Zx).size (#[Value.int (f.1:Int) t2,.int (f.2:Int) u2]:Zx).size)).all (λj=>if j=0 then((e.1:Int)==(f.1:Int))else((e.2:Int)==(f.2:Int)))&&(#[Value.int (e.1:Int) t,.int (e.2:Int) u]:Zx).size==(#[Value.int (f.1:Int) t2,.int (f.2:Int) u2]:Zx).size):=by show _=((((e.1:Int)==(f.1:Int))&&(((e.2:Int)==(f.2:Int))&&true))&&true);rw[Z3,Z3,Wg,Wy,VB,beq_iff_eq,beq_iff_eq];exact⟨λz=>by injection z with z;rw[z];exact⟨rfl,rfl⟩,λz=>by rw[WD z.1 z.2]⟩
   rw[e0];exact z
def Dw(hu:A.units+16<cLine){b b':Addr}(a:PK s.heap k b)(c:PK s.heap k' b'):EqAt A s (.ref b) (.ref b') (decide (k=k')):=by
 by_cases z:b=b';{subst z;rw[Vu (a.inj c)];exact EqAt.same _};refine EqAt.of_refs z ?_;cases a with|@mk o n u v ho hc hd h1 h2=>
 cases c with|@mk o2 n2 u2 v2 ho2 hc2 hd2 g1 g2=>
 have z:=RcAt.tuples (A:=A) (s:=s) (e:=λj=>if j=0 then decide (k.1=k'.1)else decide (k.2=k'.2)) ⟨o,ho,hc,n,hd⟩ ⟨o2,ho2,hc2,n2,hd2⟩ (by lia) λj q1 q2=>by
  have hj:j<2:=q1;have hu1:A.in1.units+8<cLine:=by have:A.in1.units=A.units+1:=rfl;lia
  rcases(show j=0\/j=1 by lia)with rfl|rfl;{exact QW hu1 h1 g1};exact QW hu1 h2 g2
 have e0:decide (k=k')=((List.range (min (#[u,v]:Zx).size (#[u2,v2]:Zx).size)).all (λj=>if j=0 then decide (k.1=k'.1)else decide (k.2=k'.2))&&(#[u,v]:Zx).size==(#[u2,v2]:Zx).size):=by show _=(((decide (k.1=k'.1))&&((decide (k.2=k'.2))&&true))&&true);rw[Z3,Z3,Wg,Wy,VB,Wy,Wy];exact⟨λz=>by rw[z];exact⟨rfl,rfl⟩,λz=>WD z.1 z.2⟩
 rw[e0];exact z
def wN{n m:Nat}{a:Addr}(ho:s.heap.get? a=some o)(hc:o.cls=.type "tuple")(hd:o.data=.seq its m)(hi:∀v∈its.toList,∀(E':Zn)(Q':Bool->Shared->Prop),Q' true s->wpAny (model prog w) A (eqIsQuiet n v) Q' E' s)(q:Q true s):wpAny (model prog w) A (eqIsQuiet (n+1) (.ref a)) Q E s:=by rw[eqIsQuiet.eq_2];refine V0 (wpAny_specialOf (s:=s) ⟨o,ho,hc⟩ F.slot_tuple_eq.lookup ?_);dsimp only;refine V0 (wpAny_isInstance (s:=s) ⟨o,ho,hc⟩ (b:=true) rfl ?_);rw[if_neg (by decide)];refine V0 (wpAny_seqItems ho hd ?_);refine V0 ?_;show wpAny _ _ (forIn its _ _) _ _ s;rw[<-Z4];refine YJ _ (λrest r s'=>r.1=none/\s'=s/\∀v∈rest,v∈its.toList) _ ?_ ?_ _ _ ⟨rfl,rfl,λv hv=>hv⟩;{rintro v rest r s'⟨hr,rfl,hall⟩;refine V0 (hi v (hall v V3) _ _ ?_);simp only[YR,We,WC];exact V1 ⟨rfl,rfl,λu hu'=>hall u (V8 _ hu')⟩};rintro⟨r1,r2⟩s'⟨hr,rfl,_⟩;simp only at hr;subst hr;exact V1 q
def Cd{n m:Nat}{a:Addr}(ho:s.heap.get? a=some o)(hc:o.cls=.type "tuple")(hd:o.data=.seq its m)(hi:∀v∈its.toList,∀(E':Zn)(Q':Bool->Shared->Prop),Q' false s->wpAny (model prog w) A (ofAClassStatement n v) Q' E' s)(q:Q false s):wpAny (model prog w) A (ofAClassStatement (n+1) (.ref a)) Q E s:=by rw[ofAClassStatement.eq_2];refine V0 (Xq (s:=s) ⟨o,ho,hc⟩ ?_);refine V0 (V1 ?_);simp only[YR,We,WC];refine V0 (wpAny_seqItems ho hd ?_);refine V0 ?_;show wpAny _ _ (forIn its _ _) _ _ s;rw[<-Z4];refine YJ _ (λrest r s'=>r.1=none/\s'=s/\∀v∈rest,v∈its.toList) _ ?_ ?_ _ _ ⟨rfl,rfl,λv hv=>hv⟩;{rintro v rest r s'⟨hr,rfl,hall⟩;refine V0 (hi v (hall v V3) _ _ ?_);simp only[We,WC];exact V1 ⟨rfl,rfl,λu hu'=>hall u (V8 _ hu')⟩};rintro⟨r1,r2⟩s'⟨hr,rfl,_⟩;simp only at hr;subst hr;exact V1 q
def Bv{n m:Nat}{a:Addr}(ho:s.heap.get? a=some o)(hc:o.cls=.type "tuple")(hd:o.data=.seq its m)(hi:∀v∈its.toList,∀(E':Zn)(Q':Bool->Shared->Prop),(∀c,Q' c s)->wpAny (model prog w) A (hashByValue n v) Q' E' s)(q:∀c,Q c s):wpAny (model prog w) A (hashByValue (n+1) (.ref a)) Q E s:=by
 rw[hashByValue.eq_12];refine V0 (wpAny_specialOf (s:=s) ⟨o,ho,hc⟩ F.slot_tuple_hash.lookup ?_);dsimp only;refine V0 (wpAny_seqItems ho hd ?_);refine V0 ?_;show wpAny _ _ (forIn its _ _) _ _ s;rw[<-Z4];refine YJ _ (λrest r s'=>s'=s/\∀v∈rest,v∈its.toList) _ ?_ ?_ _ _ ⟨rfl,λv hv=>hv⟩
 .rintro v rest r s'⟨rfl,hall⟩;refine V0 (hi v (hall v V3) _ _ λc=>?_);split
  .exact V1 (by
    dsimp only;exact V1 (q _))
  exact V1 ⟨rfl,λu hu'=>hall u (V8 _ hu')⟩
 rintro⟨r1,r2⟩s'⟨rfl,_⟩;dsimp only;split<;>exact V1 (q _)
def vF{P:Value->Prop}(h:x∈(#[u,v]:Zx).toList)(hu:P u)(hv:P v):P x:=by rcases VF.mp h with rfl|h;{exact hu};rw[V6.mp h];exact hv
def Bh{n:Nat}{Q:Bool->Shared->Prop}(a:tV s.heap k v)(q:Q true s):wpAny (model prog w) A (eqIsQuiet (n+2) v) Q E s:=by
 cases k with
 |inl m=>obtain⟨t,rfl⟩:=a;rw[eqIsQuiet.eq_3 _ _ (λb z=>by cases z)];exact V1 q
 |inr e=>
  obtain⟨b,o,m,t,u,rfl,ho,hc,hd⟩:=a;refine wN ho hc hd (λx hx E' Q' q'=>?_) q;refine vF (P:=λx=>wpAny (model prog w) A (eqIsQuiet (n+1) x) Q' E' s) hx ?_ ?_;all_goals rw[eqIsQuiet.eq_3 _ _ (λb z=>by cases z)]
  all_goals exact V1 q'
def rQ{b:Addr}{Q:Bool->Shared->Prop}(a:PK s.heap k b)(q:Q true s):wpAny (model prog w) A (eqIsQuiet 8 (.ref b)) Q E s:=by
 cases a with|mk ho hc hd h1 h2=>
 exact wN ho hc hd (λx hx E' Q' q'=>vF (P:=λx=>wpAny (model prog w) A (eqIsQuiet 7 x) Q' E' s) hx (Bh (n:=5) h1 q') (Bh (n:=5) h2 q')) q
def KR{n:Nat}{Q:Bool->Shared->Prop}(a:tV s.heap k v)(q:Q false s):wpAny (model prog w) A (ofAClassStatement (n+2) v) Q E s:=by
 cases k with
 |inl m=>obtain⟨t,rfl⟩:=a;rw[rB _ rfl];exact V1 q
 |inr e=>
  obtain⟨b,o,m,t,u,rfl,ho,hc,hd⟩:=a;refine Cd ho hc hd (λx hx E' Q' q'=>?_) q;refine vF (P:=λx=>wpAny (model prog w) A (ofAClassStatement (n+1) x) Q' E' s) hx ?_ ?_;all_goals rw[rB _ rfl]
  all_goals exact V1 q'
def Ew{b:Addr}{Q:Bool->Shared->Prop}(a:PK s.heap k b)(q:Q false s):wpAny (model prog w) A (ofAClassStatement 8 (.ref b)) Q E s:=by
 cases a with|mk ho hc hd h1 h2=>
 exact Cd ho hc hd (λx hx E' Q' q'=>vF (P:=λx=>wpAny (model prog w) A (ofAClassStatement 7 x) Q' E' s) hx (KR (n:=5) h1 q') (KR (n:=5) h2 q')) q
def Le{n:Nat}{Q:Bool->Shared->Prop}(a:tV s.heap k v)(q:∀c,Q c s):wpAny (model prog w) A (hashByValue (n+2) v) Q E s:=by
 cases k with
 |inl m=>obtain⟨t,rfl⟩:=a;obtain⟨c,e⟩:=qd (n+2) (v:=.int m t) rfl;rw[e];exact V1 (q c)
 |inr e=>obtain⟨b,o,m,t,u,rfl,ho,hc,hd⟩:=a;refine Bv ho hc hd (λx hx E' Q' q'=>?_) q;refine vF (P:=λx=>wpAny (model prog w) A (hashByValue (n+1) x) Q' E' s) hx ?_ ?_;{obtain⟨c,e⟩:=qd (n+1) (v:=.int e.1 t) rfl;rw[e];exact V1 (q' c)};obtain⟨c,e⟩:=qd (n+1) (v:=.int e.2 u) rfl;rw[e];exact V1 (q' c)
def Ol{b:Addr}{Q:Bool->Shared->Prop}(a:PK s.heap k b)(q:∀c,Q c s):wpAny (model prog w) A (hashByValue 8 (.ref b)) Q E s:=by
 cases a with|mk ho hc hd h1 h2=>
 exact Bv ho hc hd (λx hx E' Q' q'=>vF (P:=λx=>wpAny (model prog w) A (hashByValue 7 x) Q' E' s) hx (Le (n:=5) h1 q') (Le (n:=5) h2 q')) q
def zA{a:Addr}{m d1 d2:Nat}{g1 g2:Int}(hu:A.units<cLine)(ho:s.heap.get? a=some o)(hc:o.cls=.type "tuple")(hd:o.data=.seq #[x,y] m)(h1:∀(E':Zn)(A':Around)(Q':Int->Shared->Prop) tk,A'.units<=A.units+2->Q' g1 { s with toks:=tk+d1 }->wpAny (model prog w) A' (pyHash x) Q' E' { s with toks:=tk })(h2:∀(E':Zn)(A':Around)(Q':Int->Shared->Prop) tk,A'.units<=A.units+2->Q' g2 { s with toks:=tk+d2 }->wpAny (model prog w) A' (pyHash y) Q' E' { s with toks:=tk })(q:Q (reduceHash (Builtin.Tuple.tupleHashOf [g1,g2])) { s with toks:=s.toks+(d1+d2+1) }):wpAny (model prog w) A (pyHash (.ref a)) Q E s:=by
 show wpAny (model prog w) A (pyHashByItsType (.ref a)) Q E s;refine PySem.W.pyHash_slot (s:=s) (B:=Builtin.«tuple.__hash__») ⟨o,ho,hc⟩ F.slot_tuple_hash F.entry_tuple_hash (F.args_tuple_hash_1 _) (by decide) (.inr hu) ?_;unfold Builtin.«tuple.__hash__»;rw[slotArgs.eq_1];rw[if_neg (show ¬(!([]:List (Str×Value)).isEmpty)=true by decide)];dsimp only[List.length];rw[if_neg (by decide)];refine V0 (V1 ?_);dsimp only;refine V0 (wpAny_tupleItemsOf ho hd ?_);refine V0 ?_;show wpAny _ _ (forIn #[x,y] _ _) _ _ s;rw[<-Z4];show wpAny _ _ (forIn [x,y] _ _) _ _ s;rw[List.forIn_cons];have ul:A.in1.units<=A.units+2:=by have:A.in1.units=A.units+1:=rfl;lia
 refine V0 (V0 (h1 _ _ _ s.toks ul ?_));refine V1 ?_;dsimp only;rw[List.forIn_cons];refine V0 (V0 (h2 _ _ _ (s.toks+d1) ul ?_));refine V1 ?_;dsimp only;rw[List.forIn_nil];refine V1 ?_;unfold retInt;refine V0 (wpAny_mkInt (V1 ⟨_,_,rfl,?_⟩));have e:s.toks+d1+d2+1=s.toks+(d1+d2+1):=by lia
 rw[<-e]at q;exact q
def FP(hu:A.units<cLine)(a:tV s.heap k v)(q:Q (tyH k) { s with toks:=s.toks+Ig k }):wpAny (model prog w) A (pyHash v) Q E s:=by
 unfold tyH at q;cases k with
 |inl n=>obtain⟨t,rfl⟩:=a;exact YV q
 |inr e=>obtain⟨b,o,n,t,u,rfl,ho,hc,hd⟩:=a;exact zA (d1:=1) (d2:=1) hu ho hc hd (λE' A' Q' tk _ q'=>YV q') (λE' A' Q' tk _ q'=>YV q') q
def vX{b:Addr}(hu:A.units+8<cLine)(a:PK s.heap k b)(q:Q (pH k) { s with toks:=s.toks+BG k }):wpAny (model prog w) A (pyHash (.ref b)) Q E s:=by
 unfold pH at q;cases a with|mk ho hc hd h1 h2=>
 exact zA (d1:=Ig k.1) (d2:=Ig k.2) (by lia) ho hc hd (λE' A' Q' tk hA q'=>FP (s:={ s with toks:=tk }) (by lia) h1 q') (λE' A' Q' tk hA q'=>FP (s:={ s with toks:=tk }) (by lia) h2 q') q
def pS (prog:Program)(w:World):HeapKind prog w (Ty×Ty) where
 is:=PK
 hash:=pH
 draws:=BG
 room:=λA=>A.units+16<cLine
 inj:=λa b=>a.inj b
 keeps:=λ{h h' k a d o es ep} hk hd ed sb=>hk.keep λb o2 its n hb eb=>by
  have ne:b≠d:=λz=>by
   subst z;rw[hb]at hd;cases hd;rw[eb]at ed;cases ed
  rw[sb.2 b ne];exact hb
 pyHash:=λhu a q=>vX (by lia) a q
 eqBool:=λhu a b q=>Dw hu a b _ _ _ _ q
 quiet:=λa q=>rQ a q
end SM
namespace SM
open PySem PySem.SetTable
def rS (h:Heap)(e:Ent)(k:Ty×Ty):Prop:=∃b,e=(pH k,Value.ref b)/\PK h k b
structure OC(h:Heap)(es:Array Ent)(ks:List (Ty×Ty)):Prop where
 ok:∀e∈es.toList,∃k,k∈ks/\rS h e k
 on:∀k∈ks,∃e,e∈es.toList/\rS h e k
theorem rS.inj(a:rS h e k)(b:rS h e k'):k=k':=by obtain⟨x,rfl,hx⟩:=a;obtain⟨y,e,hy⟩:=b;injection e with _ e;cases e;exact hx.inj hy
variable{prog:Program}{w:World}{A:Around}{E:Zn}{s:Shared}{t:SetTable}{es:Array Ent}
def Ca{b:Addr}(hk:PK s.heap k b)(hy:∀y∈ys,∃k' c,y=.ref c/\PK s.heap k' c)(h:Q false s) : wpAny (model prog w) A (searchCouldBeSeen (.ref b) ys) Q E s:=by
 unfold searchCouldBeSeen;refine V0 ?_;refine YJ _ (λrest r s'=>r.1=none/\s'=s/\∀y∈rest,∃k' c,y=.ref c/\PK s.heap k' c) _ ?_ ?_ _ _ ⟨rfl,rfl,hy⟩
 .rintro v rest r s'⟨hr,rfl,hall⟩;obtain⟨k',c,rfl,ha⟩:=hall v V3;have next:∀u∈rest,∃k' c,u=.ref c/\PK s'.heap k' c:=λu hu=>hall u (V8 _ hu)
  dsimp only;split;{exact V1 ⟨rfl,rfl,next⟩};refine V0 (rQ hk ?_);simp only[YR,We,WC];refine V0 (rQ ha ?_);simp only[YR,We,WC];refine V0 (Ew hk ?_);simp only[We,WC];refine V0 (Ew ha ?_);simp only[We,WC];exact V1 ⟨rfl,rfl,next⟩
 rintro⟨r1,r2⟩s'⟨hr,rfl,_⟩;simp only at hr;subst hr;exact V1 h
theorem wX{a:Addr}{b:Addr}{ep N:Nat}(hr:A.units+16<cLine)(ho:s.heap.get? a=some o)(hd:o.data=.set es ep t)(T:TB t es)(S:OC s.heap es ks)(hk:PK s.heap k b)(hl:N<10*turns t.mask)(hN:¬In t (pr t.mask (pH k) N).j)(hw:Way t (pH k) N)(q:Q (if k∈ks then .there none else .free (pr t.mask (pH k) N).j false) s) : ∀(fuel n:Nat)(p:Option Probe),n<=N->N-n<fuel->p.getD (t.probeStart (pH k))=pr t.mask (pH k) n->(∀(m i:Nat)(e:Ent),m<n->t.place[i]?=some (pr t.mask (pH k) m).j->es[i]?=some e->¬rS s.heap e k)->wpAny (model prog w) A (setSearchFrom a (.ref b) (pH k) true fuel p) Q E s
 |0,n,p,h1,h2,h3,h4=>absurd h2 (WX _)
 |fuel+1,n,p,h1,h2,h3,h4=>by
  rw[setSearchFrom.eq_2];refine V0 (XR ho hd T.fits ?_);dsimp only;rw[if_neg (by rw[T.Ij];exact VQ),h3];have z:=ve T.ri T.du (hashAt:=λi=>(Option.map (λx=>x.fst) es[i]?).getD 0) hN hw (10*turns t.mask) n h1 (by lia);have entry:∀i j:Nat,t.place[i]?=some j->∃e,es[i]?=some e:=λi j h=>by
   have hi:i<es.size:=by rw[<-T.sz];exact nv h
   exact⟨es[i],WQ hi⟩
  rcases z with⟨z1,z2⟩|⟨m,i,c1,c2,c3,c4,c5,c6⟩
  .have no:k∉ks:=λhin=>by obtain⟨e,he,eo⟩:=S.on k hin;obtain⟨i,hi⟩:=W6 he;rw[WK]at hi;obtain⟨bq,rfl,_⟩:=id eo;obtain⟨n',hn',hp⟩:=T.before hN hw hi rfl;by_cases c:n'<n;{exact h4 n' i _ c hp hi eo};refine z2 n' i (by lia) hn' hp ?_;rw[hi,Z5,Z6]
   rw[if_neg no]at q;split
   .next met heq=>
    have e:=z1.symm.trans heq;cases e;exact V1 q
   next x hx=>
   exact absurd z1 (hx _)
  obtain⟨e,he⟩:=entry i _ c3;obtain⟨k',hk',eo⟩:=S.ok e (VV (by rw[WK];exact he));obtain⟨bv,rfl,e3⟩:=id eo;have more:∀{P:Unit->Sem SetFound},wpAny (model prog w) A (P ()) Q E s->wpAny (model prog w) A (if(!t.led)=true then do
       let r <-searchCouldBeSeen (.ref b) (List.map (λx=>x.snd) (Array.filter (λx=>x.fst==pH k) es).toList)
       if r=true then do
         let r <-unsupported "set:the-search-would-show-the-table"
         P r
        else P ()
      else P ()) Q E s:=λhP=>by
   split
   .refine V0 (Ca hk (λy hy=>?_) ?_)
    .obtain⟨f,hf,rfl⟩:=V5.mp hy;obtain⟨k2,_,c,rfl,f3⟩:=S.ok f (by
      have:=YA.mp hf;rw[YA];exact(Array.mem_filter.mp this).1)
     exact⟨k2,c,rfl,f3⟩
    .rw[if_neg VQ];exact hP
   .exact hP
  split
  .next met heq=>
   have e:=c5.symm.trans heq;cases e;dsimp only;refine more (P:=λ_=>_) ?_;rw[he];dsimp only;refine V0 (W9 (Dw hr e3 hk prog w _ _ ?_));refine V0 (XR ho hd T.fits ?_);dsimp only;by_cases c:k'=k;{subst c;rw[if_pos hk']at q;rw[Vu rfl];rw[if_pos (by rfl)];exact V1 q};rw[Vv c];rw[if_neg (by simp)];have sm:t.sameMemory t.moves t.mask=some true:=by unfold sameMemory;rw[if_pos (by simp)]
   rw[sm];dsimp only;rw[if_pos rfl,pM T.ri c3];dsimp only;rw[he];dsimp only;refine V0 (wpAny_isSame_ref_self ?_);refine V0 (V1 ?_);rw[if_pos rfl];dsimp only;rw[if_neg VQ];refine wX hr ho hd T S hk hl hN hw q fuel (m+1) (some (pr t.mask (pH k) (m+1))) (by lia) (by lia) rfl λm' i' e' hm' hp' he' eo'=>?_;rcases W4 m' n with l|l;{exact h4 m' i' e' l hp' he' eo'};rcases W4 m' m with l2|l2;{refine c6 m' i' l l2 hp' ?_;rw[he'];obtain⟨bz,rfl,_⟩:=eo';rw[Z5,Z6]};have em:m'=m:=by lia
   subst em;have ei:=T.ri.inj hp' c3;subst ei;rw[he]at he';cases he';exact c (eo.inj eo')
  next x hx=>
  exact absurd c5 (hx _)
theorem BU{a b:Addr}{ep N:Nat}(hr:A.units+16<cLine)(ho:s.heap.get? a=some o)(hd:o.data=.set es ep t)(T:TB t es)(S:OC s.heap es ks)(hk:PK s.heap k b)(hl:N<10*turns t.mask)(hN:¬In t (pr t.mask (pH k) N).j)(hw:Way t (pH k) N)(q0:k∈ks->∀i,Q (.there (some i)) s)(q1:k∉ks->Q (.free (pr t.mask (pH k) N).j false) s) : ∀(fuel n:Nat)(p:Option Probe),n<=N->N-n<fuel->p.getD (t.probeStart (pH k))=pr t.mask (pH k) n->(∀(m i:Nat)(e:Ent),m<n->t.place[i]?=some (pr t.mask (pH k) m).j->es[i]?=some e->¬rS s.heap e k)->wpAny (model prog w) A (setSearchFrom a (.ref b) (pH k) false fuel p) Q E s
 |0,n,p,h1,h2,h3,h4=>absurd h2 (WX _)
 |fuel+1,n,p,h1,h2,h3,h4=>by
  rw[setSearchFrom.eq_2];refine V0 (XR ho hd T.fits ?_);dsimp only;rw[if_neg (by rw[T.Ij];exact VQ),h3];have z:=ve T.ri T.du (hashAt:=λi=>(Option.map (λx=>x.fst) es[i]?).getD 0) hN hw (10*turns t.mask) n h1 (by lia);have entry:∀i j:Nat,t.place[i]?=some j->∃e,es[i]?=some e:=λi j h=>by
   have hi:i<es.size:=by rw[<-T.sz];exact nv h
   exact⟨es[i],WQ hi⟩
  rcases z with⟨z1,z2⟩|⟨m,i,c1,c2,c3,c4,c5,c6⟩
  .have no:k∉ks:=λhin=>by obtain⟨e,he,eo⟩:=S.on k hin;obtain⟨i,hi⟩:=W6 he;rw[WK]at hi;obtain⟨bq,rfl,_⟩:=id eo;obtain⟨n',hn',hp⟩:=T.before hN hw hi rfl;by_cases c:n'<n;{exact h4 n' i _ c hp hi eo};refine z2 n' i (by lia) hn' hp ?_;rw[hi,Z5,Z6]
   split
   .next met heq=>
    have e:=z1.symm.trans heq;cases e;exact V1 (q1 no)
   next x hx=>
   exact absurd z1 (hx _)
  obtain⟨e,he⟩:=entry i _ c3;obtain⟨k',hk',eo⟩:=S.ok e (VV (by rw[WK];exact he));obtain⟨bv,rfl,e3⟩:=id eo;have more:∀{P:Unit->Sem SetFound},wpAny (model prog w) A (P ()) Q E s->wpAny (model prog w) A (if(!t.led)=true then do
       let r <-searchCouldBeSeen (.ref b) (List.map (λx=>x.snd) (Array.filter (λx=>x.fst==pH k) es).toList)
       if r=true then do
         let r <-unsupported "set:the-search-would-show-the-table"
         P r
        else P ()
      else P ()) Q E s:=λhP=>by
   split
   .refine V0 (Ca hk (λy hy=>?_) ?_)
    .obtain⟨f,hf,rfl⟩:=V5.mp hy;obtain⟨k2,_,c,rfl,f3⟩:=S.ok f (by
      have:=YA.mp hf;rw[YA];exact(Array.mem_filter.mp this).1)
     exact⟨k2,c,rfl,f3⟩
    .rw[if_neg VQ];exact hP
   .exact hP
  split
  .next met heq=>
   have e:=c5.symm.trans heq;cases e;dsimp only;refine more (P:=λ_=>_) ?_;rw[he];dsimp only;refine V0 (W9 (Dw hr e3 hk prog w _ _ ?_));refine V0 (XR ho hd T.fits ?_);dsimp only;rw[if_neg (by simp)];have sm:t.sameMemory t.moves t.mask=some true:=by unfold sameMemory;rw[if_pos (by simp)]
   rw[sm];dsimp only;rw[if_pos rfl,pM T.ri c3];dsimp only;rw[he];dsimp only;refine V0 (wpAny_isSame_ref_self ?_);refine V0 (V1 ?_);rw[if_pos rfl];dsimp only;by_cases c:k'=k;{subst c;rw[Vu rfl,if_pos rfl];exact V1 (q0 hk' _)};rw[Vv c,if_neg VQ];refine BU hr ho hd T S hk hl hN hw q0 q1 fuel (m+1) (some (pr t.mask (pH k) (m+1))) (by lia) (by lia) rfl λm' i' e' hm' hp' he' eo'=>?_;rcases W4 m' n with l|l;{exact h4 m' i' e' l hp' he' eo'};rcases W4 m' m with l2|l2;{refine c6 m' i' l l2 hp' ?_;rw[he'];obtain⟨bz,rfl,_⟩:=eo';rw[Z5,Z6]};have em:m'=m:=by lia
   subst em;have ei:=T.ri.inj hp' c3;subst ei;rw[he]at he';cases he';exact c (eo.inj eo')
  next x hx=>
  exact absurd c5 (hx _)
end SM
namespace SM
open PySem PySem.SetTable PySem.W PyProof.Rows
variable{prog:Program}{w:World}{A:Around}{E:Zn}{s:Shared}{t:SetTable}{es:Array Ent}
def Hu(p:es.toList.Perm (DL bs))(hk:∀q∈bs,PK h q.2 q.1):OC h es (bs.map (·.2)):=by refine⟨λe he=>?_,λk hk'=>?_⟩;{obtain⟨q,hq,rfl⟩:=V5.mp (p.mem_iff.mp he);exact⟨q.2,V5.mpr ⟨q,hq,rfl⟩,q.1,rfl,hk q hq⟩};obtain⟨q,hq,rfl⟩:=V5.mp hk';exact⟨_,p.mem_iff.mpr (V5.mpr ⟨q,hq,rfl⟩),q.1,rfl,hk q hq⟩
def IM:SQ (lg w) []:=by refine⟨⟨rfl,rfl,rfl⟩,#[],0,_,rfl,⟨rfl,?_,?_,rfl,Gm,(by decide:7%2=1),W3 _,?_⟩,(by decide:0*5<7*3),(by decide:7<=511),List.Perm.refl _⟩;{intro i k x y _ hx;cases hx};{intro i j h;cases h};intro i j e h;cases h
def PN{a b:Addr}(hr:A.units+16<cLine)(ha:s.heap.get? a=some o)(S:SQ o bs)(keys:∀q∈bs,PK s.heap q.2 q.1)(hk:PK s.heap k b)(few:bs.length+1<=127)(nin:k∉bs.map (·.2))(q1:∀h' o',Heap.SameBut a s.heap h'->h'.get? a=some o'->SQ o' (bs++[(b,k)])->Q true { s with heap:=h' }) : wpAny (model prog w) A (setAddHashed a (.ref b) (pH k)) Q E s:=by
 obtain⟨ex,es,ep,t,hd,T,nf,hm,pm⟩:=S;have sk:=Hu (h:=s.heap) pm keys;unfold setAddHashed;refine W9 ?_;rw[show(100000:Nat)=Nat.succ 99999 from rfl,setAddHashedIn.eq_2];refine V0 (XR ha hd T.fits ?_);dsimp only;rw[if_neg (by simp[byScan,Value.scannable])];unfold setSearch;obtain⟨N,hl,hN,hw⟩:=T.first (pH k);have lim:10*turns t.mask<=100000:=by unfold turns;lia
 refine V0 (wX hr ha hd T sk hk hl hN hw ?_ 100000 0 none (W3 _) (by lia) rfl λm i e hm'=>absurd hm' (WX _));rw[if_neg nin];dsimp only;refine V0 (XR ha hd T.fits ?_);dsimp only;have hj:=DZ t.mask (pH k) N;have szl:es.size=bs.length:=by have:=pm.length_eq;rwa[Wa,V2]at this
 have T1:=T.put (e:=(pH k,.ref b)) hl hN hw (by lia) hj;have hp:(t.put (pr t.mask (pH k) N).j).2<=es.size:=by rw[<-T.sz];exact IT T.ri _
 have P1:=(Jv hp ((pH k,Value.ref b):Ent)).trans (pm.append_right [(pH k,Value.ref b)]);have P2:DL bs++[(pH k,Value.ref b)]=DL (bs++[(b,k)]):=by show _=List.map _ _;rw[VJ];rfl
 rw[P2]at P1;have z1:=oF hp ((pH k,Value.ref b):Ent);have m1:(t.put (pr t.mask (pH k) N).j).1.mask=t.mask:=rfl;generalize (t.put (pr t.mask (pH k) N).j).1=t1 at *;generalize (t.put (pr t.mask (pH k) N).j).2=p1 at *;have len1:es.size+1<=127:=by lia
 have tail:∀t2:SetTable,TB t2 (insertAt es p1 (pH k,.ref b))->t2.mask=t.mask->wpAny (model prog w) A (do
   storeSet a (insertAt es p1 (pH k,.ref b)) t2
   if(!false&&t2.tooFull)=true then do
    let _ <-setRelay a (grown (es.size+1))
    pure true
   else pure true) Q E s:=λt2 T2 m2=>by
  refine V0 (wpAny_storeSet_of ha hd ?_ ?_)
  .have po:=putSet_of (insertAt es p1 (pH k,.ref b)) t2 hd;have g1:(s.heap.update a (Obj.putSet (insertAt es p1 (pH k,.ref b)) t2)).get? a=some { o with data:=.set (insertAt es p1 (pH k,.ref b)) (ep+1) t2 }:=by
    rw[XN _ ha (by rw[po];rfl),po]
   have sb:=XX s.heap a (Obj.putSet (insertAt es p1 (pH k,.ref b)) t2);generalize s.heap.update a (Obj.putSet (insertAt es p1 (pH k,.ref b)) t2)=h1 at *;have e2:t2.fill=es.size+1:=by
    unfold SetTable.fill;rw[T2.sz,T2.du,z1];rfl
   split
   .obtain⟨g2,g3,g4⟩:=L0 (n:=es.size+1) len1;obtain⟨g5,g6⟩:=Fp (es.size+1) len1;refine V0 (JT (s:={ s with heap:=h1 }) g1 rfl T2.fits g2 g3 (by rw[z1];exact g4) (VX g6 (by decide)) λt3 es3 T3 p3 m3=>V1 ?_)
    have po3:=putSet_of (o:={ o with data:=.set (insertAt es p1 (pH k,.ref b)) (ep+1) t2 }) es3 t3 rfl
    have l3:=p3.length_eq;rw[Wa,Wa,z1]at l3;refine q1 _ _ ⟨?_,λx hx=>?_⟩ (XN _ g1 (by rw[po3];rfl)) ?_
    .exact(XX h1 a (Obj.putSet es3 t3)).1.trans sb.1
    .exact((XX h1 a (Obj.putSet es3 t3)).2 x hx).trans (sb.2 x hx)
    .rw[po3];exact⟨ex,es3,_,t3,rfl,T3,by rw[l3,m3];exact g5,by rw[m3];lia,p3.trans P1⟩
   .next nt=>
    refine V1 (q1 _ _ sb g1 ⟨ex,_,_,t2,rfl,T2,?_,by lia,P1⟩)
    have e1:¬(t2.fill*5 >= t2.mask*3):=λq=>nt (by
     unfold tooFull;rw[Vu q];rfl)
    rw[e2]at e1;rw[z1];lia
  .rw[z1];exact VX len1 (by decide)
 split
 .refine V0 (Ol hk λcb=>?_);cases cb with
  |true=>exact tail t1 T1 m1
  |false=>exact tail { t1 with plain:=false } (T1.pl false) m1
 refine V0 (V1 ?_);exact tail t1 T1 m1
def MJ{a b:Addr}(hr:A.units+16<cLine)(ha:s.heap.get? a=some o)(S:SQ o bs)(keys:∀q∈bs,PK s.heap q.2 q.1)(hk:PK s.heap k b)(q:∀r:Option Nat,r.isSome=decide (k∈bs.map (·.2))->Q r s):wpAny (model prog w) A (setFind a (.ref b) (pH k)) Q E s:=by
 obtain⟨ex,es,ep,t,hd,T,nf,hm,pm⟩:=S;have sk:=Hu (h:=s.heap) pm keys;unfold setFind;rw[show(100000:Nat)=Nat.succ 99999 from rfl,setFindIn.eq_2];refine V0 (XR ha hd T.fits ?_);dsimp only;rw[if_neg (by simp[byScan,Value.scannable])];unfold setSearch;obtain⟨N,hl,hN,hw⟩:=T.first (pH k);have lim:10*turns t.mask<=100000:=by unfold turns;lia
 refine V0 (BU hr ha hd T sk hk hl hN hw (λhin i=>?_) (λhout=>?_) 100000 0 none (W3 _) (by lia) rfl λm i e hm'=>absurd hm' (WX _));{exact V1 (q _ (by rw[Vu hin];rfl))};exact V1 (q _ (by rw[Vv hout];rfl))
def Rz{b:Addr}(hu:A.units+32<cLine)(ho:s.heap.get? a=some o)(S:SQ o bs)(keys:∀q∈bs,PK s.heap q.2 q.1)(hk:PK s.heap k b)(q:∀tk,Q (.bool (decide (k∈bs.map (·.2)))) { s with toks:=tk }):wpAny (model prog w) A (compareOp .In (.ref b) (.ref a)) Q E s:=by
 have ty:s.TypeIs (.ref a) "set":=⟨o,ho,S.ex.1⟩;refine id (?_:wpAny _ _ (do return .bool (<-contains (.ref a) (.ref b))) Q E s);refine V0 (?_:_);unfold contains;try with_reducible refine W9 ?_
 refine V0 (wpAny_specialOf ty F.slot_set_contains.lookup (?_:_));refine id (?_:wpAny _ _ (if(some (Value.builtin "set.__contains__")==some Value.none)=true then _ else _) _ E s);rw[if_neg (by rw[beq_builtin_none];exact VQ)];refine V0 (wpAny_callSpecialUnlessNone?_slot (name:=Str.ofString "__contains__") ty F.slot_set_contains
  (Wu F.slot_set_contains ty entry_set_contains (?_:_) (F.args_set_contains_2 _ _)))
 unfold Builtin.«frozenset.__contains__»;unfold Builtin.Frozenset.oneOther;simp only[bind_assoc,Zb];unfold Builtin.Frozenset.addrOf;unfold Builtin.Frozenset.withSetAsKey;unfold setContains;refine V0 (V1 (?_:_));try dsimp only
 refine V0 (V1 (?_:_));try dsimp only
 refine V0 (wpAny_tryCatch (?_:_));refine W9 (?_:_);refine V0 (vX (by simp;lia) hk (?_:_));refine V0 (MJ (s:={ s with toks:=s.toks+BG k }) (by simp;lia) ho S keys hk λr hr=>?_);refine V1 (?_:_);refine id (?_:wpAny _ _ (ret (Value.bool r.isSome)) _ _ _);rw[hr];exact V1 ⟨_,rfl,XG (V1 (q _))⟩
def MA{b:Addr}(hu:A.units+32<cLine)(ho:s.heap.get? a=some o)(S:SQ o bs)(keys:∀q∈bs,PK s.heap q.2 q.1)(hk:PK s.heap k b)(few:bs.length+1<=127)(nin:k∉bs.map (·.2))(q:∀h' o' tk,Heap.SameBut a s.heap h'->h'.get? a=some o'->SQ o' (bs++[(b,k)])->Q .none { s with heap:=h',toks:=tk }):wpAny (model prog w) A (call (.builtin "set.add") [.ref a,.ref b]) Q E s:=by
 have ty:s.TypeIs (.ref a) "set":=⟨o,ho,S.ex.1⟩;refine Wu F.slot_set_add ty F.entry_set_add (?_:_) (F.args_set_add_2 _ _);unfold Builtin.«set.add»;unfold Builtin.Frozenset.oneOther;simp only[bind_assoc,Zb];unfold Builtin.Frozenset.addrOf;unfold setAdd;refine V0 (V1 (?_:_));try dsimp only
 refine V0 (V1 (?_:_));try dsimp only
 refine V0 (?_:_);refine W9 (?_:_);refine V0 (vX (by simp;lia) hk (?_:_));refine PN (s:={ s with toks:=s.toks+BG k }) (by simp;lia) ho S keys hk few nin λh' o' sb ho' S'=>?_;refine id (?_:wpAny _ _ (ret Value.none) _ _ _);exact V1 ⟨_,rfl,q h' o' _ sb ho' S'⟩
end SM
namespace L2
open PySem PySem.Spec PyProof.Rows SM
section
variable{P:Program}{w:World}{H H':Hp}{h:Heap}{a b:Addr}{o:Obj}
def G0(ho:h.get? a=some o)(S:SQ o bs):bC P w H h a (jV a bs):=
 ⟨⟨o,ho,S⟩,⟨o,ho⟩,λh1 h2 z k=>by
  obtain⟨o,z1,z2⟩:=z;exact⟨o,k o z1,z2⟩⟩
def P6(hs:(a==sysModules)=false)(ho:h.get? a=some o)(S:sF o xs):bC P w H h a (q8 a xs):=
 ⟨⟨hs,o,ho,S⟩,⟨o,ho⟩,λh1 h2 z k=>by
  obtain⟨hs,o,z1,z2⟩:=z;exact⟨hs,o,k o z1,z2⟩⟩
end
section
variable{X:Cx}{pins:Zq}{U:St}{H:Hp}{s:Shared}
def wJ.tv(I:Inv X pins U H s)(h:wJ H k v)(r:RelV v u):tV s.heap k u:=by
 cases k with
 |inl n=>cases (show v=.int (n:Int)from h);obtain⟨t,rfl⟩:=r;exact⟨t,rfl⟩
 |inr e=>
  obtain⟨c,rfl,hc⟩:=h;cases r;obtain⟨its2,r2,⟨o2,e2,c2,n2,d2⟩,_⟩:=I.tuple (bR.of hc);cases r2 with
  |cons ra r3=>
   cases r3 with
   |cons rb r4=>cases r4;obtain⟨t,rfl⟩:=ra;obtain⟨u,rfl⟩:=rb;exact⟨c,o2,n2,t,u,rfl,e2,c2,d2⟩
def cR.pk(I:Inv X pins U H s){k:Ty×Ty}{b:Addr}(h:cR H k b):SM.PK s.heap k b:=by
 cases h with|mk h1 h2 h3=>
 obtain⟨its2,r2,⟨o2,e2,c2,n2,d2⟩,_⟩:=I.tuple (bR.of h1);cases r2 with
 |cons ra r3=>
  cases r3 with
  |cons rb r4=>cases r4;exact .mk e2 c2 d2 (h2.tv I ra) (h3.tv I rb)
def vR(I:Inv X pins U H s){a:Addr}(ho:s.heap.get? a=some o)(S:sF o xs)(ky:∀x∈xs,cR H x.1 x.2.1):Heap.DictOfH (pS X.prog X.w) s.heap a (xs.map λx=>(x.1,x.2.1,Value.ref x.2.2)):=by obtain⟨ex,⟨es,ep,d1,d2⟩,nd⟩:=S;refine⟨o,es,ep,ho,ex,d1,?_,λy hy=>?_,?_⟩;{rw[d2,V7];rfl};{obtain⟨x,hx,rfl⟩:=V5.mp hy;exact(ky x hx).pk I};rw[V7];exact nd
def qX (xs:nu)(k:Ty×Ty):Zz:=(xs.find? λx=>decide (x.1=k)).map (·.2.2)
def Bc(xs:nu)(k:Ty×Ty):(atKey (xs.map λx=>(x.1,x.2.1,Value.ref x.2.2)) k).map (·.2)=(qX xs k).map Value.ref:=by unfold atKey qX;rw[List.find?_map,Z7,Z7,Z7];rfl
def ER:b8 X (.type "set") (λxs H Q=>xs=[]/\∀p,H p=none->Q (.ref p) (upd H p (jV p []))):=by intro pins s U H xs us Q I r h;obtain⟨rfl,q⟩:=h;cases r;refine SM.MC ?_;refine⟨.ref s.heap.objs.size,_,I.laid (t':=s.toks) (λb o' hb=>VS _ hb) (V4 _) (o:=jV s.heap.objs.size []) (G0 (W0 _ rfl) SM.IM),rfl,q _ (I.hok.fresh (V4 _))⟩
inductive KI(x:V) (y:V)(H:Hp)(Q:VK):Prop
 |mk:∀(b p:Addr)(k:Ty×Ty)(bs:K4),(x=.ref b)->(y=.ref p)->(cR H k b)->(H p=some (jV p bs))->((∀q∈bs,cR H q.2 q.1))->(Q (.bl (decide (k∈bs.map (·.2)))) H)->KI x y H Q
def O4:R2:=λx y H Q=>KI x y H Q
def Qp(hu:X.A.units+32<cLine):bE X (compareOp .In) O4:=by intro pins s U H x y v u Q I rx ry h;obtain⟨b,p,k,bs,rfl,rfl,hb,hp,hk,q⟩:=h;cases rx;cases ry;obtain⟨⟨o,ho,S⟩,_⟩:=I.hok p _ hp;exact SM.Rz hu ho S (λq hq=>(hk q hq).pk I) (hb.pk I) λtk=>⟨.bl _,H,I.tok tk,rfl,q⟩
inductive FO(x:V)(vs:List V)(H:Hp)(Q:VK):Prop
 |mk:∀(b p:Addr)(k:Ty×Ty)(bs:K4),(x=.ref p)->(vs=[.ref b])->(cR H k b)->(H p=some (jV p bs))->((∀q∈bs,cR H q.2 q.1))->(bs.length+1<=127)->(k∉bs.map (·.2))->(Q .aW (upd H p (jV p (bs++[(b,k)]))))->FO x vs H Q
def Rx:V->List V->Hp->VK->Prop:=λx vs H Q=>FO x vs H Q
def LH(hu:X.A.units+32<cLine):EZ X "set.add" Rx:=by intro pins s U H x vs v us Q I rx rv h;obtain⟨b,p,k,bs,rfl,rfl,hb,hp,hk,few,nin,q⟩:=h;cases rx;obtain⟨u,rfl,ru⟩:=rv.one;cases ru;obtain⟨⟨o,ho,S⟩,_⟩:=I.hok p _ hp;refine SM.MA hu ho S (λq hq=>(hk q hq).pk I) (hb.pk I) few nin λh' o' tk sb ho' S'=>?_;have I2:=I.write (x:=p) (e:=p) (o:=jV p (bs++[(b,k)])) (t':=tk) (h':=h') (by rw[hp];trivial) (.inl rfl) (λc u hc hu'=>by rw[sb.2 c hc];exact hu') ⟨o',ho'⟩ (G0 ho' S');exact⟨.aW,_,I2,rfl,q⟩
inductive HR(x:V) (y:V)(H:Hp)(Q:VK):Prop
 |mk:∀(b p:Addr)(k:Ty×Ty)(xs:nu),(x=.ref b)->(y=.ref p)->(cR H k b)->(H p=some (q8 p xs))->((∀x∈xs,cR H x.1 x.2.1))->(Q (.bl (!(qX xs k).isSome)) H)->HR x y H Q
def K5:R2:=λx y H Q=>HR x y H Q
def Mq(hu:X.A.units+32<cLine):bE X (compareOp .NotIn) K5:=by
 intro pins s U H x y v u Q I rx ry h;obtain⟨b,p,k,xs,rfl,rfl,hb,hp,hk,q⟩:=h;cases rx;cases ry;obtain⟨⟨hs,o,ho,S⟩,_⟩:=I.hok p _ hp;refine PyProof.Rows.wpAny_notIn_heap (knd:=pS X.prog X.w) (show X.A.in1.units+16<cLine from ?_) (hb.pk I) hs (vR I ho S hk) ?_;{have:X.A.in1.units=X.A.units+1:=rfl;lia};have e:(atKey (xs.map λx=>(x.1,x.2.1,Value.ref x.2.2)) k).isSome=(qX xs k).isSome:=by have:=congrArg Option.isSome (Bc xs k);rwa[Xs,Xs]at this
 rw[e];exact⟨.bl _,H,I.tok _,rfl,q⟩
inductive KH(x:V) (y:V)(H:Hp)(Q:VK):Prop
 |mk:∀(p b c:Addr)(k:Ty×Ty)(xs:nu),(x=.ref p)->(y=.ref b)->(cR H k b)->(H p=some (q8 p xs))->((∀x∈xs,cR H x.1 x.2.1))->(qX xs k=some c)->(Q (.ref c) H)->KH x y H Q
def Up:R2:=λx y H Q=>KH x y H Q
def RO(hu:X.A.units+32<cLine):m7 X Up:=by
 intro value slice pins s U H x y v u Q I rx ry h hs;obtain⟨p,b,c,k,xs,rfl,rfl,hb,hp,hk,ha,q⟩:=h;cases rx;cases ry;obtain⟨⟨hm,o,ho,S⟩,_⟩:=I.hok p _ hp;have e:=Bc xs k;rw[ha]at e;obtain⟨z,e1,e2⟩:∃z,atKey (xs.map λx=>(x.1,x.2.1,Value.ref x.2.2)) k=some z/\z.2=Value.ref c:=by
  cases z:atKey (xs.map λx=>(x.1,x.2.1,Value.ref x.2.2)) k with
  |none=>rw[z]at e;cases e
  |some z'=>rw[z]at e;exact⟨z',rfl,Option.some.inj e⟩
 refine PyProof.Rows.tail_any (show s.TypeIs (.ref p) "dict" from⟨o,ho,S.ex.1⟩) Zg (wpAny_getItem_heap (knd:=pS X.prog X.w) (show X.A.in1.units+16<cLine from ?_) (hb.pk I) (vR I ho S hk) e1 ?_) hs;{have:X.A.in1.units=X.A.units+1:=rfl;lia};rw[e2];exact⟨.ref c,H,I.tok _,rfl,q⟩
variable{o e:Expr}{es:A03}{to:TE}{t:TA}{name:Str}{apos cpos:Pos}{id:String}{r:V->List V->Hp->VK->Prop}
def TF (r:V->List V->Hp->VK->Prop)(to:TE)(t:TA):TE:=λU H Q=>to U H λx H1=>(∃p bs,x=.ref p/\H1 p=some (jV p bs))/\t U H1 λxs H2=>r x xs H2 Q
def NQ(slot:Slot "set" name id)(hty:typeOf (.builtin id)=pure (.type "method_descriptor"))(hm:EZ X id r)(ho:PE X o to)(ha:PA X (e::es) t)(hbase:attributeBase o name X.env (eval o X.env)=eval o X.env:=by rfl)(hfew:((backTo cpos (starEach (e::es) X.env)).all (λx=>!x.1)&&(backToKw cpos (keywordEach [] X.env)).all (λx=>x.1.isSome) && decide ((e::es).length+([]:List Keyword).length+(if([]:List Keyword).isEmpty then 0 else 1)<30))=true:=by rfl)(hline:(apos.endLine==cpos.line)=true:=by rfl)(hs:starEach (e::es) X.env=(false,eval e X.env)::starEach es X.env:=by rfl)(hplain:(backTo cpos (starEach es X.env)).any (·.1)=false:=by rfl) : PE X (.Call (.Attribute o name apos) (e::es) [] cpos) (TF r to t):=by intro pins s U H Q I h;refine wpAny_Call_method_late hbase hfew hline rfl (aH (ho pins s U H _ I h) λv s1 ⟨x,H1,I1,r1,⟨p,bs,ex,hp⟩,q1⟩=>?_);subst ex;have r1':=r1;cases r1;obtain⟨⟨ob,hob,S⟩,_⟩:=I1.hok p _ hp;refine⟨"set",id,PySem.F.plainAttrs_set,slot,hty,⟨ob,hob,S.ex.1⟩,λb e=>?_,?_⟩;{cases e;exact⟨ob,hob,S.ex.2.1⟩};have hA:=ha cpos pins s1 U H1 _ I1 q1;rw[hs]at hA⊢;refine Yj (by show(false||(backTo cpos (starEach es X.env)).any (·.1))=false;rw[hplain]<;>rfl) (ZL ?_);exact aH hA λus s2 ⟨vs,H2,I2,r2,q2⟩=>hm pins s2 U H2 _ vs _ us Q I2 r1' r2 q2
end
variable{prog:Program}{w:World}{A:Around}{E:Zn}{R:Result->Shared->Prop}{s:Shared}{kx vx tg iter:Expr}{scope:Scope}{pos:Pos}{D:Addr}
abbrev Ry (kx vx:Expr):Pos:=let p:=kx.pos;{ line:=p.line,col:=p.col,endLine:=vx.pos.endLine,endCol:=vx.pos.endCol }
def compTurn_dict(it:Value)(env:Env) :
  compTurn (.DictComp kx vx [⟨tg,iter,[],0⟩] scope pos) 0 it (.ref D) env=(do
   standAt iter.pos
   match <-pyNext it with
   |none=>pure (.done .next)
   |some v=>
    letOwnedTupleGo tg it v
    assign tg env v
    let mut ok:=true
    for c in ([]:A03)do
     if ok then ok <-isTrue c env (eval c env)
    if ok then(do
     let kv <-eval kx env
     let vv <-holding [kv] (eval vx env)
     standAt (Ry kx vx)
     holding [kv,vv] (dictSet D kv vv))
    again (.compLoop (.DictComp kx vx [⟨tg,iter,[],0⟩] scope pos) 0 it (.ref D) env)):=by rfl
def DJ(I:Nat->Shared->Prop)(turn:∀n s,I n s->wpAny (model prog w) A (pyNext it) (λr s1=>match r with
   |none=>R (.ok .next) s1
   |some v=>wpAny (model prog w) A (letOwnedTupleGo tg it v) (λ_ s0=>wpAny (model prog w) A (assign tg env v) (λ_ s2=>
     wpAny (model prog w) A (eval kx env) (λkv s3=>wpAny (model prog w) A (eval vx env) (λvv s4=>wpAny (model prog w) A (dictSet D kv vv) (λ_ s5=>∃m,m<n/\I m s5) (oQ prog w A env R) s4) (oQ prog w A env R) s3) (oQ prog w A env R) s2) (oQ prog w A env R) s0) (oQ prog w A env R) s1) (oQ prog w A env R) s)
  (n:Nat)(h:I n s):codeAny (model prog w) A (.compLoop (.DictComp kx vx [⟨tg,iter,[],0⟩] scope pos) 0 it (.ref D) env) R s:=by
 refine codeAny_loop rfl I (λn s hI=>?_) n h
 refine(wpAny_noted (?_:_):wpAny _ A ((compTurn (.DictComp kx vx [⟨tg,iter,[],0⟩] scope pos) 0 it (.ref D) env).onRaise (λx=>do noteFrame x env;theTreesLotGoes x)) _ _ s)
 rw[compTurn_dict];refine V0 (XH (V0 (Vw (turn n s hI) (λr s1 h1=>?_) λ_ _ z=>z)))
 cases r with
 |none=>exact V1 h1
 |some v=>
  refine V0 (Vw h1 (λ_ s0 h0=>V0 (Vw h0 (λ_ s2 h2=>?_) λ_ _ z=>z)) λ_ _ z=>z)
  refine V0 (V1 ?_);rw[if_pos rfl];refine V0 (V0 (Vw h2 (λkv s3 h3=>V0 (W9 (Vw h3 (λvv s4 h4=>V0 (XH (W9 (Vw h4 (λ_ s5 h5=>?_) λ_ _ z=>z)))) λ_ _ z=>z))) λ_ _ z=>z))
  exact V1 ⟨rfl,h5⟩
def AG (h0:codeAny (model prog w) A (.compLoop (.DictComp kx vx [⟨tg,iter,[],0⟩] scope pos) 0 it (.ref D) env) R s)(h:wpAny (model prog w) A (pyIter it) (λit' s'=>codeAny (model prog w) A (.compLoop (.DictComp kx vx [⟨tg,iter,[],0⟩] scope pos) 0 it' (.ref D) env) R s') (notedBy (model prog w) A env λx s'=>R (.error x) s') s) : codeAny (model prog w) A (.compStart (.DictComp kx vx [⟨tg,iter,[],0⟩] scope pos) 0 it (.ref D) env) R s:=by
 refine codeAny_of_tree ?_;show wpAny _ _ ((compStart (.DictComp kx vx [⟨tg,iter,[],0⟩] scope pos) 0 it (.ref D) env).onRaise (λx=>do noteFrame x env;standAt theWindowsPlace)) _ _ s;refine wpAny_notedAt ?_;unfold compStart;show wpAny _ _ (ask>>=_) _ _ s;refine V0 (wpAny_askSetting (wpAny_ite ?_));split
 .first
   |exact V0 (V1 (V1 (WY rfl h0)))
   |exact V1 (WY rfl h0)
 first
  |exact V0 (Ww (V0 (XH (V0 (Vw h (λit' s' h'=>V1 (WY rfl h')) λ_ _ x=>x)))))
  | (refine V0 (Ww ?_);show wpAny _ _ (standAt iter.pos>>=_) _ _ s;exact V0 (XH (V0 (Vw h (λit' s' h'=>V1 (WY rfl h')) λ_ _ x=>x))))
def O5 (J:It)(g:TG)(tk tv:TE)(σ0:St)(H1:Hp)(Q:nu->Hp->Prop):Prop:=
 ∃W:Nat->Nat->nu->St->Hp->Prop,(∃m,W 0 m [] σ0 H1)/\∀i m xs U H,W i m xs U H->
  (J.stop i H/\Q xs H)\/(J.go i H/\∃N:nu->St->Hp->Prop,(∀xs' σ' H',N xs' σ' H'->∃m',m'<m/\W (i+1) m' xs' σ' H') /\
   ∀x H',J.mJ i H x H'->g x U H' λσ2 H2=>tk σ2 H2 λk H3=>tv σ2 H3 λv H4=>∃(b c:Addr)(ky:Ty×Ty),k=.ref b/\v=.ref c/\cR H4 ky b/\(∀x∈xs,cR H4 x.1 x.2.1)/\ky∉xs.map (·.1)/\xs.length<sizeLine/\N (xs++[(ky,b,c)]) σ2 H4)
def EO (wi:TI) (n:Nat)(ix:A05)(g:TG)(tk tv:TE):TE:=λU H Q=>wi U H λJ H1=>O5 J g tk tv (List.replicate n none++caps ix U) H1 λxs H'=>∀p,H' p=none->Q (.ref p) (upd H' p (q8 p xs))
variable{X:Cx}{vs:A07}{NB:A07}{ix:A05}{pins:Zq}{U:St}{H2:Hp}{s2:Shared}{fp:A01}
def Ek{C D:Addr}(I2:Inv X pins U H2 s2)(f2:∀b∈fp,fN X pins H2 b)(hD:s2.heap.objs.size<=D)(I4:Inv (X.block scope C NB s2 H2 fp) [(D,oD)] σB H' s4)(so:sF oD xs):Inv X pins U (upd H' D (q8 D xs)) s4:=by
 have hp:=I4.pin (D,oD) (by show _∈[]++[(D,oD)];simp);have hfree:H' D=none:=hp.2.1;have neD:∀b o,s2.heap.get? b=some o->b≠D:=λb o e=>VO (Vt (VC e) hD);have neT:∀b o,H2 b=some o->b≠D:=λb o e=>VO (Vt (I2.hok.lt e) hD);have u:Un (frs X.stack) fp H2 H' s2.heap s4.heap:=I4.base;have hm:(D==sysModules)=false:=by have:=I2.big;rw[beq_eq_false_iff_ne];exact Xc (Vt this hD)
 refine I2.Dy (ch:=fp) I4.os ⟨u.keep,u.slot,λb o e n hx=>?_,u.there,λb xs e=>?_,λb o v e=>?_,λb ps e=>?_⟩ (λb o e=>?_) I4.bare λb hb=>?_;{rw[ai (neD b o e)];exact u.free b o e n hx};{rw[ai (neT b _ e)];exact u.tups b xs e};{rw[ai (neT b _ e)];exact u.jK b o v e};{rw[ai (neT b _ e)];exact u.kM b ps e}
 .by_cases hb:b=D;{subst hb;rw[av]at e;cases e;exact P6 hm hp.1 so};rw[ai hb]at e;have ne:∀{c:Addr}{w:HO},H' c=some w->c≠D:=λ{c w} q z=>by rw[z,hfree]at q;cases q
  exact(I4.hok b o e).stay (λ_ _ _ q=>q) (λc q=>by rw[ai (ne q)];exact q) λc xs q=>by rw[ai (ne q)];exact q
 obtain⟨_,g1,g2,g3,g4,g5⟩:=f2 b hb;exact⟨g3,g1,g4,g5⟩
def IU:sF { cls:=.type "dict",data:=.dict #[] } []:=⟨⟨rfl,rfl,rfl⟩,⟨#[],_,rfl,rfl⟩,WU⟩
def storedH_new{xs:nu}{b c:Addr}(n:k∉xs.map (·.1)):storedH (xs.map λx=>(x.1,x.2.1,Value.ref x.2.2)) k b (.ref c)=(xs++[(k,b,c)]).map λx=>(x.1,x.2.1,Value.ref x.2.2):=by
 have e:atKey (xs.map λx=>(x.1,x.2.1,Value.ref x.2.2)) k=none:=by unfold atKey;rw[Option.map_eq_none_iff,YG];intro y hy z;obtain⟨x,hx,rfl⟩:=V5.mp hy;exact n (V5.mpr ⟨x,hx,WA z⟩)
 unfold storedH;rw[e,if_neg (by decide),VJ];rfl
def Ms{D:Addr}(ho:h.get? D=some o)(S:Heap.DictOfH (pS P w) h D (xs.map λx=>(x.1,x.2.1,Value.ref x.2.2))):sF o xs:=by obtain⟨o2,es,ep,h1,h2,h3,h4,_,h6⟩:=S;rw[ho]at h1;cases h1;refine⟨h2,⟨es,ep,h3,?_⟩,?_⟩;{rw[h4,V7];rfl};rw[V7]at h6;exact h6
def D7{it:Addr}{tn:Nat->Heap->Prop}{E:Zn}{RR:Value->Addr->Result->Shared->Prop}{Qr:VK}(B:bS X scope vs NB ix)(hc:X.calm=true)(hu:X.A.units+32<cLine)(hg:∀(C:Addr)(s:Shared)(H:Hp)(fp:A01),PG (X.block scope C NB s H fp) tg g)(hk:∀(C:Addr)(s:Shared)(H:Hp)(fp:A01),PE (X.block scope C NB s H fp) kx tk)(hv:∀(C:Addr)(s:Shared)(H:Hp)(fp:A01),PE (X.block scope C NB s H fp) vx tv)(I2:Inv X pins U H2 s2)(T:Turn X.prog X.w X.K tg J fp it tn)(st2:tn 0 s2.heap)(f2:∀b∈fp,fN X pins H2 b)(h:O5 J g tk tv (List.replicate vs.length none++caps ix U) H2 λxs H'=>∀p,H' p=none->Qr (.ref p) (upd H' p (q8 p xs)))(hRR:∀(D C:Addr)(Hf:Hp)(s':Shared)(m':Zp),Inv X pins U Hf s'->s'.heap.Ns C m'->fN X pins Hf C->Qr (.ref D) Hf->RR (.ref D) C (.ok .next) s') : wpAny (model X.prog X.w) X.A newDict (λacc s3=>wpAny (model X.prog X.w) X.A (newFunctionEnv scope X.env.globals (dR X.env.cells scope.names []) [] X.env.qual none .none (some X.env)) (λcenv s4=> codeAny (model X.prog X.w) X.A (.compStart (.DictComp kx vx [⟨tg,iter,[],0⟩] scope pos) 0 (.ref it) acc { cenv with scope:=relabel scope X.env }) (RR acc cenv.locals) s4) E s3) E s2:=by
 obtain⟨W,⟨m0,w0⟩,turn⟩:=h;refine Wl (wpAny_newFunctionEnv B.cell (by intro y hy;simp at hy) (λh1 hns hsb=>?_) B.kind);dsimp only at hns hsb⊢;generalize eG:s2.heap.push { cls:=.type "dict",dict:=none,data:=.dict #[] }=G at hns hsb⊢;have hC:G.objs.size=s2.heap.objs.size+1:=by rw[<-eG,Yp]
 have hDC:s2.heap.objs.size≠G.objs.size:=by rw[hC];exact VO (Xw _)
 have hCle:s2.heap.objs.size<=G.objs.size:=by rw[hC];exact Nat.le_succ _
 have old:∀b o,s2.heap.get? b=some o->h1.get? b=some o:=λb o e=>by have lt:=VC e;exact hsb.extBut b o (VO (Vt lt hCle)) (VS _ (eG▸VS _ e))
 have hacc:h1.get? s2.heap.objs.size=some { cls:=.type "dict",dict:=none,data:=.dict #[] }:=hsb.extBut _ _ hDC (VS _ (eG▸W0 _ rfl));have ft:∀b∈fp,b<s2.heap.objs.size:=λb hb=>by obtain⟨o,e,_⟩:=T.obj _ _ st2 b hb;exact VC e
 have loop:∀s3:Shared,s3={ s2 with heap:=h1,toks:=s2.toks+([]:List (Str×Value)).length }->
   codeAny (model X.prog X.w) X.A (.compLoop (.DictComp kx vx [⟨tg,iter,[],0⟩] scope pos) 0 (.ref it) (.ref s2.heap.objs.size) (compEnvC scope (dR X.env.cells scope.names []) G.objs.size X.env))
    (RR (.ref s2.heap.objs.size) G.objs.size) s3:=by
  rintro s3 rfl;have I3:=uw (tk:=s2.toks+([]:List (Str×Value)).length) B I2 hCle (V4 _) hDC f2 ft old hns hacc (λv q=>by cases q)
  have st3:tn 0 h1:=T.keep _ _ _ st2 λb _ o e=>old b o e
  have fy:∀{H':Hp}{oD:Obj},(∀b∈fp,H' b=none)->∀b∈fp,fN (X.block scope G.objs.size NB s2 H2 fp) [(s2.heap.objs.size,oD)] H' b:=λ{H' oD} hn b hb=>by
   refine⟨hn b hb,VO (Vt (ft b hb) hCle),λz=>?_,.inl hb,λy c e=>(f2 b hb).2.2.2.2.1 y c (B.look I2 e),λp hp=>?_⟩;{rcases VF.mp (I2.m8 b z)with e|e;{exact(f2 b hb).2.1 e};exact(f2 b hb).2.2.1 e};have e:p=(s2.heap.objs.size,oD):=by simpa[Cx.block]using hp
   subst e;exact Ne.symm (VO (ft b hb))
  refine DJ (λn s'=>∃i xs oD σ' H',W i n xs σ' H'/\Inv (X.block scope G.objs.size NB s2 H2 fp) [(s2.heap.objs.size,oD)] σ' H' s'/\tn i s'.heap/\(∀b∈fp,H' b=none)/\sF oD xs)
   ?_ m0 ⟨0,[],_,_,H2,w0,I3,st3,λb hb=>(f2 b hb).1,IU⟩
  rintro n s'⟨i,xs,oD,σ',H',w',I',st',fr',so⟩;rcases turn i n xs σ' H' w' with⟨stop,q⟩|⟨go,Nx,hNx,step⟩
  .refine Vw (T.done (X.block scope G.objs.size NB s2 H2 fp) rfl rfl rfl hc i _ s' _ H' (λ_ _=>False) I' (fy fr') st' stop) (λr s4 ⟨hr',I4⟩=>?_) λ_ _ z=>z.elim
   subst hr';have I5:=Ek I2 f2 (V4 _) I4 so;obtain⟨m4,hn4,_⟩:=I4.loc;have hfree:H' s2.heap.objs.size=none:=(I4.pin (s2.heap.objs.size,oD) (by show _∈[]++[(s2.heap.objs.size,oD)];simp)).2.1
   have fC:fN X pins (upd H' s2.heap.objs.size (q8 s2.heap.objs.size xs)) G.objs.size:=I2.rV hCle (by
    rw[ai (Ne.symm hDC)];exact I4.free)
   exact hRR _ _ _ s4 m4 I5 hn4 fC (q _ hfree)
  .refine Vw (T.item (X.block scope G.objs.size NB s2 H2 fp) rfl rfl rfl hc i _ s' _ H' (λ_ _=>False) I' (fy fr') st' go) (λr s4 ⟨u,hr',h4⟩=>?_) λ_ _ z=>z.elim
   subst hr';refine Vw h4 (λ_ s4 ⟨v,H5,I5,r5,y5,st5,fr5⟩=>?_) λ_ _ z=>z.elim
   have pIt:∀b∈fp,∃o,s4.heap.get? b=some o/\∀v,o.data≠.cell v:=T.obj _ _ st5;have I5':=I5.pinned (fy fr5) pIt;refine Vw (hg _ _ _ _ _ s4 σ' H5 v u _ I5' r5 (step v H5 y5)) (λ_ s6 ⟨σ6,H6,I6,q6⟩=>?_) λ_ _ z=>z.elim
   refine Vw (hk _ _ _ _ _ s6 σ6 H6 _ I6 q6) (λkv s7 ⟨yk,H7,I7,r7,q7⟩=>?_) λ_ _ z=>z.elim
   refine Vw (hv _ _ _ _ _ s7 σ6 H7 _ I7 q7) (λvv s8 ⟨yv,H8,I8,r8,b,c,ky,e1,e2,kb,kall,nin,hlt,n8⟩=>?_) λ_ _ z=>z.elim
   subst e1 e2;cases r7;cases r8;obtain⟨m',hm,w8⟩:=hNx _ _ _ n8;have pD:=I8.pin (s2.heap.objs.size,oD) (by show _∈[]++([(s2.heap.objs.size,oD)]++jD fp s4.heap);simp)
   have ua:(X.block scope G.objs.size NB s2 H2 fp).A=X.A:=rfl;refine wpAny_dictSet_heap (knd:=pS X.prog X.w) (show X.A.units+16<cLine by lia) (kb.pk I8) (vR I8 pD.1 so kall) (λh9 hd9 hs9=>?_) (by rw[V2];lia)
   rw[storedH_new nin]at hd9;obtain⟨o9,ho9⟩:∃o,h9.get? s2.heap.objs.size=some o:=by
    obtain⟨o,_,_,z,_⟩:=hd9;exact⟨o,z⟩
   have so9:=Ms ho9 hd9;have hno:s2.heap.objs.size∉fp:=λz=>Vz _ (ft _ z)
   have g1:tn (i+1) s8.heap:=T.keep _ _ _ st5 λb hb o e=>(I8.pin (b,o) (W5 _ (W5 _ (gu hb e)))).1
   have g2:∀b∈fp,H8 b=none:=λb hb=>by
    obtain⟨o,e,d⟩:=pIt b hb;exact(I8.pin (b,o) (W5 _ (W5 _ (gu hb e)))).2.1
   have I8u:=I8.nN;have I8n:=I8u.i9 (pins':=[]) (λ_ z=>nomatch z)
   have I9:=I8n.turned (h':=h9) (t':=s8.toks+BG ky) (it:=s2.heap.objs.size) (λb o hb e=>hs9.extBut b o hb e) pD.2.1 pD.2.2.1 (.inr (V4 _))
    (λy c e z=>by
     obtain⟨w,q⟩:=I2.cell y c (B.look I2 e);exact Vz _ (z▸q.lt)) (λp hp=>by cases hp)
   have I10:Inv (X.block scope G.objs.size NB s2 H2 fp) [(s2.heap.objs.size,o9)] σ6 H8 { s8 with heap:=h9,toks:=s8.toks+BG ky }:=by
    refine I9.i9 λp hp=>?_
    have e:p=(s2.heap.objs.size,o9):=by simpa using hp
    subst e;refine⟨ho9,pD.2.1,pD.2.2.1,pD.2.2.2.1,λv q=>?_⟩
    obtain⟨_,⟨_,_,hd,_⟩,_⟩:=so9;rw[hd]at q;cases q
   exact⟨m',hm,i+1,xs++[(ky,b,c)],o9,σ6,H8,w8,I10,T.keep _ _ _ g1 λb hb o e=>hs9.extBut b o (λz=>hno (z▸hb)) e,g2,so9⟩
 exact AG (loop _ rfl) (T.self _ 0 _ _ _ (T.keep _ _ _ st2 λb _ o e=>old b o e) (loop _ rfl))
def JE{j:Nat}(hN:X.N.Nodup)(hj:X.N[j]?=some y)(hy:X.env.scope.names.lookup y=some .local)(B:bS X scope vs NB ix)(hc:X.calm=true)(hu:X.A.units+32<cLine)(hi:PI X tg iter wi)(hg:∀(C:Addr)(s:Shared)(H:Hp)(fp:A01),PG (X.block scope C NB s H fp) tg g)(hk:∀(C:Addr)(s:Shared)(H:Hp)(fp:A01),PE (X.block scope C NB s H fp) kx tk)(hv:∀(C:Addr)(s:Shared)(H:Hp)(fp:A01),PE (X.block scope C NB s H fp) vx tv)(hsw:swapsWith (.DictComp kx vx [⟨tg,iter,[],0⟩] scope pos) (some (.Name y py)) spos.line X.env=pure true)(hs:∀v,foldedSetIterable iter X.env v=pure v:=by intro _;rfl):PS X (.Assign [.Name y py] (.DictComp kx vx [⟨tg,iter,[],0⟩] scope pos) spos) (Dr (EO wi vs.length ix g tk tv) (lR j)):=by
 intro pins s U H Dn I h;rw[exec_Assign_Name_used _ _ _ _ hsw];refine V0 (XH (V0 ?_));show wpAny (model X.prog X.w) X.A (comprehension (.DictComp kx vx [⟨tg,iter,[],0⟩] scope pos) scope X.env _ newDict false (eval iter X.env) (some (assign (.Name y py) X.env))>>=λ_=>pure ()) _ _ s;refine V0 (aH (ZX (use:=some (assign (.Name y py) X.env)) (Q:=λ_ s'=>SP X pins Dn .next s') rfl hs (B.clos I) B.kind B.names (aH (hi pins s U H _ I h) λv s1 h1=>aH h1 λitv s2 h2=>?_)) λ_ s' q=>V1 (V1 q));obtain⟨it,fp,tn,J,H2,e,I2,T,st2,f2,w⟩:=h2;subst e;refine D7 (Qr:=λx H1=>lR j x U H1 Dn.nx) (RR:=λacc C=>compPost (model X.prog X.w) X.A X.xe (some (assign (.Name y py) X.env)) (λ_ s'=>SP X pins Dn .next s') acc C) B hc hu hg hk hv I2 T st2 f2 w λD C Hf s' m' I' hn' fC q=>?_;obtain⟨c0,c1,c2,c3,c4,c5⟩:=fC;show wpAny (model X.prog X.w) X.A (assign (.Name y py) X.env (.ref D)) _ _ s';refine ZG (qj I' hN hj (.inl hy) (v:=.ref D) rfl (λs'' I'' ⟨a,sb,ha⟩=>?_) (.inr hy));have hCa:C≠a:=by rcases ha with e|e;{rw[e];exact c1};exact λz=>c4 y a e z.symm
 refine⟨m',hn'.sameBut sb hCa,λh3 hs3=>⟨_,Hf,?_,q⟩⟩;exact I''.turned (it:=C) (t':=s''.toks) (λb o hb e=>hs3.extBut b o hb e) c0 c1 c3 c4 c5
end L2
namespace Dv
open PySem L2 PySem.W SM
abbrev Ky:=SM.Ty×SM.Ty
def mD (ks:List Ky):PyData:=.dict ((.none,.bool false)::ks.map λk=>(fQ k,.none))
def rH (kvs:List (Ky×PyData)):PyData:=.dict ((.none,.int 0)::kvs.map λx=>(fQ x.1,x.2))
def oJ (kvs:List (Ky×PyData))(k:Ky):Option PyData:=(kvs.find? λx=>decide (x.1=k)).map (·.2)
def Pw (E:En) (i:Nat):Bool:=match E[i]? with
 |some (some (.st _,.dict ((.none,.bool false)::_)))=>true
 |_=>false
def Pq (E:En) (i:Nat):Bool:=match E[i]? with
 |some (some _)=>true
 |_=>false
def D3:DE:=λ_ E Q=>Q E (.st false) (mD [])
def JJ (i:Nat)(d:DE):DE:=λx E Q=>d x E λE1 k v=>k.fz=true/\∃p ks ky,E1[i]?=some (some (.st p,mD ks))/\v=fQ ky/\Q E1 .sh (.bool (decide (ky∈ks)))
def CL (i:Nat)(d:DE):DE:=λx E Q=>Pw E i=true/\d x E λE1 k v=>k.fz=true/\∃ks ky,E1[i]?=some (some (.st false,mD ks))/\v=fQ ky/\ky∉ks/\ks.length<100/\Q (E1.set i (some (.st false,mD (ks++[ky])))) .sh .none
def Dm (i:Nat)(d:DE):DE:=λx E Q=>d x E λE1 k v=>k.fz=true/\∃kvs ky,E1[i]?=some (some (.sh,rH kvs))/\v=fQ ky/\Q E1 .sh (.bool (!(oJ kvs ky).isSome))
def Ep (i:Nat)(d:DE):DE:=λx E Q=>Pq E i=true/\d x E λE1 k v=>k.fz=true/\∃kvs ky e,E1[i]?=some (some (.sh,rH kvs))/\v=fQ ky/\oJ kvs ky=some e/\Q E1 .sh e
def Ed (cs:A05)(it:DI)(tg:Tg)(dk dv:DE):DE:=λx E Q=>it x E λE1 xs=>∃(E0:En)(I:Nat->List (Ky×PyData)->En->Prop),br cs E1=some E0/\I 0 [] E0/\(∀i d kvs E,xs[i]?=some d->I i kvs E->∃E2,cO tg d E=some E2/\dk xF E2 λE3 k v=>k.fz=true/\∃ky,v=fQ ky/\ky∉kvs.map (·.1)/\dv xF E3 λE4 k2 v2=>k2=.sh/\(∃ys,v2=.list ys)/\kvs.length<sizeLine/\I (i+1) (kvs++[(ky,v2)]) E4)/\∀kvs E,I xs.length kvs E->∃E2,br cs E=some E2/\Q E2 .sh (rH kvs)
variable{K:Frag}{H Hm:Hp}
def Cz(h:jW a=jW b):a=b:=by
 cases a with
 |inl n=>
  cases b with
  |inl m=>injection h with h;rw[h]
  |inr f=>cases h
 |inr e=>
  cases b with
  |inl m=>cases h
  |inr f=>injection h with h;injection h with h1 h;injection h with h2 _;injection h1 with h1;injection h2 with h2;rw[WD h1 h2]
def CA(h:fQ a=fQ b):a=b:=by injection h with h;injection h with h1 h;injection h with h2 _;exact WD (Cz h1) (Cz h2)
def K1(r:Rp K H v (jW k)):wJ H k v:=by
 cases k with
 |inl n=>cases (show Rp K H v (.int (n:Int))from r);rfl
 |inr e=>
  cases (show Rp K H v (.tuple [.int (e.1:Int),.int (e.2:Int)])from r)with
  |tup a r=>
   cases r with
   |cons r1 r=>
    cases r with
    |cons r2 r=>cases r;cases r1;cases r2;exact⟨_,rfl,a⟩
def t8(r:Rp K H v (fQ k)):∃b,v=.ref b/\cR H k b:=by
 cases (show Rp K H v (.tuple [jW k.1,jW k.2])from r)with
 |tup a r=>
  cases r with
  |cons r1 r=>
   cases r with
   |cons r2 r=>cases r;exact⟨_,rfl,.mk a (K1 r1) (K1 r2)⟩
def dP(s:ah Hm H){b:Addr}(h:cR Hm k b):cR H k b:=h.mono λb xs e=>s _ _ e
def EF{p:Bool}(o:Own K H Hm (.st p) v (mD ks) fp):∃a bs,v=.ref a/\fp=[a]/\H a=some (jV a bs)/\(∀q∈bs,cR Hm q.2 q.1)/\bs.map (·.2)=ks:=by
 unfold mD at o;generalize e:PyData.dict ((PyData.none,PyData.bool false)::ks.map λk=>(fQ k,PyData.none))=d at o;cases o with
 |st _ _ _=>injection e with e;injection e with e _;injection e with _ e;cases e
 |is _=>injection e with e;injection e with e _;injection e with _ e;injection e with e;cases e
 |@ps _ a bs h hk=>
  injection e with e;injection e with _ e;refine⟨a,bs,rfl,rfl,h,hk,?_⟩;have e2:ks.map fQ=(bs.map (·.2)).map fQ:=by have:=congrArg (List.map Prod.fst) e;rw[V7,V7]at this;rw[V7];exact this
  exact((List.map_inj_right λa b h=>CA h).mp e2).symm
def zH:oJ ((k',d)::l) k=if k'=k then some d else oJ l k:=by unfold oJ;rw[XQ];by_cases c:k'=k;{rw[if_pos c,show decide (((k',d):Ky×PyData).1=k)=true from Vu c];rfl};rw[if_neg c,show decide (((k',d):Ky×PyData).1=k)=false from Vv c]
def yE:qX (x::xs) k=if x.1=k then some x.2.2 else qX xs k:=by unfold qX;rw[XQ];by_cases c:x.1=k;{rw[if_pos c,Vu c];rfl};rw[if_neg c,Vv c]
def IJ(r:ay K H vs ds):∀{xs:nu},vs=xs.map (λx=>V.ref x.2.2)->∀k:Ky,∀e,oJ ((xs.map (·.1)).zip ds) k=some e->∃c,qX xs k=some c/\Rp K H (.ref c) e:=by
 induction ds generalizing vs with
 |nil=>intro xs _ k e h;rw[List.zip_nil_right]at h;cases h
 |cons d ds ih=>
  intro xs e1 k e h;cases r with
  |cons r1 r2=>
   cases xs with
   |nil=>cases e1
   |cons x xs=>injection e1 with e1 e2;subst e1;rw[VP,Z8,zH]at h;rw[yE];by_cases c:x.1=k;{rw[if_pos c]at h⊢;cases h;exact⟨x.2.2,rfl,r1⟩};rw[if_neg c]at h⊢;exact ih r2 e2 k e h
theorem zq:∀{xs:nu}{ds:Zy},xs.length=ds.length->∀k:Ky,(oJ ((xs.map (·.1)).zip ds) k).isSome=(qX xs k).isSome
 |[],ds,_,k=>by rw[List.map_nil,List.zip_nil_left];rfl
 |x::xs,[],h,k=>by cases h
 |x::xs,d::ds,h,k=>by rw[VP,Z8,zH,yE];by_cases c:x.1=k;{rw[if_pos c,if_pos c];rfl};rw[if_neg c,if_neg c];exact zq (Nat.succ.inj h) k
def Ks(r:Rp K H v (rH kvs)):∃a xs,v=.ref a/\H a=some (q8 a xs)/\(∀x∈xs,cR H x.1 x.2.1)/\ay K H (xs.map λx=>.ref x.2.2) (kvs.map (·.2))/\xs.map (·.1)=kvs.map (·.1):=by
 unfold rH at r;generalize e:PyData.dict ((PyData.none,PyData.int 0)::kvs.map λx=>(fQ x.1,x.2))=d at r;cases r with
 |dk a r=>
  injection e with e;cases r with
  |nil=>cases e
  |@cons k _ _ _ _ _ _=>injection e with e _;injection e with e _;cases k<;>cases e
 |dt a r=>injection e with e;injection e with e _;injection e with _ e;cases e
 |exc a n=>injection e with e;injection e with e _;injection e with _ e;cases e
 |@pd a xs ds h hk rs=>
  injection e with e;injection e with _ e;have l:xs.length=ds.length:=by have:=rs.len;rwa[V2]at this
  have e1:=congrArg (List.map Prod.fst) e;have e2:=congrArg (List.map Prod.snd) e;rw[V7,List.map_fst_zip (by rw[V2];lia)]at e1;rw[V7,List.map_snd_zip (by rw[V2];lia)]at e2;refine⟨a,xs,rfl,h,hk,?_,?_⟩;{have e3:kvs.map (·.2)=ds:=e2;rw[e3];exact rs};have e3:(kvs.map (·.1)).map fQ=(xs.map (·.1)).map fQ:=by rw[V7,V7];exact e1
  exact((List.map_inj_right λa b h=>CA h).mp e3).symm
 |_=>cases e
def n6{kvs:List (Ky×PyData)}:(kvs.map (·.1)).zip (kvs.map (·.2))=kvs:=by
 induction kvs with
 |nil=>rfl
 |cons x kvs ih=>rw[VP,VP,Z8,ih]
def MB{k:Kd}{p:Bool}(o:Own K H Hm (.st p) v (.dict ((.none,.bool false)::l)) fp):∃a bs,v=.ref a/\H a=some (jV a bs):=by
 generalize e:PyData.dict ((PyData.none,PyData.bool false)::l)=d at o;cases o with
 |st _ _ _=>injection e with e;injection e with e _;injection e with _ e;cases e
 |is _=>injection e with e;injection e with e _;injection e with _ e;injection e with e;cases e
 |@ps _ a bs h hk=>exact⟨a,bs,rfl,h⟩
def Gd{p:Bool}{a:Addr}(h:H a=some (jV a bs))(hk:∀q∈bs,cR Hm q.2 q.1):Own K H Hm (.st p) (.ref a) (mD (bs.map (·.2))) [a]:=by unfold mD;rw[V7];exact .ps h hk
variable{X:Cx}{Ex:XK}{Y:A05}
def RH(hm:X.mg "set"=none)(hg:Gl X "set":=by rfl):SE X Ex Y (.Call (.Name "set" p) [] [] pos) D3:=by intro g x E U H Hm F P Q hx R p q;refine WE.of (CW ER hg hm PyProof.Rows.boot_set) ⟨rfl,λa ha=>?_⟩;have s2:=bQ (o:=jV a []) ha;have R2:=R.grow (H':=upd H a (jV a [])) s2 (ah.refl _) (R.sub.trans s2) (λi b hb=>R.off i b hb) λ_ _=>.inl rfl;refine q _ _ _ _ _ Hm F [a] p R2 (ah.refl _) ⟨Gd av (λ_ z=>nomatch z),λb hb=>?_,λb hb i=>?_,λb hb=>?_⟩;{rw[V6.mp hb];exact R.qp ha};{rw[V6.mp hb];exact R.fresh ha};rw[V6.mp hb];exact R.fH ha
def Ul(j:Nat){i:Nat}(hu:X.A.units+64<cLine)(h0:SE X Ex Y e d)(hN:X.N[j]?=some x:=by rfl)(hv:fX X.env.scope x:=by nofun)(hj:Y[j]?=some i:=by rfl)(hb:(x==("__debug__":Str))=false:=by decide)(hcd:(x==("__classdict__":Str))=false:=by decide):bJ X Ex Y (.Compare e [.In] [.Name x p] pos) (JJ i d):=by intro g xc E U H Hm F P Q hx R h q;refine zM (Qp (by lia)) rfl (h0 g xc E U H Hm F _ _ hx R h λE1 k v u H1 Hm1 F1 fp p1 R1 s1 T=>?_);obtain⟨hk,p0,ks,ky,e1,rfl,pq⟩:=p1;obtain⟨Hm2,s2,R2,rk⟩:=T.cZ R1 hk;obtain⟨b,rfl,kb⟩:=t8 rk;obtain⟨w,h1,h2⟩:=R2.slot i _ _ e1;obtain⟨a,bs,rfl,hf,ha,hkk,hks⟩:=EF h2;refine WE.of (cL hN hv hb hcd) ⟨.ref a,bP hj h1,?_⟩;obtain⟨b',e3,q⟩:=q _ _ _ _ _ _ pq R2 (s1.trans s2);cases e3;refine(show r2 O4 [.ref b,.ref a] H1 (λx H'=>∃k,qg X.K x H' k/\Q k H')from ?_);exact⟨b,a,ky,bs,rfl,rfl,dP R2.sub kb,ha,λq hq=>dP R2.sub (hkk q hq),_,by rw[hks];rfl,q⟩
def R9(j:Nat){i:Nat}(hu:X.A.units+64<cLine)(h0:SE X Ex Y e d)(hN:X.N[j]?=some x:=by rfl)(hv:fX X.env.scope x:=by nofun)(hj:Y[j]?=some i:=by rfl)(hb:(x==("__debug__":Str))=false:=by decide)(hcd:(x==("__classdict__":Str))=false:=by decide):bJ X Ex Y (.Compare e [.NotIn] [.Name x p] pos) (Dm i d):=by
 intro g xc E U H Hm F P Q hx R h q;refine zM (Mq (by lia)) rfl (h0 g xc E U H Hm F _ _ hx R h λE1 k v u H1 Hm1 F1 fp p1 R1 s1 T=>?_);obtain⟨hk,kvs,ky,e1,rfl,pq⟩:=p1;obtain⟨Hm2,s2,R2,rk⟩:=T.cZ R1 hk;obtain⟨b,rfl,kb⟩:=t8 rk;obtain⟨w,h1,h2⟩:=R2.slot i _ _ e1;generalize F1 i=fn at h2;cases h2 with
 |sh r=>obtain⟨a,xs,rfl,ha,hkk,rs,hks⟩:=Ks r;refine WE.of (cL hN hv hb hcd) ⟨.ref a,bP hj h1,?_⟩;obtain⟨b',e3,q⟩:=q _ _ _ _ _ _ pq R2 (s1.trans s2);cases e3;refine(show r2 K5 [.ref b,.ref a] H1 (λx H'=>∃k,qg X.K x H' k/\Q k H')from ?_);have e4:=zq (xs:=xs) (ds:=kvs.map (·.2)) (by have:=rs.len;rwa[V2]at this) ky;rw[hks,n6]at e4;exact⟨b,a,ky,xs,rfl,rfl,dP R2.sub kb,R2.sub _ _ ha,λx hx=>dP R2.sub (hkk x hx),_,by rw[e4];rfl,q⟩
def Rj(j:Nat){i:Nat}(hu:X.A.units+64<cLine)(h0:SE X Ex Y e d)(hN:X.N[j]?=some x:=by rfl)(hv:fX X.env.scope x:=by nofun)(hj:Y[j]?=some i:=by rfl)(hs:kg e:=by intro _ _;rfl)(hb:(x==("__debug__":Str))=false:=by decide)(hcd:(x==("__classdict__":Str))=false:=by decide):SE X Ex Y (.Subscript (.Name x p) e pos) (Ep i d):=by
 intro g xc E U H Hm F P Q hx R h q;obtain⟨h0s,h⟩:=h;obtain⟨k0,d0,ei⟩:∃k d,E[i]?=some (some (k,d)):=by unfold Pq at h0s;split at h0s;{exact⟨_,_,by assumption⟩};cases h0s
 obtain⟨w0,hw0,_⟩:=R.slot i _ _ ei;refine WE.of (DF (RO (by lia)) (cL hN hv hb hcd) bf hs) ⟨w0,bP hj hw0,h0 g xc E U H Hm F _ _ hx R h λE1 k v u H1 Hm1 F1 fp p1 R1 s1 T=>?_⟩;obtain⟨hk,kvs,ky,e',e1,rfl,ev,pq⟩:=p1;obtain⟨Hm2,s2,R2,rk⟩:=T.cZ R1 hk;obtain⟨b,rfl,kb⟩:=t8 rk;obtain⟨w,h1,h2⟩:=R2.slot i _ _ e1;rw[hw0]at h1;cases h1;generalize F1 i=fn at h2;cases h2 with
 |sh r=>obtain⟨a,xs,rfl,ha,hkk,rs,hks⟩:=Ks r;rw[<-n6 (kvs:=kvs),<-hks]at ev;obtain⟨c,hc,rc⟩:=IJ (xs:=xs) rs rfl ky e' ev;exact⟨a,b,c,ky,xs,rfl,rfl,dP R2.sub kb,R2.sub _ _ ha,λx hx=>dP R2.sub (hkk x hx),hc,q _ _ _ _ _ _ _ [] pq R2 (s1.trans s2) (Tm.sh rc)⟩
def So(j:Nat){i:Nat}(hu:X.A.units+64<cLine)(h0:SE X Ex Y e d)(hN:X.N[j]?=some x:=by rfl)(hv:fX X.env.scope x:=by nofun)(hj:Y[j]?=some i:=by rfl)(ns:noStar e=true:=by rfl)(hline:(apos.endLine==cpos.line)=true:=by rfl)(hb:(x==("__debug__":Str))=false:=by decide)(hcd:(x==("__classdict__":Str))=false:=by decide) : SE X Ex Y (.Call (.Attribute (.Name x p) "add" apos) [e] [] cpos) (CL i d):=by
 intro g xc E U H Hm F P Q hx R h q;obtain⟨h0s,h⟩:=h;obtain⟨p0,l0,ei⟩:∃p l,E[i]?=some (some (.st p,.dict ((.none,.bool false)::l))):=by unfold Pw at h0s;split at h0s;{exact⟨_,_,by assumption⟩};cases h0s
 obtain⟨w0,hw0,ow0⟩:=R.slot i _ _ ei;obtain⟨a,S5,rfl,ha0⟩:=MB (k:=.sh) ow0;have ns':[e].all noStar=true:=by rw[VL,ns];rfl
 refine WE.of (NQ PySem.F.slot_set_add PySem.F.type_set_add (LH (by lia)) (cL hN hv hb hcd) (dh ns') rfl (ux ns' (show 1<30 by decide)) hline (aR ns) (eO rfl)) ⟨.ref a,bP hj hw0,⟨a,_,rfl,ha0⟩,h0 g xc E U H Hm F _ _ hx R h λE1 k v u H1 Hm1 F1 fp p1 R1 s1 T=>?_⟩;obtain⟨hk,ks,ky,e1,rfl,nin,few,pq⟩:=p1;obtain⟨Hm2,s2,R2,rk⟩:=T.cZ R1 hk;obtain⟨b,rfl,kb⟩:=t8 rk;obtain⟨w,h1,h2⟩:=R2.slot i _ _ e1;have h1':=h1;rw[hw0]at h1;cases h1;obtain⟨a',bs,e2,hf,ha,hkk,hks⟩:=EF h2;cases e2;have lb:bs.length=ks.length:=by rw[<-hks,V2]
 refine⟨b,a,ky,bs,rfl,rfl,dP R2.sub kb,ha,λq hq=>dP R2.sub (hkk q hq),by lia,by rw[hks];exact nin,?_⟩;have mF:a∈F1 i:=by rw[hf];exact V6.mpr rfl
 have e5:mD ((bs++[(b,ky)]).map (·.2))=mD (ks++[ky]):=by rw[VJ,hks];rfl
 have R4:=R2.Pj (o:=jV a (bs++[(b,ky)])) (d':=mD (ks++[ky])) e1 h1' mF (by
  rw[hf,<-e5];exact Gd av λq hq=>(VU.mp hq).elim (hkk q) λz=>by rw[V6.mp z];exact kb) SV λz=>by cases z
 exact q _ _ _ _ _ _ _ [] pq R4 (s1.trans s2) (Tm.sh .aW)
def known{tp:Addr}{F:Nat->A01}(R:Rl K g E U H Hm F)(htp:H tp=none):Rl K g E U (upd H tp o) (upd Hm tp o) F/\ah Hm (upd Hm tp o):=by
 have n:=fL R.sub htp;have s2:=bQ (o:=o) n;refine⟨R.grow (bQ htp) s2 (λb o e=>?_) (λi a ha=>?_) λa ha=>.inl (ai λz=>R.nL ha (z▸htp)),s2⟩;{by_cases c:b=tp;{rw[c,av]at e⊢;exact e};rw[ai c]at e⊢;exact R.sub _ _ e};rw[ai λz=>by
  obtain⟨u,hu,_⟩:=R.bu i a ha;rw[z,htp]at hu;cases hu]
 exact R.off i a ha
variable{cs:A05}{kx vx tg iter:Expr}{scope:Scope}{pos:Pos}
def JM{vs NB:A07}{ix:A05}{di:DI}{t:Tg}{dk dv:DE}(B:bS X scope vs NB ix)(hc:X.calm=true)(hcs:cs.length=vs.length)(hix:∀i∈ix,i<Y.length)(aF:∀c∈cs,c∉Y)(nd:(bI Y cs ix).Nodup)(hi:SI X Ex Y tg iter di)(ht:∀(C:Addr)(s:Shared)(H:Hp)(fp:A01),fM (X.block scope C NB s H fp) (bI Y cs ix) tg t)(hts:∀i∈t.slots,i∈cs)(hk:∀(C:Addr)(s:Shared)(H:Hp)(fp:A01),SE (X.block scope C NB s H fp) E0 (bI Y cs ix) kx dk)(hv:∀(C:Addr)(s:Shared)(H:Hp)(fp:A01),SE (X.block scope C NB s H fp) E0 (bI Y cs ix) vx dv){w:(V->Hp->Prop)->St->Hp->Prop}(hw:∀{wi:TI}{G:TG}{tk tv:TE}{U:St}{H:Hp}{Q:VK},PI X tg iter wi->(∀(C:Addr)(s:Shared)(H:Hp)(fp:A01),PG (X.block scope C NB s H fp) tg G)->(∀(C:Addr)(s:Shared)(H:Hp)(fp:A01),PE (X.block scope C NB s H fp) kx tk)->(∀(C:Addr)(s:Shared)(H:Hp)(fp:A01),PE (X.block scope C NB s H fp) vx tv)->EO wi vs.length ix G tk tv U H Q->w Q U H)(g:Gh)(x:XC)(E:En)(U:St)(H Hm:Hp)(F:Nat->A01)(P:En->Kd->PyData->Prop)(Q:VK)(hx:XL X Ex x g)(R:Rl X.K g E U H Hm F)(p:Ed cs di t dk dv x E P)(q:∀E' k v u H' Hm' F' fp,P E' k v->Rl X.K g E' U H' Hm' F'->ah Hm Hm'->Tm X.K g F' H' Hm' k u v fp->Q u H'):w Q (sel Y U) H:=by
 obtain⟨wi,hpi,hwi⟩:=hi;refine hw (wi:=wi) (G:=λv U H Q=>∀(C:Addr)(s:Shared)(H2:Hp)(fp:A01),WG (X.block scope C NB s H2 fp) tg v U H Q) (tk:=λU H Q=>∀(C:Addr)(s:Shared)(H2:Hp)(fp:A01),WE (X.block scope C NB s H2 fp) kx U H Q) (tv:=λU H Q=>∀(C:Addr)(s:Shared)(H2:Hp)(fp:A01),WE (X.block scope C NB s H2 fp) vx U H Q) hpi (λC s H2 fp pins s' U H v u Q I r h=>h C s H2 fp pins s' u I r) (λC s H2 fp pins s' U H Q I h=>h C s H2 fp pins s' I) (λC s H2 fp pins s' U H Q I h=>h C s H2 fp pins s' I) ?_;refine hwi g x E U H Hm F _ _ hx R p λE1 xs J H1 Hm1 F1 p1 R1 s1 it1=>?_;obtain⟨E0',I,hcl,i0,step,fin⟩:=p1;obtain⟨σ0,F0,R0,a0,n0⟩:=R1.br hcl;rw[<-hcs,vS hix aF a0 λc hc=>(n0 c hc).1];refine⟨λi m ps τ H'=>m=xs.length-i/\i<=xs.length/\∃E' kvs σ' Hm' F',I i kvs E'/\Rl X.K g E' σ' H' Hm' F'/\ah Hm1 Hm'/\Agree cs σ0 σ'/\τ=sel (bI Y cs ix) σ'/\(∀y∈ps,cR Hm' y.1 y.2.1)/\ay X.K Hm' (ps.map λy=>.ref y.2.2) (kvs.map (·.2))/\ps.map (·.1)=kvs.map (·.1),⟨xs.length,by simp,W3 _,E0',[],σ0,Hm1,F0,i0,R0,ah.refl _,Agree.refl _ _,rfl,(λ_ z=>nomatch z),.nil,rfl⟩,?_⟩;rintro i m ps τ H2⟨rfl,hi,E2,kvs,σ2,Hm2,F2,i2,R2,s2,a2,rfl,ky2,rs2,ks2⟩;obtain⟨go,stop⟩:=it1 i H2 Hm2 s2 R2.sub;by_cases c':i<xs.length
 .obtain⟨go,mJ⟩:=go xs[i] (VG c');refine .inr ⟨go,λps τ H'=>i+1<=xs.length/\∃E' kvs σ' Hm' F',I (i+1) kvs E'/\Rl X.K g E' σ' H' Hm' F'/\ah Hm1 Hm'/\Agree cs σ0 σ'/\τ=sel (bI Y cs ix) σ'/\(∀y∈ps,cR Hm' y.1 y.2.1)/\ay X.K Hm' (ps.map λy=>.ref y.2.2) (kvs.map (·.2))/\ps.map (·.1)=kvs.map (·.1),λps τ H' z=>⟨xs.length-(i+1),by lia,rfl,z⟩,λy0 H3 y=>?_⟩;obtain⟨Hm3,t1,t2,t3,old,rx⟩:=mJ y0 H3 y;have R3:=R2.turn t1 t2 t3 old;obtain⟨E4,e4,p4⟩:=step i xs[i] kvs E2 (VG c') i2;intro C s Hb fp;obtain⟨G,g1,g2⟩:=tQ (X:=X.block scope C NB s Hb fp) hc B.nd nd (ht C s Hb fp);refine WG.of g1 (g2 e4 rx R3 λσ4 F4 R4 ag=>?_);intro C s Hb fp;refine hk C s Hb fp g xF E4 σ4 H3 Hm3 F4 _ _ XL.no R4 p4 λE5 k5 v5 u5 H5 Hm5 F5 fp5 p5 R5 s5 T5=>?_;obtain⟨fz,ky,rfl,nin,p5⟩:=p5;obtain⟨Hm5',s5',R5',r5⟩:=T5.cZ R5 fz;obtain⟨b,rfl,kb⟩:=t8 r5;intro C s Hb fp;refine hv C s Hb fp g xF E5 σ4 H5 Hm5' F5 _ _ XL.no R5' p5 λE6 k6 v6 u6 H6 Hm6 F6 fp6 p6 R6 s6 T6=>?_;obtain⟨rfl,⟨ys,rfl⟩,hlt,p6⟩:=p6;have own6:=T6.own;cases own6 with
  |sh r6=>
   obtain⟨c,rfl⟩:∃c,u6=.ref c:=by cases r6;exact⟨_,rfl⟩
   have up:ah Hm2 Hm6:=t1.trans (s5.trans (s5'.trans s6));have a4:Agree cs σ0 σ4:=a2.trans ⟨by rw[<-R3.len,<-R4.len];exact(show E2.length=E4.length from R3.len.trans (by
    have h1:=R3.len;have h2:=R4.len;have:E4.length=E2.length:=by
     have go:∀{is:A05}{ds:Zy}{E E':En},bw is ds E=some E'->E'.length=E.length:=by
      intro is
      induction is with
      |nil=>intro ds E E' h;cases ds with|nil=>cases h;rfl|cons _ _=>cases h
      |cons j is ih=>
       intro ds E E' h;cases ds with
       |nil=>cases h
       |cons d ds=>
        rw[bw]at h
        by_cases o:bL E j=true
        .rw[if_pos o]at h;rw[ih h,VY]
        .rw[if_neg o]at h;cases h
     cases t with
     |nm j=>exact go (is:=[j]) e4
     |tp js=>
      cases hd:xs[i]with
      |tuple ds=>rw[hd]at e4;exact go (is:=js) e4
      |_=>rw[hd]at e4;cases e4
     |nt j js=>
      obtain⟨a,ds,hd,e4⟩:=qN e4;exact go (is:=j::js) e4
    lia)),λj hj=>ag j λz=>hj (hts j z)⟩
   refine⟨b,c,ky,rfl,rfl,dP R6.sub (dP s6 kb),λy hy=>dP R6.sub (dP up (ky2 y hy)),by rw[ks2];exact nin,?_,c',E6,kvs++[(ky,.list ys)],σ4,Hm6,F6,p6,R6,s2.trans up,a4,rfl,λy hy=>?_,?_,?_⟩;{have l1:=congrArg List.length ks2;rw[V2,V2]at l1;lia};{rcases VU.mp hy with hy|hy;{exact dP up (ky2 y hy)};rw[V6.mp hy];exact dP s6 kb};{rw[VJ,VJ];exact(rs2.mono up).app (.cons r6 .nil)};rw[VJ,VJ,ks2];rfl
 have e:i=xs.length:=by lia
 subst e;refine .inl ⟨stop (V4 _),λp hp=>?_⟩;obtain⟨E3,hcl2,p2⟩:=fin _ _ i2;obtain⟨σ3,F3,R3,a3,n3⟩:=R2.br hcl2;have R4:=R3.agree (cs:=cs) ((a0.trans a2).trans a3).symm λc hc=>(n3 c hc).2;obtain⟨R5,s5⟩:=known (o:=q8 p ps) R4 hp;have z:rH kvs=.dict ((.none,.int 0)::(ps.map λy=>fQ y.1).zip (kvs.map (·.2))):=by
  unfold rH;have e1:(ps.map λy=>fQ y.1)=(kvs.map (·.1)).map fQ:=by rw[<-ks2,V7];rfl
  rw[e1];have e2:∀l:List (Ky×PyData),(l.map λx=>(fQ x.1,x.2))=((l.map (·.1)).map fQ).zip (l.map (·.2)):=λl=>by
   induction l with
   |nil=>rfl
   |cons x l ih=>rw[VP,VP,VP,VP,Z8,ih]
  rw[e2]
 refine q _ _ _ _ _ _ F3 [] p2 R5 (s1.trans (s2.trans s5)) (Tm.sh ?_);rw[z];exact .pd av (λy hy=>dP s5 (ky2 y hy)) (rs2.mono s5)
def UE{j:Nat}{y:Str}{py spos:Pos}{vs NB:A07}{ix:A05}{di:DI}{t:Tg}{dk dv:DE}(hu:X.A.units+64<cLine)(hN:X.N.Nodup)(B:j6 X.N X.env.scope scope vs NB ix=true)(hi:SI X Ex (aO X) tg iter di)(ht:∀(C:Addr)(s:Shared)(H:Hp)(fp:A01),fM (X.block scope C NB s H fp) (bI (aO X) cs ix) tg t)(hk:∀(C:Addr)(s:Shared)(H:Hp)(fp:A01),SE (X.block scope C NB s H fp) E0 (bI (aO X) cs ix) kx dk)(hv:∀(C:Addr)(s:Shared)(H:Hp)(fp:A01),SE (X.block scope C NB s H fp) E0 (bI (aO X) cs ix) vx dv)(hj:X.N[j]?=some y:=by rfl)(hy:X.env.scope.names.lookup y=some .local:=by rfl)(hsw:swapsWith (.DictComp kx vx [⟨tg,iter,[],0⟩] scope pos) (some (.Name y py)) spos.line X.env=pure true:=by rfl)(hc:X.calm=true:=by rfl)(ck:vH (aO X) cs ix vs t.slots=true:=by rfl)(hs:∀v,foldedSetIterable iter X.env v=pure v:=by intro _;rfl):S1 X Ex (.Assign [.Name y py] (.DictComp kx vx [⟨tg,iter,[],0⟩] scope pos) spos) (aB j (Ed cs di t dk dv)):=by
 obtain⟨h1,h2,h3,h4,h5⟩:=uL ck;rw[qJ];intro g D' E U H Hm F D hx R p nx rt;refine JM (bS.of B) hc h1 h2 h3 h4 hi ht h5 hk hv (w:=λQ τ H=>(Q=λu H1=>D.nx (τ.set j (some u)) H1)->WS X (.Assign [.Name y py] (.DictComp kx vx [⟨tg,iter,[],0⟩] scope pos) spos) D τ H)
  (λa b c d e z=>by
   subst z;exact WS.of (JE hN hj hy (bS.of B) hc (by lia) a b c d hsw hs) e) g D'.xc E U H Hm F _ _ hx R p (λE' k v u H' Hm' F' fp p' R' s' T=>?_) rfl
 rw[ji Wi (fc (aS hj)) (R'.len▸gw p'.1)];exact nx _ _ _ _ _ p'.2 (R'.put T p'.1) s'
end Dv
namespace L2
open PySem PySem.Spec PyProof.Rows PySem.W
inductive EE(o:V) (i:V)(H:Hp)(Q:VK):Prop
 |mk:∀(a:Addr)(xs:List V) (n:Nat) (x:V),(o=.ref a)->(i=.int (n:Int))->(H a=some (.lst xs))->(xs[n]?=some x)->(Q x H)->EE o i H Q
def Sj:V->V->Hp->VK->Prop:=λo i H Q=>EE o i H Q
def JC:Nv X Sj:=by
 intro pins s U H o i ov iv Q I ro ri h;obtain⟨a,xs,n,x,rfl,rfl,ha,hx,q⟩:=h;cases ro;obtain⟨t,rfl⟩:=ri;obtain⟨its,r,pl,hz⟩:=I.list (bH.of ha);obtain⟨w,ew,rw'⟩:=r.get hx;have hl:=r.length;have hn:=(Wj.mp hx).1;have line:sizeLine<2^62:=by decide
 exact getItem_listL pl.isList (by lia) (by lia) (by simpa using ew) ⟨x,H,I,rw',q⟩
end L2
namespace Dv
open PySem L2 PySem.Spec PyProof.Rows PySem.W
def IC (i jn vn:Nat):DS:=λD E=>∃(p:Bool)(ns:A06) (a:Nat) (v:Int),E[i]?=some (some (.ow p,.list (ns.map .int)))/\E[jn]?=some (some (.sh,.int a))/\E[vn]?=some (some (.sh,.int v))/\a<ns.length/\D.nx (E.set i (some (.ow p,.list ((ns.set a (ns.getD a 0+v)).map .int))))
def Oe (E:En) (i:Nat):Bool:=match E[i]? with
 |some (some (k,.list _))=>k.rd
 |_=>false
def xO (i:Nat)(d:DE):DE:=λx E Q=>Oe E i=true/\d x E λE1 k v=>k.fz=true/\∃(k0:Kd)(ds:Zy) (j:Nat),E1[i]?=some (some (k0,.list ds))/\k0.rd=true/\ds.all (dl 8)=true/\dl 8 v=true/\ds[j]?=some v/\(∀(m:Nat) e,m<j->ds[m]?=some e->e≠v)/\Q E1 .sh (.int j)
variable{X:Cx}{Ex:XK}{Y:A05}
def Ud(j jn vn:Nat)(hu:X.A.units+64<cLine)(hN:X.N[j]?=some x:=by rfl)(hv:fX X.env.scope x:=by nofun)(hN2:X.N[jn]?=some y:=by rfl)(hv2:fX X.env.scope y:=by nofun)(hN3:X.N[vn]?=some z:=by rfl)(hv3:fX X.env.scope z:=by nofun)(hb:(x==("__debug__":Str))=false:=by decide)(hcd:(x==("__classdict__":Str))=false:=by decide)(hb2:(y==("__debug__":Str))=false:=by decide)(hcd2:(y==("__classdict__":Str))=false:=by decide)(hb3:(z==("__debug__":Str))=false:=by decide)(hcd3:(z==("__classdict__":Str))=false:=by decide)
  (ha:∀ov iv new,augStore (.Name y py) ov iv new=(do holding [new,ov,iv] (setItem ov iv new);release [new,ov,iv] [];pure .next):=by intros;rfl) :
  S1 X Ex (.AugAssign (.Subscript (.Name x px) (.Name y py) tp) .Add (.Name z pz) pos) (IC j jn vn):=by
 intro g D' E U H Hm F D hx R pp nx rt;obtain⟨p,ns,a,v,e1,e2,e3,hlt,q⟩:=pp;obtain⟨o,ho,oo⟩:=R.slot _ _ _ e1;obtain⟨u,hu2,ou⟩:=R.slot _ _ _ e2;obtain⟨w,hw,ow⟩:=R.slot _ _ _ e3;generalize hF:F jn=f2 at ou;generalize hF3:F vn=f3 at ow;cases ou with
 |sh ru=>
  cases ru;cases ow with
  |sh rv=>
   cases rv;generalize hF1:F j=f1 at oo;generalize ed:PyData.list (ns.map .int)=dd at oo;cases oo with
   |@ow _ ad xs ds hl rs=>
    injection ed with ed;subst ed;have gx:ns[a]?=some (ns.getD a 0):=by rw[VH,VG hlt];rfl
    obtain⟨xv,h1,h2⟩:=rs.get (i:=a) (d:=.int (ns.getD a 0)) (by rw[VA,gx];rfl);cases h2;refine WS.of (Mi (cL hN hv hb hcd) (cL hN2 hv2 hb2 hcd2) JC (cL hN3 hv3 hb3 hcd3) QA (J3 hu) ha) ⟨_,bP (fc (aS hN)) ho,_,bP (fc (aS hN2)) hu2,ad,xs,a,_,rfl,rfl,hl,h1,_,bP (fc (aS hN3)) hw,_,_,rfl,rfl,?_⟩;refine Ce (w:=.int (a:Int)) (v:=.int (ns.getD a 0+v)) (Qe:=D'.nx) R ho (.int _) (.int _) ?_ λE' H' q' R'=>nx _ _ _ _ _ q' R' (ah.refl _);unfold iH.setI;rw[e1];dsimp only;rw[<-aX];refine⟨a,?_,?_⟩;{rw[V2];show c7 (Nat.blt a ns.length) (some a) none=some a;have e5:Nat.blt a ns.length=true:=Nat.ble_eq.mpr hlt;rw[e5];rfl};have e4:(ns.map PyData.int).set a (.int (ns.getD a 0+v))=(ns.set a (ns.getD a 0+v)).map .int:=Z9.symm;rw[e4];exact q
def KA(j:Nat){i:Nat}(hu:X.A.units+64<cLine)(h0:SE X Ex Y e d)(hN:X.N[j]?=some x:=by rfl)(hv:fX X.env.scope x:=by nofun)(hj:Y[j]?=some i:=by rfl)(ns:noStar e=true:=by rfl)(hline:(apos.endLine==cpos.line)=true:=by rfl)(b1:(x==("__debug__":Str))=false:=by decide)(b2:(x==("__classdict__":Str))=false:=by decide) : SE X Ex Y (.Call (.Attribute (.Name x p) "index" apos) [e] [] cpos) (xO i d):=by
 intro g xc E U H Hm F P Q hx R h q;obtain⟨h0s,h⟩:=h;obtain⟨k0,ds0,ei,hk0⟩:∃k ds,E[i]?=some (some (k,.list ds))/\k.rd=true:=by unfold Oe at h0s;split at h0s;{exact⟨_,_,by assumption,h0s⟩};cases h0s
 obtain⟨w0,hw0,ow0⟩:=R.slot i _ _ ei;obtain⟨a0,xs0,rfl,ha0,_⟩:=dX (ow0.rp (Hm':=H) hk0 R.sub λ_ _=>rfl);have ns':[e].all noStar=true:=by rw[VL,ns];rfl
 refine WE.of (xT Yt PySem.F.slot_list_index PySem.F.type_list_index (Ff hu) (cL hN hv b1 b2) (dh ns') rfl (ux ns' (show 1<30 by decide)) hline (aR ns) (eO rfl)) ⟨_,bP hj hw0,.inl ⟨rfl,_,ha0.sq⟩,h0 g xc E U H Hm F _ _ hx R h λE1 k v u H1 Hm1 F1 fp p1 R1 s1 T=>?_⟩;obtain⟨hk,k1,ds,m,e1,hk1,la,ld,hm,hno,pq⟩:=p1;obtain⟨Hm2,s2,R2,rk⟩:=T.cZ R1 hk;obtain⟨w,h1,o1⟩:=R2.slot i _ _ e1;rw[hw0]at h1;cases h1;obtain⟨a,xs,e2,ha,rx⟩:=dX (o1.rp (Hm':=H1) hk1 R2.sub λ_ _=>rfl);cases e2;have ru:Rp X.K H1 u v:=rk.mono R2.sub;exact⟨a0,u,xs,ds,v,m,rfl,rfl,ha,ru.qT (jm ld),rx.qT (mU λd hd=>jm (VW.mp la d hd)),la,ld,hm,hno,q _ _ _ _ _ _ _ [] pq R2 (s1.trans s2) (Tm.sh (.int _))⟩
end Dv
namespace Dv
inductive G4{A0 A1:Type}(P:A0->A1->Prop):Prop
 |mk (a0:A0)(a1:A1)(h:P a0 a1):G4 P
inductive J5{A0 A1 A2:Type}(P:A0->A1->A2->Prop):Prop
 |mk (a0:A0)(a1:A1)(a2:A2)(h:P a0 a1 a2):J5 P
inductive Gn{A0 A1 A2 A3:Type}(P:A0->A1->A2->A3->Prop):Prop
 |mk (a0:A0)(a1:A1)(a2:A2)(a3:A3)(h:P a0 a1 a2 a3):Gn P
inductive yq{A0 A1 A2 A3 A4:Type}(P:A0->A1->A2->A3->A4->Prop):Prop
 |mk (a0:A0)(a1:A1)(a2:A2)(a3:A3)(a4:A4)(h:P a0 a1 a2 a3 a4):yq P
inductive Tf{A0 A1 A2 A3 A4 A5 A6 A7:Type}(P:A0->A1->A2->A3->A4->A5->A6->A7->Prop):Prop
 |mk (a0:A0)(a1:A1)(a2:A2)(a3:A3)(a4:A4)(a5:A5)(a6:A6)(a7:A7)(h:P a0 a1 a2 a3 a4 a5 a6 a7):Tf P
inductive SX(p0 p1:Prop):Prop
 |mk (h0:p0)(h1:p1):SX p0 p1
inductive FJ(p0 p1 p2:Prop):Prop
 |mk (h0:p0)(h1:p1)(h2:p2):FJ p0 p1 p2
inductive Ll(p0 p1 p2 p3:Prop):Prop
 |mk (h0:p0)(h1:p1)(h2:p2)(h3:p3):Ll p0 p1 p2 p3
inductive Nu(p0 p1 p2 p3 p4:Prop):Prop
 |mk (h0:p0)(h1:p1)(h2:p2)(h3:p3)(h4:p4):Nu p0 p1 p2 p3 p4
inductive To(p0 p1 p2 p3 p4 p5:Prop):Prop
 |mk (h0:p0)(h1:p1)(h2:p2)(h3:p3)(h4:p4)(h5:p5):To p0 p1 p2 p3 p4 p5
inductive SD(p0 p1 p2 p3 p4 p5 p6:Prop):Prop
 |mk (h0:p0)(h1:p1)(h2:p2)(h3:p3)(h4:p4)(h5:p5)(h6:p6):SD p0 p1 p2 p3 p4 p5 p6
inductive CB(p0 p1 p2 p3 p4 p5 p6 p7:Prop):Prop
 |mk (h0:p0)(h1:p1)(h2:p2)(h3:p3)(h4:p4)(h5:p5)(h6:p6)(h7:p7):CB p0 p1 p2 p3 p4 p5 p6 p7
inductive Tn(p0 p1 p2 p3 p4 p5 p6 p7 p8:Prop):Prop
 |mk (h0:p0)(h1:p1)(h2:p2)(h3:p3)(h4:p4)(h5:p5)(h6:p6)(h7:p7)(h8:p8):Tn p0 p1 p2 p3 p4 p5 p6 p7 p8
end Dv
namespace PB
open PySem L2 Dv
def gD:DS:=ao (qv [1,2] (bg 0)) (ao (aB 3 (pW sizeLine [6] (jT lH [.pk 1]) (.nm 6) (fF) (aa cE []))) (ao (eK (iE (bg 2)) (.tp [4,5]) (ao (cK (yw cS 3 (bg 4) 5)) (cK (yw cS 3 (bg 5) 4)))) (iM 3)))
def iX (AAR:bG):DS:=ao (aB 2 (aJ AAR [false] [.pk 0])) (ao (aB 3 (aa dW [.ev (aa cE [.ev (dC .none)]),.ev (aa aC [.pk 0,.ev (dC (.int 0))])])) (ao (iH 3 (bg 1) (dC (.int 0))) (ao (aB 4 (aa cE [.pk 1])) (ao (pK (Kl 4) (ao (aB 5 (aa cE [])) (ao (eK (iE (bg 4)) (.nm 6) (eK (iE (aa aC [.pk 2,.pk 6])) (.nm 7) (cG (bN (aa (dO false) [.ev (aa aC [.pk 3,.pk 7]),.ev (dC .none)])) (ao (iH 3 (bg 7) (aa cN [.ev (aa aC [.pk 3,.pk 6]),.ev (dC (.int 1))])) (cK (jR cS 5 [bg 7]))) (dD)))) (aB 4 (bg 5))))) (iM 3)))))
def gB:DS:=cG (Lb (bN (pR (λi j=>decide (i<=j)) (λi j=>decide (i<j)) (dC (.int 0)) (bg 1) (aa aC [.pk 0,.ev (dC (.int 0))])))) (yW "NoPlace") (dD)
def mj (AAV AAF:bG):DS:=ao (cK (aJ AAV [false,false] [.pk 0,.pk 1])) (bY (aJ AAF [false,false] [.pk 0,.pk 1]))
def kN:DS:=bY (aa xQ [.ev (aa aC [.pk 0,.ev (aa aC [.pk 1,.ev (dC (.int 0))])]),.ev (aa aC [.pk 0,.ev (aa aC [.pk 1,.ev (dC (.int 1))])])])
def lY:DS:=ao (qv [2,3] (bg 0)) (ao (aB 4 (wV (bN (aa jC [.pk 1,.ev (dC (.str "ties"))])) (aa cE []) (aa mZ [.pk 2]))) (ao (aB 5 (wV (bN (aa jC [.pk 1,.ev (dC (.str "places"))])) (aa cE []) (aa qL [.pk 3]))) (bY (aa cN [.pk 4,.pk 5]))))
def l7 (AAQ:bG):DS:=ao (cG (bN (aa (Bf "int") [.pk 1])) (bY (aa aC [.pk 0,.pk 1])) (dD)) (bY (aJ AAQ [false,false] [.pk 0,.pk 1]))
def kC (AAZ:bG):DS:=bY (cz [3,4] (sZ (bg 0)) (.tp [3,4]) (bN (aa oX [.ev (aJ AAZ [false,false] [.pk 4,.pk 1]),.ev (aJ AAZ [false,false] [.pk 4,.pk 2])])) (cB sizeLine (bg 3)))
def oq (AAE:bG):DS:=bY (cz [1] (jT lH [.ev (aa aC [.pk 0,.ev (dC (.int 0))])]) (.nm 1) (fF) (cB sizeLine (aJ AAE [false,false] [.pk 0,.pk 1])))
def je:DS:=ao (aB 1 (IP)) (ao (eK (iE (bg 0)) (.tp [2,3,4]) (cK (DA 1 4 (aa cJ [.pk 2,.pk 3,.pk 4])))) (bY (NX 1)))
def nS (AAD AAa AAT:bG):DS:=ao (aB 2 (aJ AAD [false] [.pk 0])) (ao (aB 3 (aJ AAa [false,false] [.pk 0,.pk 1])) (ao (aB 4 (aa cE [])) (ao (eK (sZ (bg 3)) (.tp [5,6]) (xZ sizeLine 4 (cz [7] (iE (aa (lB true false) [.pk 3,.ev (aa cN [.pk 5,.ev (dC (.int 1))])])) (.nm 7) (fF) (cB sizeLine (aa cJ [.pk 6,.pk 7,.ev (aJ AAT [false,false,false] [.pk 2,.pk 6,.pk 7])]))))) (iM 4))))
def gE:DS:=cG (bN (aa wG [.ev (aa aC [.pk 0,.ev (dC (.int 0))]),.ev (dC (.int 7))])) (Ku) (dD)
def kQ:DS:=ao (aB 2 (aa cE [])) (ao (eK (jT lH [.pk 1]) (.nm 3) (ao (aB 4 (cz [6,7,8] (iE (bg 0)) (.tp [6,7,8]) (fF) (cB sizeLine (wV (bN (aa (oH false) [.pk 3,.pk 8])) (dC (.int 1)) (dC (.int 0)))))) (ao (aB 5 (cz [6] (jT lH [.pk 1]) (.nm 6) (fF) (cB sizeLine (wV (bN (aa jC [.pk 3,.pk 6])) (dC (.int 1)) (dC (.int 0)))))) (cK (jR cS 2 [aa cN [.ev (aa cN [.pk 4,.pk 5]),.ev (aa cE [.ev (dC (.int 1))])]]))))) (bY (aa cN [.pk 2,.ev (aa cE [.ev (aa cN [.ev (aa dW [.ev (aa cE [.ev (aa gF [.ev (dC (.int 1))])]),.ev (aa fB [.pk 0])]),.ev (aa dW [.ev (aa cE [.ev (dC (.int 0))]),.ev (aa cN [.pk 1,.ev (dC (.int 1))])])])])])))
def kr:DS:=ao (aB 5 (aa dW [.ev (aa aC [.ev (aa aC [.pk 0,.pk 3]),.ev (aa gF [.ev (dC (.int 1))])]),.ev (aa aC [.ev (aa aC [.pk 0,.pk 4]),.pk 2])])) (ao (aB 6 (aa dW [.ev (aa aC [.ev (aa aC [.pk 0,.pk 4]),.ev (aa gF [.ev (dC (.int 1))])]),.ev (aa aC [.ev (aa aC [.pk 0,.pk 3]),.pk 2])])) (bY (oS (aa kT [.pk 5,.pk 6]) (nR (aa jC [.pk 5,.pk 6]) (aa kT [.ev (aa aC [.pk 1,.pk 3]),.ev (aa aC [.pk 1,.pk 4])])))))
def oi (AAH:bG):DS:=ao (aB 3 (dC .none)) (ao (eK (jT lH [.ev (aa fB [.pk 1])]) (.nm 4) (cG (bN (nR (aa wG [.ev (aa aC [.ev (aa aC [.pk 0,.pk 4]),.pk 2]),.ev (dC (.int 0))]) (oS (aa (dO false) [.pk 3,.ev (dC .none)]) (aJ AAH [false,false,false,false,false] [.pk 0,.pk 1,.pk 2,.pk 4,.pk 3])))) (aB 3 (bg 4)) (dD))) (iM 3))
def sJ:DS:=ao (aB 4 (aa aC [.pk 0,.pk 2])) (ao (aB 5 (aa cE [])) (ao (eK (sZ (bg 0)) (.tp [6,7]) (cG (bN (aa jC [.pk 6,.pk 2])) (cK (jR cS 5 [bg 4])) (cK (jR cS 5 [cz [8,9] (Eu (bg 7) (bg 4)) (.tp [8,9]) (fF) (cB sizeLine (aa DG [.ev (aa oz [.ev (aa dW [.pk 8,.ev (aa aC [.pk 4,.pk 3])]),.ev (aa dW [.ev (aa aC [.pk 7,.pk 3]),.pk 9])]),.pk 1]))])))) (iM 5)))
def jF (AAG AAb AAc:bG):DS:=ao (aB 2 (aJ AAG [false,false] [.pk 0,.pk 1])) (ao (aB 3 (cz [7] (jT lH [.pk 1]) (.nm 7) (fF) (cB sizeLine (aa cN [.ev (aa fB [.pk 0]),.pk 7])))) (ao (aB 4 (dC (.int 1))) (ao (pK (bN (aa kT [.ev (aa qD [.ev (aa (lB false true) [.ev (aa aC [.pk 2,.ev (aa gF [.ev (dC (.int 1))])]),.ev (aa gF [.ev (dC (.int 1))])])]),.ev (dC (.int 0))])) (ao (aB 5 (aa aC [.ev (cz [7,8] (sZ (aa (lB false true) [.ev (aa aC [.pk 2,.ev (aa gF [.ev (dC (.int 1))])]),.ev (aa gF [.ev (dC (.int 1))])])) (.tp [7,8]) (bN (aa kT [.pk 8,.ev (dC (.int 0))])) (cB sizeLine (bg 7))),.ev (dC (.int 0))])) (ao (aB 6 (aJ AAb [false,false,false] [.pk 2,.pk 3,.pk 5])) (ao (aB 2 (aJ AAc [false,false,false,false] [.pk 2,.pk 4,.pk 6,.pk 5])) (ao (aB 4 (aa aC [.ev (aa aC [.pk 2,.pk 6]),.pk 5])) (iH 3 (bg 6) (bg 5))))))) (bY (aa cJ [.pk 4,.pk 3,.pk 2])))))
def lZ (AAW AAd AAS AAC:bG):DS:=ao (cK (aJ AAW [false] [.pk 0])) (ao (aB 2 (aJ AAd [false] [.ev (aJ AAS [false,false] [.pk 0,.pk 1])])) (ao (qv [3,4,5] (aJ AAC [false,false] [.pk 2,.ev (aa aC [.pk 0,.ev (dC (.int 0))])])) (ao (aB 6 (aa aC [.pk 5,.ev (aa gF [.ev (dC (.int 1))])])) (ao (aB 7 (aa (lB true true) [.pk 6,.ev (aa fB [.pk 2]),.ev (aa gF [.ev (dC (.int 1))])])) (ao (aB 8 (cz [10,11] (Eu (bg 4) (bg 5)) (.tp [10,11]) (bN (aa kT [.pk 10,.ev (aa fB [.pk 2])])) (cB sizeLine (aa cJ [.pk 10,.ev (aa aC [.pk 11,.ev (aa gF [.ev (dC (.int 1))])])])))) (ao (aB 9 (cz [10,11] (iE (bg 8)) (.tp [10,11]) (bN (aa wG [.pk 11,.ev (dC (.int 0))])) (cB sizeLine (aa cJ [.ev (aa aC [.ev (aa aC [.pk 2,.pk 10]),.ev (dC (.int 0))]),.ev (aa aC [.ev (aa aC [.pk 2,.pk 10]),.ev (dC (.int 1))]),.pk 11])))) (bY (aa cJ [.pk 3,.pk 7,.pk 9]))))))))
def jd:DS:=ao (aB 4 (D3)) (ao (aB 5 (aa dW [.ev (aa cE [.ev (dC (.int 0))]),.pk 1])) (ao (eK (iE (bg 3)) (.tp [6,7,8]) (ao (cG (bN (oS (aa kT [.pk 8,.ev (dC (.int 1))]) (oS (Dm 0 (aa cJ [.pk 6,.pk 7])) (JJ 4 (aa cJ [.pk 6,.pk 7]))))) (bY (dC (.bool false))) (dD)) (ao (cK (CL 4 (aa cJ [.pk 6,.pk 7]))) (eK (iE (Ep 0 (aa cJ [.pk 6,.pk 7]))) (.nm 9) (IC 5 9 8))))) (bY (aa Qq [.ev (aa xR [.pk 5]),.pk 2]))))
def iJ (AAW AAS AAU:bG):DS:=ao (cK (aJ AAW [false] [.pk 0])) (ao (aB 5 (aJ AAS [false,false] [.pk 0,.pk 1])) (ao (cG (bN (oS (aa kT [.pk 2,.ev (dC (.int 1))]) (oS (aa oX [.ev (aa fB [.pk 3]),.ev (aa aC [.pk 0,.ev (dC (.int 0))])]) (aa yg [.ev (cz [7] (iE (bg 3)) (.nm 7) (fF) (cB sizeLine (aa kT [.pk 7,.ev (dC (.int 0))])))])))) (bY (dC (.bool false))) (dD)) (ao (cG (bN (aa yg [.ev (cz [7,8,9] (iE (bg 5)) (.tp [7,8,9]) (fF) (cB sizeLine (aa kT [.ev (aa qx [.ev (cz [10] (iE (bg 9)) (.nm 10) (fF) (cB sizeLine (aa aC [.pk 3,.pk 10])))]),.pk 2])))])) (bY (dC (.bool false))) (dD)) (ao (aB 6 (Ed [7,8,9] (iE (bg 5)) (.tp [7,8,9]) (aa cJ [.pk 7,.pk 8]) (bg 9))) (bY (nR (aJ AAU [false,false,false,false] [.pk 6,.ev (aa aC [.pk 0,.ev (dC (.int 0))]),.pk 2,.pk 4]) (aa jC [.ev (aa qx [.pk 3]),.ev (aa qx [.ev (cz [7] (iE (bg 4)) (.nm 7) (fF) (cB sizeLine (aa aC [.pk 7,.ev (dC (.int 2))])))])])))))))
def gW:DS:=ao (aB 2 (dC (.int 0))) (vO (cG (bN (aa kT [.pk 1,.ev (aa fB [.pk 0])])) (aB 2 (aa aC [.pk 0,.pk 1])) (cG (bN (aa oX [.pk 0,.ev (aa cE [])])) (aB 2 (aa cN [.ev (aa pT [.ev (aa aC [.pk 0,.ev (aa pT [.pk 1,.ev (aa fB [.pk 0])])]),.ev (dC (.int 1000003))]),.ev (aa dW [.ev (dC (.int 104729)),.pk 1])])) (dD))) (ao (cG (bN (aa NN [.pk 2,.ev (aa vp [.ev (dC (.int 10)),.ev (dC (.int 18))])])) (bY (aa cE [.pk 2])) (dD)) (ao (aB 3 (aa pT [.ev (aa DW [.ev (aa cN [.ev (aa cN [.ev (aa pT [.pk 2,.ev (aa cN [.ev (aa vp [.ev (dC (.int 10)),.ev (dC (.int 30))]),.ev (dC (.int 57))])]),.ev (aa dW [.ev (dC (.int 7919)),.pk 1])]),.ev (dC (.int 101))]),.ev (dC (.int 2))]),.ev (aa cN [.ev (aa vp [.ev (dC (.int 10)),.ev (dC (.int 30))]),.ev (dC (.int 57))])])) (bY (aa cE [.ev (aa pT [.ev (aa C9 [.ev (aa cN [.ev (aa cN [.pk 3,.ev (aa dW [.ev (dC (.int 977)),.pk 1])]),.ev (dC (.int 5))]),.ev (dC (.int 618033988749894848204586834365))]),.ev (aa cN [.ev (aa vp [.ev (dC (.int 10)),.ev (dC (.int 30))]),.ev (dC (.int 57))])])])))))
def iS:DS:=ao (aB 2 (aa pT [.ev (aa aC [.pk 0,.ev (dC (.int 0))]),.pk 1])) (ao (iH 0 (dC (.int 0)) (aa DG [.ev (aa aC [.pk 0,.ev (dC (.int 0))]),.pk 1])) (iM 2))
def g9 (AAN:bG):DS:=ao (aB 3 (aa cE [])) (ao (eK (jT Gi [.ev (dC (.int 1)),.pk 1]) (.nm 4) (ao (aB 5 (aJ AAN [true,false] [.pk 0,.pk 4])) (ao (cK (jR cS 3 [aa cJ [.ev (aa aC [.ev (aa cE [.ev (aa oz [.pk 4,.ev (dC (.int 1))]),.ev (aa oz [.pk 4,.ev (dC (.int 1))]),.ev (dC (.int 0)),.pk 5]),.ev (aa xQ [.pk 2,.ev (dC (.int 3))])]),.pk 4]])) (cG (bN (aa jC [.pk 2,.ev (dC (.int 3))])) (cK (jR mT 3 [cz [8] (jT lH [.pk 4]) (.nm 8) (fF) (cB sizeLine (aa cJ [.pk 8,.pk 4]))])) (dD))))) (vO (cG (bN (nR (aa jC [.pk 2,.ev (dC (.int 1))]) (aa wG [.pk 1,.ev (dC (.int 2))]))) (cK (jR cS 3 [aa cJ [.ev (dC (.int 0)),.ev (aa oz [.pk 1,.ev (dC (.int 1))])]])) (dD)) (vO (cG (bN (aa wG [.pk 2,.ev (dC (.int 4))])) (eK (jT lH [.ev (aJ AAN [true,false] [.pk 0,.ev (dC (.int 7))])]) (.nm 4) (ao (aB 6 (aJ AAN [true,false] [.pk 0,.pk 1])) (ao (aB 7 (aJ AAN [true,false] [.pk 0,.pk 1])) (cK (jR mT 3 [aa dW [.ev (aa cE [.ev (aa cJ [.pk 6,.pk 7])]),.ev (aa jy [.ev (aa oX [.pk 6,.pk 7])])]]))))) (dD)) (iM 3))))
def ic (AAN:bG):DS:=ao (aB 2 (aa cE [])) (ao (eK (jT lH [.pk 1]) (.nm 3) (cK (jR vo 2 [aJ AAN [true,false] [.pk 0,.ev (aa cN [.pk 3,.ev (dC (.int 1))])],bg 3]))) (iM 2))
def iL (AAN AAK AAJ:bG):DS:=ao (aB 3 (aa cN [.pk 1,.ev (aJ AAN [true,false] [.pk 0,.ev (aa oz [.ev (aa cN [.pk 2,.ev (dC (.int 1))]),.pk 1])])])) (ao (aB 4 (aa cE [])) (ao (aB 5 (aJ AAK [true,false,false] [.pk 0,.pk 3,.ev (aJ AAN [true,false] [.pk 0,.ev (dC (.int 9))])])) (ao (aB 6 (aJ AAJ [true,false] [.pk 0,.pk 3])) (ao (eK (iE (bg 5)) (.tp [7,8]) (ao (aB 9 (aa cJ [.ev (aa aC [.pk 6,.pk 7]),.ev (aa aC [.pk 6,.pk 8])])) (ao (aB 10 (aa cJ [.ev (aa qA [.pk 9]),.ev (aa qO [.pk 9])])) (cG (bN (aa (oH true) [.pk 10,.pk 4])) (cK (jR cS 4 [bg 10])) (dD))))) (bY (aa cJ [.pk 3,.ev (aa kB [.ev (aa pZ [.pk 4])])]))))))
def gY:DS:=ao (cG (bN (aa (Bf "int") [.pk 1])) (bY (aa aC [.pk 0,.pk 1])) (dD)) (ao (aB 2 (cz [3] (iE (bg 1)) (.nm 3) (fF) (cB sizeLine (aa aC [.pk 0,.pk 3])))) (bY (aa cJ [.ev (aa qD [.pk 2]),.ev (aa xR [.pk 2])])))
def gR (AAO:bG):DS:=ao (qv [3,4,5] (bg 2)) (ao (aB 6 (aa dW [.ev (aa cE [.ev (dC (.int 0))]),.ev (aa fB [.pk 4])])) (ao (eK (jT lH [.ev (aa fB [.pk 4])]) (.nm 7) (iH 6 (aa aC [.pk 0,.pk 7]) (aa aC [.pk 4,.pk 7]))) (ao (aB 8 (aa cE [])) (ao (eK (iE (bg 5)) (.tp [9,10,11]) (ao (aB 12 (aa cE [.ev (aJ AAO [false,false] [.pk 0,.pk 9]),.ev (aJ AAO [false,false] [.pk 0,.pk 10])])) (vO (cG (bN (aa wG [.ev (xO 1 (aa aC [.pk 12,.ev (dC (.int 0))])),.ev (xO 1 (aa aC [.pk 12,.ev (dC (.int 1))]))])) (cK (jR yz 12 [])) (dD)) (cK (jR cS 8 [aa cJ [.ev (aa aC [.pk 12,.ev (dC (.int 0))]),.ev (aa aC [.pk 12,.ev (dC (.int 1))]),.pk 11]]))))) (bY (aa cJ [.pk 3,.pk 6,.pk 8]))))))
def ia (AAY AAI AAa AAX:bG):DS:=ao (aB 4 (aJ AAY [false,false] [.pk 0,.pk 3])) (ao (aB 5 (aJ AAY [false,false] [.pk 1,.pk 3])) (ao (cG (bN (aa oX [.ev (aa dW [.ev (aa qx [.ev (aa aC [.pk 4,.ev (dC (.int 1))])]),.ev (aa aC [.pk 5,.ev (dC (.int 0))])]),.ev (aa dW [.ev (aa qx [.ev (aa aC [.pk 5,.ev (dC (.int 1))])]),.ev (aa aC [.pk 4,.ev (dC (.int 0))])])])) (bY (dC .none)) (dD)) (ao (qv [6,7,8] (aJ AAI [false,false,false] [.pk 2,.ev (aJ AAa [false,false] [.pk 1,.pk 3]),.pk 4])) (ao (cG (Lb (bN (aJ AAX [false,false,false,false,false] [.pk 1,.pk 3,.pk 6,.pk 7,.pk 8]))) (bY (dC .none)) (dD)) (bY (aa cJ [.ev (aa qx [.pk 7]),.pk 6]))))))
def mC (AAL AAP AAN AAJ AAO AAM:bG):DS:=ao (aB 1 (aJ AAL [false,false] [.pk 0,.ev (dC (.int 0))])) (ao (aB 2 (qa AAP [] (aJ AAL [false,false] [.pk 0,.ev (dC (.int 1))]) [.ev (dC (.int 1)),.ev (aa cN [.ev (dC (.int 6)),.ev (aa jy [.ev (aa jC [.ev (aJ AAN [true,false] [.pk 1,.ev (dC (.int 8))]),.ev (dC (.int 1))])])])] [.ev (dC (.int 1)),.ev (aa cN [.ev (dC (.int 6)),.ev (aa jy [.ev (aa jC [.ev (aJ AAN [true,false] [.pk 1,.ev (dC (.int 8))]),.ev (dC (.int 1))])])])])) (ao (aB 3 (qa AAJ [] (aJ AAL [false,false] [.pk 0,.ev (dC (.int 2))]) [.ev (aa aC [.pk 2,.ev (dC (.int 0))])] [.ev (aa aC [.pk 2,.ev (dC (.int 0))])])) (ao (aB 4 (aa pZ [.ev (cz [11] (iE (aa aC [.pk 2,.ev (dC (.int 1))])) (.nm 11) (fF) (cB sizeLine (aJ AAO [false,false] [.pk 3,.pk 11])))])) (ao (aB 5 (aa cJ [.ev (aa aC [.pk 2,.ev (dC (.int 0))]),.ev (aa kB [.pk 4])])) (ao (aB 6 (aJ AAM [false,false,false,false] [.pk 2,.pk 5,.pk 3,.ev (dC (.str "places"))])) (ao (aB 7 (aJ AAM [false,false,false,false] [.pk 2,.pk 5,.pk 3,.ev (dC (.str "ties"))])) (ao (cG (bN (oS (aa (dO false) [.pk 6,.ev (dC .none)]) (aa (dO false) [.pk 7,.ev (dC .none)]))) (bY (dC (.bool false))) (dD)) (ao (aB 8 (aJ AAM [false,false,false,false] [.pk 2,.pk 5,.pk 3,.ev (dC (.str "all"))])) (ao (cG (bN (aa (dO false) [.pk 8,.ev (dC .none)])) (bY (dC (.bool false))) (dD)) (ao (eK (iE (aa cE [.pk 6,.pk 7])) (.tp [9,10]) (cG (bN (aa kT [.ev (aa dW [.ev (aa aC [.pk 8,.ev (dC (.int 0))]),.pk 10]),.ev (aa dW [.pk 9,.ev (aa aC [.pk 8,.ev (dC (.int 1))])])])) (bY (dC (.bool false))) (dD))) (bY (dC (.bool true)))))))))))))
end PB
namespace Dv
open PySem L2
def yT (xs:Zy)(tg:Tg)(b:DS)(D:gQ)(E1:En):Prop:=∃I:Nat->En->Prop,I 0 E1/\(∀i d E,xs[i]?=some d->I i E->∃E2,cO tg d E=some E2/\b { D with nx:=I (i+1) } E2)/\∀E,I xs.length E->D.nx E
def Cg (cs:A05)(xs:Zy)(tg:Tg)(c:DT)(r:DC)(E1:En)(Q:En->Kd->PyData->Prop):Prop:=∃(E0:En)(I:Nat->Zy->En->Prop),br cs E1=some E0/\I 0 [] E0/\(∀i d ys E,xs[i]?=some d->I i ys E->∃E2,cO tg d E=some E2/\c xF E2 λE3 b=>if b=true then r xF ys E3 (I (i+1))else I (i+1) ys E3)/\∀ys E,I xs.length ys E->∃E2,br cs E=some E2/\Q E2 (.ow false) (.list ys)
def N1 (most:Nat)(cs:A05)(xs:Zy)(tg:Tg)(c:DT)(e:DE)(E1:En)(Q:En->Kd->PyData->Prop):Prop:=∃(E0:En)(I:Nat->Zy->En->Prop),br cs E1=some E0/\I 0 [] E0/\(∀i d ys E,xs[i]?=some d->I i ys E->∃E2,cO tg d E=some E2/\c xF E2 λE3 b=>if b=true then e xF E3 (λE4 k v=>(∃p,k=.ow p)/\ys.length<most/\I (i+1) (ys++[v]) E4)else I (i+1) ys E3)/\∀ys E,I xs.length ys E->∃E2,br cs E=some E2/\Q E2 (.dp false) (.list ys)
def Td (xs:Zy)(tg:Tg)(c:DT)(r:DC)(x:XC)(ys:Zy)(E1:En)(Q:Zy->En->Prop):Prop:=∃I:Nat->Zy->En->Prop,I 0 ys E1/\(∀i d ys E,xs[i]?=some d->I i ys E->∃E2,cO tg d E=some E2/\c x E2 λE3 b=>if b=true then r x ys E3 (I (i+1))else I (i+1) ys E3)/\∀ys E,I xs.length ys E->Q ys E
theorem dyr0:∀{it:DI}{tg:Tg}{b:DS}{D:gQ}{o:Option (Kd×PyData)}{E:En},eK it tg b D (o::E)=it D.xc (o::E) λE1 xs=>yT xs tg b D E1:=rfl
theorem dyr1:∀{cs:A05}{it:DI}{tg:Tg}{c:DT}{r:DC}{x:XC}{o:Option (Kd×PyData)}{E:En}{Q:En->Kd->PyData->Prop},cz cs it tg c r x (o::E) Q=it x (o::E) λE1 xs=>Cg cs xs tg c r E1 Q:=rfl
theorem dyr2:∀{most:Nat}{cs:A05}{it:DI}{tg:Tg}{c:DT}{e:DE}{x:XC}{o:Option (Kd×PyData)}{E:En}{Q:En->Kd->PyData->Prop},pW most cs it tg c e x (o::E) Q=it x (o::E) λE1 xs=>N1 most cs xs tg c e E1 Q:=rfl
theorem dyr3:∀{it:DI}{tg:Tg}{c:DT}{r:DC}{x:XC}{ys:Zy}{o:Option (Kd×PyData)}{E:En}{Q:Zy->En->Prop},Tt it tg c r x ys (o::E) Q=it x (o::E) λE1 xs=>Td xs tg c r x ys E1 Q:=rfl
def dy:
 (∀{it:DI}{tg:Tg}{b:DS}{D:gQ}{o:Option (Kd×PyData)}{E:En},eK it tg b D (o::E)=it D.xc (o::E) λE1 xs=>yT xs tg b D E1) /\
 (∀{cs:A05}{it:DI}{tg:Tg}{c:DT}{r:DC}{x:XC}{o:Option (Kd×PyData)}{E:En}{Q:En->Kd->PyData->Prop},cz cs it tg c r x (o::E) Q=it x (o::E) λE1 xs=>Cg cs xs tg c r E1 Q) /\
 (∀{most:Nat}{cs:A05}{it:DI}{tg:Tg}{c:DT}{e:DE}{x:XC}{o:Option (Kd×PyData)}{E:En}{Q:En->Kd->PyData->Prop},pW most cs it tg c e x (o::E) Q=it x (o::E) λE1 xs=>N1 most cs xs tg c e E1 Q) /\
 (∀{it:DI}{tg:Tg}{c:DT}{r:DC}{x:XC}{ys:Zy}{o:Option (Kd×PyData)}{E:En}{Q:Zy->En->Prop},Tt it tg c r x ys (o::E) Q=it x (o::E) λE1 xs=>Td xs tg c r x ys E1 Q):=⟨rfl,rfl,rfl,rfl⟩
theorem vD{i:Nat}{z:Option (Kd×PyData)}:∀{cs:A05}{E E0:En},i∉cs->br cs (E.set i none)=some E0->br cs (E.set i z)=some (E0.set i z)
 |[],E,E0,_,h=>by have h:E.set i none=E0:=Option.some.inj h;show some _=some _;rw[<-h,Z2]
 |c::cs,E,E0,n,h=>by
  have nc:i≠c:=λe=>n (e▸V3);have ns:i∉cs:=λm=>n (V8 _ m);have ho:∀y:Option (Kd×PyData),bL (E.set i y) c=bL E c:=λy=>by unfold bL;rw[Ws nc]
  unfold br at h⊢;rw[ho]at h⊢;split at h;{rename_i hc;rw[if_pos hc];rw[YS _ _ nc]at h⊢;exact vD ns h};cases h
theorem yr:∀{cs:A05}{ds:Zy}{E E' E0:En},cs.Nodup->br cs E=some E0->br cs E'=some E0->bw cs ds E=bw cs ds E'
 |[],ds,E,E',E0,_,h,h'=>by have h:E=E0:=Option.some.inj h;have h':E'=E0:=Option.some.inj h';rw[h,h']
 |c::cs,[],E,E',E0,_,h,h'=>rfl
 |c::cs,d::ds,E,E',E0,nd,h,h'=>by have n1:=(WB.mp nd).1;unfold br at h h';unfold bw;split at h;{rename_i hc;split at h';{rename_i hc';rw[if_pos hc,if_pos hc'];exact yr (WB.mp nd).2 (vD n1 h) (vD n1 h')};cases h'};cases h
def v8{cs:A05}{ds:Zy}{E E' E0:En}(nd:lu cs=true)(h:br cs E=some E0)(h':br cs E'=some E0):bw cs ds E=bw cs ds E':=yr (iw nd) h h'
def sL{tg:Tg}{cs:A05}{d:PyData}{E E' E0:En}(hs:tg.slots=cs)(nd:lu cs=true)(h:br cs E=some E0)(h':br cs E'=some E0):cO tg d E=cO tg d E':=by
 subst hs;cases tg with
 |nm i=>exact v8 nd h h'
 |tp is=>
  cases d with
  |tuple ds=>exact v8 nd h h'
  |_=>rfl
 |nt i is=>
  cases d with
  |tuple ds=>rcases ds with _|⟨a,_|⟨b,_|⟨c,r⟩⟩⟩;{rfl};{rfl};{cases b<;>first|exact v8 nd h h'|rfl};cases b<;>rfl
  |_=>rfl
theorem kh:∀{cs:A05}{E E0:En},cs.Nodup->br cs E=some E0->br cs E0=some E0/\∀c∈cs,E0[c]?=some none
 |[],E,E0,_,h=>⟨rfl,λ_ z=>by cases z⟩
 |c::cs,E,E0,nd,h=>by
  have n1:=(WB.mp nd).1;have n2:=(WB.mp nd).2;unfold br at h;split at h
  .rename_i hc;obtain⟨h1,h2⟩:=kh n2 h;have hlen:c<E.length:=by unfold bL at hc;rcases W4 c E.length with z|z;{exact z};rw[VZ z]at hc;cases hc
   have hcl:∀{cs:A05}{E E0:En},c∉cs->br cs E=some E0->E0[c]?=E[c]?:=by
    intro cs;induction cs with
    |nil=>intro E E0 _ h;cases h;rfl
    |cons a cs ih=>intro E E0 n h;unfold br at h;split at h;{rw[ih (λm=>n (V8 _ m)) h,Ws (λe=>n (by rw[e];exact V3))]};cases h
   have e0:E0[c]?=some none:=by rw[hcl n1 h,Xa hlen]
   refine⟨?_,λx hx=>?_⟩
   .unfold br;rw[if_pos (by unfold bL;rw[e0])];have:E0.set c none=E0:=by
     refine W8 λj=>?_;by_cases e:c=j
     .subst e;have:c<E0.length:=by rcases W4 c E0.length with z|z;{exact z};rw[VZ z]at e0;cases e0
      rw[Xa this,e0]
     rw[Ws e]
    rw[this];exact h1
   cases hx with
   |head=>exact e0
   |tail _ m=>exact h2 x m
  cases h
def aZ{α:Type}{l:List α}{i:Nat}{a:α}(ha:l[i]?=some a):i<l.length:=by rcases W4 i l.length with z|z;{exact z};rw[VZ z]at ha;cases ha
def take_snoc{α:Type}{l:List α}{i:Nat}{a:α}(ha:l[i]?=some a):l.take (i+1)=l.take i++[a]:=by rw[List.take_add_one,ha];rfl
def PY{α:Type}{l:List α}{enc:α->PyData}{cs:A05}{tg:Tg}{e:DE}{most:Nat}{E1 E0:En}{Q:En->Kd->PyData->Prop}(g:α->PyData)(h0:br cs E1=some E0)(h2:∀a,a∈l->∀I:En->PyData->Prop,(∀E4,br cs E4=some E0->I E4 (g a))->∃E2,cO tg (enc a) E0=some E2/\e xF E2 (λE4 k v=>(∃p,k=.ow p)/\I E4 v))(h3:Q E0 (.dp false) (.list (l.map g)))(hl:l.length<=most)(hs:tg.slots=cs:=by rfl)(nd:lu cs=true:=by rfl):N1 most cs (l.map enc) tg fF e E1 Q:=by
 obtain⟨hc0,_⟩:=kh (iw nd) h0;refine⟨E0,λi ys E=>ys=(l.take i).map g/\br cs E=some E0,h0,⟨rfl,hc0⟩,?_,?_⟩
 .rintro i d ys E hd⟨rfl,hE⟩;rw[VA]at hd;obtain⟨a,ha,rfl⟩:=X5.mp hd;have hi:=aZ ha;obtain⟨E2,hE2,hb⟩:=h2 a (VV ha) (λE4 v=>((l.take i).map g).length<most/\((l.take i).map g++[v]=(l.take (i+1)).map g/\br cs E4=some E0)) (λE4 hE4=>by
   refine⟨?_,?_,hE4⟩
   .rw[V2,WI];lia
   .rw[take_snoc ha,VJ];rfl)
  exact⟨E2,(sL hs nd hE hc0).trans hE2,hb⟩
 rintro ys E⟨rfl,hE⟩;rw[V2,Wd];exact⟨E0,hE,h3⟩
def uR{α:Type}{l:List α}{enc:α->PyData}{tg:Tg}{b:DS}{D:gQ}{E1:En}(I:Nat->En->Prop)(h0:I 0 E1)(hs:∀i a E,l[i]?=some a->I i E->∃E2,cO tg (enc a) E=some E2/\b { D with nx:=I (i+1) } E2)(he:∀E,I l.length E->D.nx E):yT (l.map enc) tg b D E1:=by refine⟨I,h0,λi d E hd hi=>?_,by rw[V2];exact he⟩;rw[VA]at hd;obtain⟨a,ha,rfl⟩:=X5.mp hd;exact hs i a E ha hi
def Hv{n i k:Nat}(h:(List.range n)[i]?=some k):i<n/\k=i:=by have hi:=aZ h;rw[V9]at hi;rw[VN hi]at h;cases h;exact⟨hi,rfl⟩
def OJ{n:Nat}{enc:Nat->PyData}{tg:Tg}{b:DS}{D:gQ}{E1:En}(I:Nat->En->Prop)(h0:I 0 E1)(hs:∀i E,i<n->I i E->∃E2,cO tg (enc i) E=some E2/\b { D with nx:=I (i+1) } E2)(he:∀E,I n E->D.nx E):yT ((List.range n).map enc) tg b D E1:=
 uR I h0 (λi a E ha hi=>by obtain⟨l,rfl⟩:=Hv ha;exact hs a E l hi) (by rw[V9];exact he)
def LQ{α:Type}{l:List α}{enc:α->PyData}{cs:A05}{tg:Tg}{e:DE}{most:Nat}{E1 E0:En}{Q:En->Kd->PyData->Prop}(S:En->Prop)(g:α->PyData)(h0:br cs E1=some E0)(hS:S E0)(h2:∀a,a∈l->∀E0',S E0'->∀I:En->PyData->Prop,(∀E4 E5,br cs E4=some E5->S E5->I E4 (g a))->∃E2,cO tg (enc a) E0'=some E2/\e xF E2 (λE4 k v=>k.fz=true/\I E4 v))(h3:∀E0',S E0'->Q E0' (.ow false) (.list (l.map g)))(hl:l.length<=most)(hs:tg.slots=cs:=by rfl)(nd:lu cs=true:=by rfl):Cg cs (l.map enc) tg fF (cB most e) E1 Q:=by
 obtain⟨hc0,_⟩:=kh (iw nd) h0;refine⟨E0,λi ys E=>ys=(l.take i).map g/\∃E5,br cs E=some E5/\S E5,h0,⟨rfl,E0,hc0,hS⟩,?_,?_⟩
 .rintro i d ys E hd⟨rfl,E5,hE,hS5⟩;rw[VA]at hd;obtain⟨a,ha,rfl⟩:=X5.mp hd;have hi:=aZ ha;obtain⟨hc5,_⟩:=kh (iw nd) hE;obtain⟨E2,hE2,hb⟩:=h2 a (VV ha) E5 hS5 (λE4 v=>((l.take i).map g).length<most/\((l.take i).map g++[v]=(l.take (i+1)).map g/\∃E5,br cs E4=some E5/\S E5)) (λE4 E6 hE4 hS6=>by
   refine⟨?_,?_,E6,hE4,hS6⟩
   .rw[V2,WI];lia
   .rw[take_snoc ha,VJ];rfl)
  exact⟨E2,(sL hs nd hE hc5).trans hE2,hb⟩
 rintro ys E⟨rfl,E5,hE,hS5⟩;rw[V2,Wd];exact⟨E5,hE,h3 E5 hS5⟩
def ME{α:Type}{l:List α}{enc:α->PyData}{cs:A05}{tg:Tg}{c:DT}{e:DE}{most:Nat}{E1 E0:En}{Q:En->Kd->PyData->Prop}(S:En->Prop)(g:α->Option PyData)(h0:br cs E1=some E0)(hS:S E0)(h2:∀a,a∈l->∀E0',S E0'->∀I:En->Option PyData->Prop,(∀E4 E5,br cs E4=some E5->S E5->I E4 (g a))->∃E2,cO tg (enc a) E0'=some E2/\c xF E2 λE3 b=>if b=true then e xF E3 (λE4 k v=>k.fz=true/\I E4 (some v))else I E3 none)(h3:∀E0',S E0'->Q E0' (.ow false) (.list (l.filterMap g)))(hl:l.length<=most)(hs:tg.slots=cs:=by rfl)(nd:lu cs=true:=by rfl):Cg cs (l.map enc) tg c (cB most e) E1 Q:=by
 obtain⟨hc0,_⟩:=kh (iw nd) h0;refine⟨E0,λi ys E=>ys=(l.take i).filterMap g/\∃E5,br cs E=some E5/\S E5,h0,⟨rfl,E0,hc0,hS⟩,?_,?_⟩
 .rintro i d ys E hd⟨rfl,E5,hE,hS5⟩;rw[VA]at hd;obtain⟨a,ha,rfl⟩:=X5.mp hd;have hi:=aZ ha;obtain⟨hc5,_⟩:=kh (iw nd) hE;have hlen:((l.take i).filterMap g).length<most:=by have:=List.length_filterMap_le g (l.take i);rw[WI]at this;lia
  obtain⟨E2,hE2,hb⟩:=h2 a (VV ha) E5 hS5 (λE4 o=>match o with
   |some v=>((l.take i).filterMap g).length<most/\((l.take i).filterMap g++[v]=(l.take (i+1)).filterMap g/\∃E5,br cs E4=some E5/\S E5)
   |none=>(l.take i).filterMap g=(l.take (i+1)).filterMap g/\∃E5,br cs E4=some E5/\S E5) (λE4 E6 hE4 hS6=>by
   cases hg:g a with
   |none=>
    refine⟨?_,E6,hE4,hS6⟩;rw[take_snoc ha,YH,WR,hg];exact(WO _).symm
   |some v=>
    refine⟨hlen,?_,E6,hE4,hS6⟩;rw[take_snoc ha,YH,WR,hg];rfl)
  exact⟨E2,(sL hs nd hE hc5).trans hE2,hb⟩
 rintro ys E⟨rfl,E5,hE,hS5⟩;rw[V2,Wd];exact⟨E5,hE,h3 E5 hS5⟩
def eX{α:Type}{l:List α}{enc:α->PyData}{cs:A05}{tg:Tg}{e:DE}{most:Nat}{E1 E0:En}{Q:En->Kd->PyData->Prop}(g:α->PyData)(h0:br cs E1=some E0)(h2:∀a,a∈l->∀I:En->PyData->Prop,(∀E4,br cs E4=some E0->I E4 (g a))->∃E2,cO tg (enc a) E0=some E2/\e xF E2 (λE4 k v=>k.fz=true/\I E4 v))(h3:Q E0 (.ow false) (.list (l.map g)))(hl:l.length<=most)(hs:tg.slots=cs:=by rfl)(nd:lu cs=true:=by rfl):Cg cs (l.map enc) tg fF (cB most e) E1 Q:=
 LQ (·=E0) g h0 rfl (λa ha E0' e I hI=>by subst e;exact h2 a ha I λE4 h=>hI E4 _ h rfl) (λE0' e=>by subst e;exact h3) hl hs nd
def tZ{α:Type}{l:List α}{enc:α->PyData}{cs:A05}{tg:Tg}{c:DT}{e:DE}{most:Nat}{E1 E0:En}{Q:En->Kd->PyData->Prop}(g:α->Option PyData)(h0:br cs E1=some E0)(h2:∀a,a∈l->∀I:En->Option PyData->Prop,(∀E4,br cs E4=some E0->I E4 (g a))->∃E2,cO tg (enc a) E0=some E2/\c xF E2 λE3 b=>if b=true then e xF E3 (λE4 k v=>k.fz=true/\I E4 (some v))else I E3 none)(h3:Q E0 (.ow false) (.list (l.filterMap g)))(hl:l.length<=most)(hs:tg.slots=cs:=by rfl)(nd:lu cs=true:=by rfl):Cg cs (l.map enc) tg c (cB most e) E1 Q:=
 ME (·=E0) g h0 rfl (λa ha E0' e I hI=>by subst e;exact h2 a ha I λE4 h=>hI E4 _ h rfl) (λE0' e=>by subst e;exact h3) hl hs nd
abbrev iD (n:Nat):PyData:=.int (n:Int)
abbrev nD (l:A05):PyData:=.list (l.map iD)
abbrev dG (e:Nat×Nat):PyData:=.tuple [iD e.1,iD e.2]
abbrev wD (m:Nat)(es:Zt):PyData:=.tuple [iD m,.tuple (es.map dG)]
def Pr{n:Nat}:jU 0 n=(List.range n).map iD:=by unfold jU;refine Vx λi _=>?_;rw[Int.zero_add]
def QX{n:Nat}:jU 1 n=(List.range n).map λi=>iD (i+1):=by unfold jU;refine Vx λi _=>?_;show PyData.int _=PyData.int _;congr 1;lia
def GY{xs:Zy}{i:Nat}:dS xs (i:Int)=xs[i]?:=by unfold dS lQ;rw[if_pos (by lia)];split;{exact rfl};rw[VZ (by lia)];rfl
def Hj{n i:Nat}(h:i<n):kZ n (i:Int)=some i:=by unfold kZ;rw[if_pos (by lia),if_pos (by lia)];rfl
def qI{n i:Nat}{Q:Nat->Prop}(h:i<n)(q:Q i):aA (kZ n (i:Int)) Q:=by rw[Hj h];exact q
def zN{α β:Type}{o:Option α}{f:α->β}{Q:β->Prop}:aA (o.map f) Q=aA o λa=>Q (f a):=by cases o<;>rfl
def uP{α:Type}{l:List α}{f:α->PyData}{i:Nat}{Q:PyData->Prop}:aA (dS (l.map f) (i:Int)) Q=aA l[i]? λa=>Q (f a):=by rw[GY,VA,zN]
def yU{α:Type}{l:List α}{f:α->PyData}{a:Nat}:cutD (l.map f) (some (a:Int)) none=(l.drop a).map f:=by unfold cutD;have e1:HT.aK (l.map f).length 0 (some (a:Int))=min a (l.map f).length:=HT.mY _ _ a;have e2:HT.aK (l.map f).length (l.map f).length none=(l.map f).length:=rfl;rw[e1,e2,V2,<-List.map_drop,<-Xy];congr 1;rw[Xx (by rw[Wk];lia)];rcases Xz a l.length with h|h;{rw[XY h]};rw[Y0 h,List.drop_length,List.drop_of_length_le h]
def HL{α:Type}{l:List α}{f:α->PyData}{b:Nat}:cutD (l.map f) none (some (b:Int))=(l.take b).map f:=by unfold cutD;have e1:HT.aK (l.map f).length (l.map f).length (some (b:Int))=min b (l.map f).length:=HT.mY _ _ b;have e2:HT.aK (l.map f).length 0 none=0:=rfl;rw[e1,e2,V2,Yr,YM,<-Xy];congr 1;rcases Xz b l.length with h|h;{rw[XY h]};rw[Y0 h,Wd,Xx h]
def G3{α:Type}{l:List α}{f:α->PyData}{a b:Nat}:cutD (l.map f) (some (a:Int)) (some (b:Int))=((l.take b).drop a).map f:=by unfold cutD;have e1:HT.aK (l.map f).length 0 (some (a:Int))=min a (l.map f).length:=HT.mY _ _ a;have e2:HT.aK (l.map f).length (l.map f).length (some (b:Int))=min b (l.map f).length:=HT.mY _ _ b;rw[e1,e2,V2,<-List.map_drop,<-Xy];congr 1;rw[List.drop_take];rcases Xz a l.length with h|h;{rw[XY h];rcases Xz b l.length with g|g;{rw[XY g]};rw[Y0 g,Xx (by rw[Wk];lia),Xx (by rw[Wk];lia)]};rw[Y0 h,List.drop_length,List.drop_of_length_le h,List.take_nil,List.take_nil]
def sA{α:Type}{l:List α}{f:α->PyData}:jk (l.map f)=l.zipIdx.map λp=>.tuple [iD p.2,f p.1]:=by unfold jk;rw[List.zipIdx_map,V7];rfl
theorem zip_map{α β:Type}{l:List α}{m:List β}{f:α->PyData}{g:β->PyData}:((l.map f).zip (m.map g)).map (λp=>PyData.tuple [p.1,p.2])=(l.zip m).map λp=>.tuple [f p.1,g p.2]:=by rw[List.zip_map,V7];rfl
def AX{α:Type}{l:List α}{f:α->PyData}{Q:PyData->Prop}:aA (dS (l.map f) 0) Q=aA l[0]? λa=>Q (f a):=uP (i:=0)
def Bo{α:Type}{l:List α}{f:α->PyData}{Q:PyData->Prop}:aA (dS (l.map f) 1) Q=aA l[1]? λa=>Q (f a):=uP (i:=1)
def aG{α:Type}{o:Option α}{a:α}{Q:α->Prop}(h:o=some a)(q:Q a):aA o Q:=by rw[h];exact q
def yF{a b:Nat}:(a:Int)%(b:Int)=((a%b:Nat):Int):=(Int.natCast_emod a b).symm
def yK{a b:Nat}:(a:Int)/(b:Int)=((a/b:Nat):Int):=(Int.natCast_ediv a b).symm
def CF{a b:Nat}:((a:Int)<(b:Int))=(a<b):=propext Y9
def A9{a b:Nat}:((a:Int)<=(b:Int))=(a<=b):=propext Int.ofNat_le
def cast_eq{a b:Nat}:((a:Int)=(b:Int))=(a=b):=propext Int.ofNat_inj
def cast_pos{a:Nat}:((0:Int)<(a:Int))=(0<a):=propext Int.natCast_pos
def Kh{a b:Nat}:(if b<a then(b:Int)else(a:Int))=((min a b:Nat):Int):=by split<;>lia
def KC{a b:Nat}:(if a<b then(b:Int)else(a:Int))=((max a b:Nat):Int):=by split<;>lia
def KU{a b:Nat}:(if b>a then(b:Int)else(a:Int))=((max a b:Nat):Int):=by split<;>lia
def tB{ds:Zy}:lf (.tuple ds)=ds.all lf:=vV ds
def Bb{p:Bool}{ds:Zy}:flat (.ow p) (.list ds)=ds.all lf:=rfl
def sC{α β:Type}{l:List α}{f:α->β}{p:β->Bool}:(l.map f).all p=l.all λa=>p (f a):=by rw[List.all_map];rfl
def Hg{α:Type}{l:List α}:(l.all λ_=>true)=true:=by rw[VW];exact λ_ _=>rfl
def Df{n:Nat}:lf (iD n)=true:=rfl
def yQ{e:Nat×Nat}:lf (dG e)=true:=rfl
def Lj{m:Nat}{es:Zt}:lf (wD m es)=true:=by rw[tB];show(lf (iD m)&&(lf (.tuple (es.map dG))&&true))=true;rw[tB,sC];simp[Df,yQ]
def SO:type_of%@tB/\type_of%@Bb/\type_of%@sC/\type_of%@Hg/\type_of%@Df/\type_of%@yQ/\type_of%@Lj/\(decide True=true)/\(∀{ds:Zy},lf (.list ds)=false)/\(∀{α:Type}{l m:List α}{p:α->Bool},(l++m).all p=(l.all p&&m.all p)):=⟨@tB,@Bb,@sC,@Hg,@Df,@yQ,@Lj,rfl,rfl,(by intros;exact List.all_append)⟩
def dz:(type_of%SO)/\type_of%@Pr/\type_of%@QX/\type_of%@uP/\type_of%@AX/\type_of%@Bo/\type_of%@zN/\type_of%@yU/\type_of%@HL/\type_of%@G3/\type_of%@sA/\type_of%@zip_map/\type_of%@yF/\type_of%@yK/\type_of%@CF/\type_of%@A9/\type_of%@cast_eq/\type_of%@cast_pos/\type_of%@aX/\type_of%@Kh/\type_of%@KC/\type_of%@KU /\
 (∀{α β:Type}{f:α->β}{l:List α},(l.map f).length=l.length)/\(∀{n:Nat},(List.range n).length=n)/\(∀{n:Nat},(n:Int).toNat=n):=
 ⟨SO,@Pr,@QX,@uP,@AX,@Bo,@zN,@yU,@HL,@G3,@sA,@zip_map,@yF,@yK,@CF,@A9,@cast_eq,@cast_pos,@aX,@Kh,@KC,@KU,(by intros;exact V2 ..),(by intros;exact V9),(by intros;exact Yg _)⟩
def AE{α β:Type}(f:α->β){l:List α}:∀{m:List β},m.Perm (l.map f)->∃l':List α,l'.Perm l/\m=l'.map f:=by
 have:∀{a b:List β},a.Perm b->∀l:List α,b=l.map f->∃l':List α,l'.Perm l/\a=l'.map f:=by
  intro a b h;induction h with
  |nil=>intro l e;exact⟨l,.refl _,e⟩
  |cons x _ ih=>
   intro l e;cases l with
   |nil=>cases e
   |cons y l=>rw[VP,Y3]at e;obtain⟨l',p,e'⟩:=ih l e.2;exact⟨y::l',p.cons _,by rw[e.1,e',VP]⟩
  |swap x y z=>
   intro l e
   match l,e with
   |[],e=>cases e
   |[_],e=>rw[VP,Y3]at e;cases e.2
   |u::v::l,e=>rw[VP,VP,Y3,Y3]at e;exact⟨v::u::l,List.Perm.swap _ _ _,by rw[VP,VP,e.1,e.2.1,e.2.2]⟩
  |trans _ _ ih1 ih2=>intro l e;obtain⟨l1,p1,e1⟩:=ih2 l e;obtain⟨l2,p2,e2⟩:=ih1 l1 e1;exact⟨l2,p2.trans p1,e2⟩
 intro m h;exact this h l rfl
def Cq{ps:Zt}{P:Kd->PyData->Prop}(h:ps.length<=63)(q:∀qs:Zt,qs.Perm ps->P (.ow false) (.list (qs.map dG))):pZ [.list (ps.map dG)] P:=by refine⟨ps.map (λe:Nat×Nat=>((e.1:Int),(e.2:Int))),by rw[V7];rfl,by rw[V2];exact h,λms p=>?_⟩;obtain⟨l,hl,rfl⟩:=AE _ p;have:=q l hl;rw[V7];exact this
def Q3{a b:Nat}:iD a=iD b↔a=b:=⟨λh=>by cases h;rfl,λh=>by rw[h]⟩
def MU{a b:Nat×Nat}:dG a=dG b↔a=b:=by refine⟨λh=>?_,λh=>by rw[h]⟩;rw[PyData.tuple.injEq,Y3,Y3,PyData.int.injEq,PyData.int.injEq]at h;exact WD (by have:=h.1;lia) (by have:=h.2.1;lia)
end Dv
namespace Gr
inductive R(E:Nat->Nat->Prop) (p:Nat):Nat->Nat->Prop
 |zero:R E p 0 p
 |step {d x y:Nat}:R E p d x->E x y->R E p (d+1) y
def uD (E:Nat->Nat->Prop) (p x d:Nat):Prop:=R E p d x/\∀e,e<d->¬R E p e x
section
variable{E:Nat->Nat->Prop}{p:Nat}
def uD.eq{x d e:Nat}(h:uD E p x d)(g:uD E p x e):d=e:=by rcases Xh d e with l|l|l;{exact absurd h.1 (g.2 d l)};{exact l};exact absurd g.1 (h.2 e l)
theorem GL:∀(n:Nat){x d:Nat},d<=n->R E p d x->∃e,e<=d/\uD E p x e
 |0,x,d,l,h=>by
  obtain rfl:d=0:=by lia
  exact⟨0,V4 _,h,λe he=>absurd he (WX e)⟩
 |n+1,x,d,l,h=>by by_cases c:∃e,e<d/\R E p e x;{obtain⟨e,he,hr⟩:=c;obtain⟨e',h1,h2⟩:=GL n (show e<=n by lia) hr;exact⟨e',by lia,h2⟩};exact⟨d,V4 _,h,λe he hr=>c ⟨e,he,hr⟩⟩
open Classical in
def dst (E:Nat->Nat->Prop) (p x:Nat):Nat:=if h:∃d,uD E p x d then Classical.choose h else 0
def tR{x d:Nat}(h:uD E p x d):dst E p x=d:=by have h':∃d,uD E p x d:=⟨d,h⟩;unfold dst;rw[dif_pos h'];exact(Classical.choose_spec h').eq h
def Gs{x d:Nat}(h:R E p d x):uD E p x (dst E p x):=by obtain⟨e,_,g⟩:=GL d (V4 _) h;rw[tR g];exact g
def R.trans{q:Nat}{d e x:Nat}(h:R E p d q)(g:R E q e x):R E p (d+e) x:=by
 induction g with
 |zero=>exact h
 |step _ s ih=>exact ih.step s
def R.head{q d x:Nat}(h:E p q)(g:R E q d x):R E p (1+d) x:=R.trans (R.step .zero h) g
def R.symm(sy:∀x y,E x y->E y x){d x:Nat}(h:R E p d x):R E x d p:=by
 induction h with
 |zero=>exact .zero
 |step _ s ih=>have:=R.head (sy _ _ s) ih;rwa[Nat.add_comm]at this
structure nq(E:Nat->Nat->Prop) (p r:Nat)(f:Nat->Option Nat)(eZ:A05):Prop where
 sound:∀x d,f x=some d->uD E p x d
 upto:∀x d,d<=r->R E p d x->∃e,f x=some e
 low:∀x d,f x=some d->d<=r
 eZ:∀x,x∈eZ↔f x=some r
structure gn(E:Nat->Nat->Prop) (r:Nat)(f:Nat->Option Nat)(eZ:A05)(g:Nat->Option Nat)(reached:A05):Prop where
 ext:∀x d,f x=some d->g x=some d
 new:∀x d,g x=some d->f x=some d\/(f x=none/\d=r+1/\∃h,h∈eZ/\E h x)
 got:∀x,x∈reached↔(f x=none/\g x=some (r+1))
def nq.start:nq E p 0 (λx=>if x=p then some 0 else none) [p]:=by
 refine⟨λx d h=>?_,λx d l h=>?_,λx d h=>?_,λx=>?_⟩;{by_cases c:x=p;{rw[if_pos c]at h;cases h;rw[c];exact⟨.zero,λe he=>absurd he (WX e)⟩};rw[if_neg c]at h;cases h}
 .obtain rfl:d=0:=by lia
  cases h;exact⟨0,if_pos rfl⟩
 .by_cases c:x=p;{rw[if_pos c]at h;cases h;exact V4 _};rw[if_neg c]at h;cases h
 rw[V6];constructor;{intro e;exact if_pos e};intro h;by_cases c:x=p;{exact c};rw[if_neg c]at h;cases h
def gn.start{r:Nat}{f:Nat->Option Nat}:gn E r f eZ f []:=by refine⟨λx d h=>h,λx d h=>.inl h,λx=>?_⟩;constructor;{intro h;cases h};rintro⟨h1,h2⟩;rw[h1]at h2;cases h2
def gn.put{r:Nat}{f g:Nat->Option Nat}{h y:Nat}(B:gn E r f eZ g reached)(he:h∈eZ)(hy:E h y)(n:g y=none):gn E r f eZ (λx=>if x=y then some (r+1)else g x) (reached++[y]):=by
 have fy:f y=none:=by
  cases e:f y with
  |none=>rfl
  |some d=>rw[B.ext y d e]at n;cases n
 refine⟨λx d e=>?_,λx d e=>?_,λx=>?_⟩;{by_cases c:x=y;{rw[c,fy]at e;cases e};show(if x=y then _ else _)=_;rw[if_neg c];exact B.ext x d e};{by_cases c:x=y;{rw[if_pos c]at e;cases e;rw[c];exact .inr ⟨fy,rfl,h,he,hy⟩};rw[if_neg c]at e;exact B.new x d e};rw[VU,V6,B.got x];constructor;{rintro (⟨h1,h2⟩|rfl);{refine⟨h1,?_⟩;by_cases c:x=y;{exact if_pos c};show(if x=y then _ else _)=_;rw[if_neg c];exact h2};exact⟨fy,if_pos rfl⟩};rintro⟨h1,h2⟩;by_cases c:x=y;{exact .inr c};rw[if_neg c]at h2;exact .inl ⟨h1,h2⟩
theorem gn.none{r:Nat}{f g:Nat->Option Nat}(B:gn E r f eZ g reached){x:Nat}(h:g x=.none):f x=.none:=by
 cases e:f x with
 |none=>rfl
 |some d=>rw[B.ext x d e]at h;cases h
def gn.at{r:Nat}{f g:Nat->Option Nat}(B:gn E r f eZ g reached)(A:nq E p r f eZ){h:Nat}(he:h∈eZ):g h=some r:=B.ext h r ((A.eZ h).mp he)
def nq.next{r:Nat}{f g:Nat->Option Nat}{eZ reached:A05}(A:nq E p r f eZ)(B:gn E r f eZ g reached)(all:∀h,h∈eZ->∀x,E h x->g x≠none):nq E p (r+1) g reached:=by
 refine⟨λx d e=>?_,λx d l h=>?_,λx d e=>?_,λx=>?_⟩;{rcases B.new x d e with h|⟨h1,rfl,h,he,hx⟩;{exact A.sound x d h};have rh:=(A.sound h r ((A.eZ h).mp he)).1;refine⟨rh.step hx,λe he hr=>?_⟩;obtain⟨d,hd⟩:=A.upto x e (by lia) hr;rw[h1]at hd;cases hd}
 .by_cases c:d<=r;{obtain⟨e,he⟩:=A.upto x d c h;exact⟨e,B.ext x e he⟩};obtain rfl:d=r+1:=by lia
  cases h with
  |@step _ y _ hy hyx=>
   obtain⟨e,he⟩:=A.upto y r (V4 _) hy;have el:=A.low y e he;by_cases ce:e=r
   .have:=all y ((A.eZ y).mpr (ce▸he)) x hyx;cases e':g x with
    |none=>exact absurd e' this
    |some d=>exact⟨d,rfl⟩
   obtain⟨e',he'⟩:=A.upto x (e+1) (by lia) ((A.sound y e he).1.step hyx);exact⟨e',B.ext x e' he'⟩
 .rcases B.new x d e with h|⟨_,rfl,_⟩;{have:=A.low x d h;lia};exact V4 _
 rw[B.got x];constructor;{exact λh=>h.2};intro h;refine⟨?_,h⟩;rcases B.new x (r+1) h with h'|⟨h',_⟩;{have:=A.low x _ h';lia};exact h'
def nq.done{r:Nat}{f:Nat->Option Nat}(A:nq E p r f []):∀{d x:Nat},R E p d x->∃e,f x=some e:=by
 intro d x h;induction h with
 |zero=>exact A.upto p 0 (W3 _) .zero
 |@step d x y _ hxy ih=>
  obtain⟨e,he⟩:=ih;have el:=A.low x e he;have ne:e≠r:=λc=>by have:=(A.eZ x).mpr (c▸he);cases this
  exact A.upto y (e+1) (by lia) ((A.sound x e he).1.step hxy)
def nq.val{r:Nat}{f:Nat->Option Nat}(A:nq E p r f []){x d:Nat}(h:R E p d x):f x=some (dst E p x):=by obtain⟨e,he⟩:=A.done h;rw[he,tR (A.sound x e he)]
end
def cnt (f:Nat->Option Nat):Nat->Nat
 |0=>0
 |m+1=>cnt f m+(if f m=none then 1 else 0)
theorem Au{f g:Nat->Option Nat}(h:∀x,g x=none->f x=none):∀m,cnt g m<=cnt f m
 |0=>V4 _
 |m+1=>by have:=Au h m;unfold cnt;by_cases c:g m=none;{rw[if_pos c,if_pos (h m c)];lia};rw[if_neg c];lia
theorem Gp{f g:Nat->Option Nat}(h:∀x,g x=none->f x=none){y:Nat}(fy:f y=none)(gy:g y≠none):∀m,y<m->cnt g m<cnt f m
 |0,l=>absurd l (WX _)
 |m+1,l=>by unfold cnt;by_cases c:y=m;{have:=Au h m;rw[<-c,if_neg gy,if_pos fy,c];lia};have:=Gp h fy gy m (by lia);by_cases c:g m=none;{rw[if_pos c,if_pos (h m c)];lia};rw[if_neg c];lia
def cT (es:Zt) (x y:Nat):Prop:=(x,y)∈es\/(y,x)∈es
def kD(x y:Nat)(h:cT es x y):cT es y x:=h.elim .inr .inl
def ff (m:Nat)(es:Zt):Prop:=∀p,p<m->∀x,x<m->∃d,R (cT es) p d x
def LV{m:Nat}(h:∀k,0<k->k<m->∃p,p<k/\(p,k)∈es):ff m es:=by
 have z:∀n x,x<n->x<m->∃d,R (cT es) x d 0:=by
  intro n;induction n with
  |zero=>exact λx h _=>absurd h (WX _)
  |succ n ih=>intro x hx hm;by_cases c:x=0;{rw[c];exact⟨0,.zero⟩};obtain⟨q,hq,he⟩:=h x (by lia) hm;obtain⟨d,hd⟩:=ih q (by lia) (by lia);exact⟨1+d,R.head (.inr he) hd⟩
 intro p hp x hx;obtain⟨d,hd⟩:=z (p+1) p (by lia) hp;obtain⟨e,he⟩:=z (x+1) x (by lia) hx;exact⟨d+e,hd.trans (he.symm kD)⟩
def zE{m:Nat}{nm:Nat->Nat}(h:ff m es)(onto:∀x,x<m->∃a,a<m/\nm a=x)(e:∀a b,(a,b)∈es->cT fs (nm a) (nm b)):ff m fs:=by
 intro p hp x hx;obtain⟨a,ha,rfl⟩:=onto p hp;obtain⟨b,hb,rfl⟩:=onto x hx;obtain⟨d,hd⟩:=h a ha b hb;have go:∀{d b:Nat},R (cT es) a d b->R (cT fs) (nm a) d (nm b):=by
  intro d b hd;induction hd with
  |zero=>exact .zero
  |step _ s ih=>refine R.step ih ?_;rcases s with s|s;{exact e _ _ s};exact kD _ _ (e _ _ s)
 exact⟨d,go hd⟩
theorem lJ:∀(m:Nat)(l:A05),l.Nodup->(∀x∈l,x<m)->l.length<=m
 |0,[],_,_=>V4 _
 |0,x::_,_,h=>absurd (h x (V3 ..)) (WX _)
 |m+1,l,nd,h=>by
  have h1:(l.erase m).length<=m:=lJ m (l.erase m) (nd.sublist (List.erase_sublist ..)) λx hx=>by have:=(nd.mem_erase_iff.mp hx);have:=h x this.2;lia
  have h2:l.length<=(l.erase m).length+1:=by rw[List.length_erase];split<;>lia
  lia
def nb (x:Nat)(e:Nat×Nat):Option Nat:=if e.1=x then some e.2 else if e.2=x then some e.1 else none
def gO (es:Zt) (x:Nat):A05:=es.filterMap (nb x)
def vJ{x y:Nat}(h:nb x e=some y):e=(x,y)\/e=(y,x):=by obtain⟨a,b⟩:=e;unfold nb at h;by_cases c:a=x;{rw[if_pos c]at h;cases h;rw[c];exact .inl rfl};rw[if_neg c]at h;by_cases c2:b=x;{rw[if_pos c2]at h;cases h;rw[c2];exact .inr rfl};rw[if_neg c2]at h;cases h
def vj{x y:Nat}:y∈gO es x↔cT es x y:=by unfold gO;rw[YZ];constructor;{rintro⟨e,he,h⟩;rcases vJ h with rfl|rfl;{exact .inl he};exact .inr he};rintro (h|h);{exact⟨_,h,if_pos rfl⟩};refine⟨_,h,?_⟩;show(if y=x then some x else if x=x then some y else none)=some y;by_cases c:y=x;{rw[if_pos c,c]};rw[if_neg c,if_pos rfl]
def Mn{x:Nat}:gO (es++fs) x=gO es x++gO fs x:=YH ..
structure Good(m:Nat)(es:Zt):Prop where
 lt:∀e∈es,e.1<e.2/\e.2<m
 nd:es.Nodup
def Good.J4{m:Nat}(g:Good m es){x y:Nat}(h:cT es x y):x<m/\y<m:=by rcases h with h|h;{have:x<y/\y<m:=g.lt _ h;lia};have:y<x/\x<m:=g.lt _ h;lia
def Good.Gx{m:Nat}(g:Good m es) (x:Nat):(gO es x).Nodup:=by unfold gO List.Nodup;rw[List.pairwise_filterMap];refine Zc ?_ g.nd;intro a b ha hb ne y hy z hz e;subst e;rcases vJ hy with rfl|rfl<;>rcases vJ hz with rfl|rfl;{exact ne rfl};{have h1:x<y/\y<m:=g.lt _ ha;have h2:y<x/\x<m:=g.lt _ hb;lia};{have h1:y<x/\x<m:=g.lt _ ha;have h2:x<y/\y<m:=g.lt _ hb;lia};exact ne rfl
def Good.MV{m:Nat}(g:Good m es) (x:Nat):(gO es x).length<=m:=lJ m _ (g.Gx x) λy hy=>(g.J4 (vj.mp hy)).2
def Good.perm{m:Nat}(p:fs.Perm es)(g:Good m es):Good m fs:=⟨λe h=>g.lt e (p.mem_iff.mp h),p.nodup_iff.mpr g.nd⟩
def w6{m:Nat}(p:fs.Perm es)(h:ff m es):ff m fs:=zE (nm:=id) h (λx hx=>⟨x,hx,rfl⟩) λa b h=>.inl (p.mem_iff.mpr h)
def fR (ms:A05)(e:Nat×Nat):Nat×Nat:=(min (ms.getD e.1 0) (ms.getD e.2 0),max (ms.getD e.1 0) (ms.getD e.2 0))
def getD_inj{ms:A05}(nd:ms.Nodup){a b:Nat}(ha:a<ms.length)(hb:b<ms.length)(e:ms.getD a 0=ms.getD b 0):a=b:=by rw[VH,VH,VG ha,VG hb]at e;have e':ms[a]=ms[b]:=e;rcases Xh a b with l|l|l;{exact absurd e' (ZS.mp nd a b ha hb l)};{exact l};exact absurd e'.symm (ZS.mp nd b a hb ha l)
def C6{m:Nat}{ps:Zt}{ms:A05}(pm:ms.Perm (List.range m))(g:Good m ps):Good m (ps.map (fR ms)):=by
 have nd:ms.Nodup:=pm.nodup_iff.mpr Wi;have ln:ms.length=m:=by rw[pm.length_eq,V9]
 have lt:∀a,a<m->ms.getD a 0<m:=λa ha=>by
  have h:a<ms.length:=by lia
  rw[VH,VG h];exact VD.mp (pm.mem_iff.mp (XU h))
 refine⟨λe he=>?_,?_⟩
 .obtain⟨⟨a,b⟩,hp,rfl⟩:=V5.mp he;have h:a<b/\b<m:=g.lt _ hp;have h1:=lt a (by lia);have h2:=lt b (by lia);have ne:ms.getD a 0≠ms.getD b 0:=λe=>by have:=getD_inj nd (by lia) (by lia) e;lia
  show min (ms.getD a 0) (ms.getD b 0)<max (ms.getD a 0) (ms.getD b 0)/\max (ms.getD a 0) (ms.getD b 0)<m;lia
 refine List.Pairwise.map _ ?_ (Zc (S:=λx y=>x≠y/\(x.1<x.2/\x.2<m)/\(y.1<y.2/\y.2<m)) (λ{a b} ha hb h=>⟨h,g.lt _ ha,g.lt _ hb⟩) g.nd);rintro⟨a,b⟩⟨c,d⟩⟨ne,h1,h2⟩e;have h1:a<b/\b<m:=h1;have h2:c<d/\d<m:=h2;have e1:min (ms.getD a 0) (ms.getD b 0)=min (ms.getD c 0) (ms.getD d 0):=congrArg Prod.fst e;have e2:max (ms.getD a 0) (ms.getD b 0)=max (ms.getD c 0) (ms.getD d 0):=congrArg Prod.snd e;have e3:(ms.getD a 0=ms.getD c 0/\ms.getD b 0=ms.getD d 0)\/(ms.getD a 0=ms.getD d 0/\ms.getD b 0=ms.getD c 0):=by lia
 rcases e3 with⟨p,q⟩|⟨p,q⟩;{have r1:=getD_inj nd (by lia) (by lia) p;have r2:=getD_inj nd (by lia) (by lia) q;subst r1;subst r2;exact ne rfl};have r1:=getD_inj nd (by lia) (by lia) p;have r2:=getD_inj nd (by lia) (by lia) q;lia
def uE{m:Nat}(pm:ms.Perm (List.range m))(h:ff m ps):ff m (ps.map (fR ms)):=by refine zE (nm:=λa=>ms.getD a 0) h (λx hx=>?_) λa b he=>?_;{obtain⟨i,hi⟩:=W6 (pm.mem_iff.mpr (VD.mpr hx));have li:=(Wj.mp hi).1;rw[pm.length_eq,V9]at li;refine⟨i,li,?_⟩;show ms.getD i 0=x;rw[VH,hi];rfl};have hm:fR ms (a,b)∈ps.map (fR ms):=V5.mpr ⟨_,he,rfl⟩;show cT _ (ms.getD a 0) (ms.getD b 0);have e:fR ms (a,b)=(min (ms.getD a 0) (ms.getD b 0),max (ms.getD a 0) (ms.getD b 0)):=rfl;rw[e]at hm;rcases Xz (ms.getD a 0) (ms.getD b 0)with l|l;{rw[XY l,Nat.max_eq_right l]at hm;exact .inl hm};rw[Y0 l,Nat.max_eq_left l]at hm;exact .inr hm
def mH:Nat->Nat
 |0=>0
 |b+1=>mH b+b
def ya{a b:Nat}(h:a<=b):mH a<=mH b:=by
 induction b with
 |zero=>
  obtain rfl:a=0:=by lia
  exact V4 _
 |succ b ih=>by_cases c:a=b+1;{rw[c];exact V4 _};exact VX (ih (by lia)) (Xi _ _)
theorem Cn:∀m,2*mH m<=m*m
 |0=>V4 _
 |m+1=>by have:=Cn m;show 2*(mH m+m)<=(m+1)*(m+1);rw[Nat.mul_add,Nat.add_mul,Nat.mul_add];lia
def ix (e:Nat×Nat):Nat:=mH e.2+e.1
def Qz(he:e.1<e.2)(hf:f.1<f.2)(h:ix e=ix f):e=f:=by
 obtain⟨a,b⟩:=e;obtain⟨c,d⟩:=f;unfold ix at h;dsimp only at he hf h;have key:∀{a b c d:Nat},a<b->b<d->mH b+a<mH d+c:=λ{a b c d} h1 h2=>by have:=ya (a:=b+1) (b:=d) (by lia);have e:mH (b+1)=mH b+b:=rfl;lia
 rcases Xh b d with l|l|l;{have:=key (c:=c) he l;lia};{subst l;rw[show a=c by lia]};have:=key (c:=a) hf l;lia
def ko{m:Nat}(g:Good m ps):2*ps.length<=m*m:=by have h:=lJ (mH m) (ps.map ix) ?_ ?_;{rw[V2]at h;have:=Cn m;lia};{unfold List.Nodup;rw[List.pairwise_map];exact Zc (λ{e f} he hf ne h=>ne (Qz (g.lt e he).1 (g.lt f hf).1 h)) g.nd};intro x hx;obtain⟨e,he,rfl⟩:=V5.mp hx;have l:=g.lt e he;have:=ya (a:=e.2+1) (b:=m) (by lia);have e2:mH (e.2+1)=mH e.2+e.2:=rfl;unfold ix;lia
end Gr
local macro_rules | `(tactic| bv_omega) => do let ls ← (List.range 216).toArray.mapM fun k => `(Lean.Parser.Tactic.simpLemma| $(Lean.mkIdent (.str `Dv s!"rr{k}")):ident); `(tactic| dsimp only[$ls,*, Dv.dyr0, Dv.dyr1, Dv.dyr2, Dv.dyr3, Nat.reduceBEq, Dv.LP, Dv.Mr, Dv.MM, Dv.MF, Dv.Iu, Dv.Sx, Dv.QK])
local macro_rules | `(tactic| rfl') => do let ls ← (List.range 216).toArray.mapM fun k => `(Lean.Parser.Tactic.simpLemma| $(Lean.mkIdent (.str `Dv s!"rr{k}")):ident); `(tactic| ((try bv_omega); try simp only[$ls,*, Dv.dw, Dv.OF, Dv.dy, Dv.dz, Nat.reduceBEq]))
local macro_rules | `(tactic| simp![$xs,*]) => do let ls ← (List.range 216).toArray.mapM fun k => `(Lean.Parser.Tactic.simpLemma| $(Lean.mkIdent (.str `Dv s!"rr{k}")):ident); let ys : Array (Lean.TSyntax `Lean.Parser.Tactic.simpLemma) := xs.getElems.map fun x => ⟨x.raw⟩; let zs := ls ++ ys; `(tactic| ((try bv_omega); try simp only[$zs,*, Dv.dw, Dv.OF, Dv.dy, Dv.dz, Nat.reduceBEq]))
namespace PB
open PySem L2 Dv
def Cj{α:Type}{m k:Nat}{f:Nat->α}{v:α}:((List.range m).map f).set k v=(List.range m).map λi=>if i=k then v else f i:=by refine W8 λj=>?_;rw[Wf,V2,V9,VA,VA];by_cases h:j<m;{rw[VN h];by_cases c:k=j;{subst c;rw[if_pos rfl,if_pos h];simp};rw[if_neg c];simp[Ne.symm c]};rw[VZ (by rw[V9];lia)];by_cases c:k=j;{subst c;rw[if_pos rfl,if_neg h];rfl};rw[if_neg c];rfl
def M1{α:Type}{m k:Nat}{f:Nat->α}(h:k<m):((List.range m).map f)[k]?=some (f k):=by rw[VA,VN h];rfl
def S9 (f:DM) (i n:Nat)(E1:En)(w:PyData)(Q:En->Kd->PyData->Prop):Prop:=∃a p ds m es k d E2,w=.int a/\E1[i]?=some (some (.dp p,.list ds))/\kZ ds.length a=some m/\ds[m]?=some (.list es)/\E1[n]?=some (some (k,d))/\i≠n/\dm E1 n=some E2/\f es [d] λnew v=>Q (E2.set i (some (.dp p,.list (ds.set m (.list new))))) .sh v
def Gw{i n:Nat}:yw f i j n x (o::E) Q=(here (o::E) i=true/\j x (o::E) λE1 _ w=>S9 f i n E1 w Q):=rfl
def HN{i n a m:Nat}{p:Bool}{E:En}{g:Nat->Zy}{Q:En->Kd->PyData->Prop}(h1:E[i]?=some (some (.dp p,.list ((List.range m).map λi=>.list (g i)))))(h2:E[n]?=some (some (.sh,d)))(ne:i≠n)(ha:a<m)(hs:(g a).length<16777216)(q:Q (E.set i (some (.dp p,.list ((List.range m).map λk=>.list (if k=a then g k++[d]else g k))))) .sh .none):S9 cS i n E (iD a) Q:=by
 refine⟨a,p,_,a,g a,.sh,d,E,rfl,h1,?_,M1 ha,h2,ne,?_,?_⟩;{rw[V2,V9];exact Hj ha}
 .have:=ze (E:=E) (is:=[n]) (by simp[iI,h2]);unfold eF at this;cases e:dm E n with
  |none=>rw[e]at this;cases this
  |some E2=>rw[e]at this;exact this
 refine⟨hs,?_⟩;show Q (E.set i (some (.dp p,.list (((List.range m).map λi=>PyData.list (g i)).set a (.list (g a++[d])))))) .sh .none;rw[Cj];have e:((List.range m).map λk=>if k=a then PyData.list (g a++[d])else .list (g k))=(List.range m).map λk=>PyData.list (if k=a then g k++[d]else g k):=by refine Vx λk _=>?_;by_cases c:k=a;{rw[if_pos c,if_pos c,c]};rw[if_neg c,if_neg c]
 rw[e];exact q
abbrev yH (m:Nat)(es:Zt):PyData:=.list ((List.range m).map λi=>nD (Gr.gO es i))
def CP:bG:=λds Q x=>∃m es,ds=[wD m es]/\m<=60/\Gr.Good m es/\Q [] (.dp false) (yH m es)
def NH:∀ds Q x,CP ds Q x->gD (bx [false] Q x) (ini [false] ds++List.replicate 6 none):=by
 rintro _ Q x⟨m,es,rfl,hm,gd,q⟩;unfold gD;rfl';rw[if_pos (by lia)];refine aG rfl (PY (λ_=>PyData.list []) rfl (λa ha I hI=>?_) ?_ (by rw[V9];lia));{rfl';exact⟨by lia,⟨false,rfl⟩,hI _ rfl⟩};rfl';refine uR (λi E=>G4 λ(o4 o5:Option (Kd×PyData))=>FJ (E=[some (.sh,wD m es),some (.sh,iD m),some (.sh,.tuple (es.map dG)),some (.dp false,yH m (es.take i)),o4,o5,none]) (bA o4=true) (bA o5=true)) ⟨none,none,rfl,rfl,rfl⟩ ?_ ?_
 .rintro i⟨a,b⟩_ hi⟨o4,o5,rfl,ho4,ho5⟩;have hab:=gd.lt _ (VV hi);have hab:a<b/\b<m:=hab;simp![ho4,ho5,Gw];have hn:∀k,(Gr.gO (es.take i) k).length<1000:=λk=>by have g2:Gr.Good m (es.take i):=⟨λe he=>gd.lt e (List.mem_of_mem_take he),List.Sublist.nodup (ZJ _ _) gd.nd⟩;have:=g2.MV k;lia
  refine HN (g:=λk=>(Gr.gO (es.take i) k).map iD) rfl rfl (by lia) (by lia) (by rw[V2];have:=hn a;lia) ?_;simp![ho4,ho5,Gw];refine HN (g:=λk=>if k=a then(Gr.gO (es.take i) k).map iD++[iD b]else(Gr.gO (es.take i) k).map iD) rfl rfl (by lia) (by lia) (by rw[if_neg (by lia),V2];have:=hn b;lia) ?_;refine⟨some (.sh,iD a),some (.sh,iD b),?_,rfl,rfl⟩;simp only[List.set_cons_succ,List.set_cons_zero];have e:∀k,(if k=b then(if k=a then(Gr.gO (es.take i) k).map iD++[iD b]else(Gr.gO (es.take i) k).map iD)++[iD a]else if k=a then(Gr.gO (es.take i) k).map iD++[iD b]else(Gr.gO (es.take i) k).map iD)=(Gr.gO (es.take (i+1)) k).map iD:=λk=>by rw[take_snoc hi,Gr.Mn,VJ];unfold Gr.gO;rw[WR,List.filterMap_nil];unfold Gr.nb;simp only;by_cases c:k=a;{subst c;rw[if_neg (by lia),if_pos rfl,if_pos rfl];rfl};by_cases c2:k=b;{subst c2;rw[if_pos rfl,if_neg c,if_neg (Ne.symm c),if_pos rfl];rfl};rw[if_neg c2,if_neg c,if_neg (Ne.symm c),if_neg (Ne.symm c2)];exact(WO _).symm
  rw[Vx λk _=>congrArg PyData.list (e k)]
 rintro _⟨o4,o5,rfl,ho4,ho5⟩;rw[Wd];rfl';exact q
open Classical in
def B5 (es:Zt) (p x:Nat):Option Nat:=if ∃d,Gr.R (Gr.cT es) p d x then some (Gr.dst (Gr.cT es) p x)else none
def oD:Option Nat->PyData
 |none=>.none
 |some n=>iD n
abbrev tD (f:Nat->Option Nat) (m:Nat):PyData:=.list ((List.range m).map λx=>oD (f x))
def ET{f:Nat->Option Nat}{m y d:Nat}:(((List.range m).map λx=>oD (f x)).set y (iD d))=(List.range m).map λx=>oD (if x=y then some d else f x):=by rw[Cj];refine Vx λk _=>?_;by_cases c:k=y;{rw[if_pos c,if_pos c];rfl};rw[if_neg c,if_neg c]
def PJ{m p r:Nat}{f:Nat->Option Nat}(B:Gr.nq (Gr.cT es) p r f []) (x:Nat):f x=B5 es p x:=by
 unfold B5;split;{rename_i h;obtain⟨d,h⟩:=h;exact B.val h};rename_i h;cases e:f x with
 |none=>rfl
 |some d=>exact absurd ⟨d,(B.sound x d e).1⟩ h
def JQ{m p x:Nat}(cn:Gr.ff m es)(hp:p<m)(hx:x<m):B5 es p x=some (Gr.dst (Gr.cT es) p x):=if_pos (cn p hp x hx)
def C4:bG:=λds Q x=>∃m es p,ds=[wD m es,iD p]/\m<=60/\Gr.Good m es/\p<m/\Q [] (.ow false) (tD (B5 es p) m)
def Ot:dO false [oD o,.none] P=P .sh (.bool o.isNone):=by cases o<;>simp[oD,dO,dx]
def Sk:lf (oD o)=true:=by cases o<;>rfl
def Lw{y:Nat}:nD (l++[y])=.list (l.map iD++[iD y]):=by show PyData.list ((l++[y]).map iD)=_;rw[VJ];rfl
def Oq:∀ds Q x,C4 ds Q x->iX CP (bx [false,false] Q x) (ini [false,false] ds++List.replicate 6 none):=by
 rintro _ Q x⟨m,es,p,rfl,hm,gd,hp,q⟩;unfold iX;rfl';refine⟨m,es,rfl,hm,gd,?_⟩;rfl';have e0:(List.replicate m [PyData.none]).flatten=(List.range m).map λ_=>PyData.none:=by
  clear q hp gd hm;induction m with
  |zero=>rfl
  |succ k ih=>rw[List.replicate_succ',List.flatten_append,ih,Wc,VJ];rfl
 rw[e0];refine⟨by lia,⟨by lia,by lia,by lia⟩,qI (by rw[V2,V9];exact hp) ?_⟩;rw[show PyData.int 0=iD 0 from rfl,show((List.range m).map λ_=>PyData.none)=(List.range m).map λx=>oD ((λ_=>none:Nat->Option Nat) x)from rfl,ET];refine⟨by lia,?_⟩;refine⟨λn E=>Tf λ(r:Nat)(g:Nat->Option Nat)(ed:A05)(k2 k4:Kd)(o5 o6 o7:Option (Kd×PyData))=>Tn (E=[some (.sh,wD m es),some (.sh,iD p),some (k2,yH m es),some (.ow false,tD g m),some (k4,nD ed),o5,o6,o7]) ((k2=.dp false\/k2=.sh)) ((k4=.ow false\/k4=.sh)) (bA o5=true) (bA o6=true) (bA o7=true) (n=2*Gr.cnt g m+(if ed=[]then 0 else 1)) (Gr.nq (Gr.cT es) p r g ed) (∀x∈ed,x<m),?_,?_⟩;{exact⟨_,0,_,[p],_,_,none,none,none,rfl,.inl rfl,.inl rfl,rfl,rfl,rfl,rfl,Gr.nq.start,λx hx=>by rw[V6.mp hx];exact hp⟩};rintro n _⟨r,g,ed,k2,k4,o5,o6,o7,rfl,hk2,hk4,ho5,ho6,ho7,rfl,B,edm⟩;simp![List.isEmpty_map];refine⟨by rcases hk4 with rfl|rfl<;>rfl,?_⟩;cases ed with
 |nil=>simp![Zb];have e:tD g m=tD (B5 es p) m:=congrArg PyData.list (Vx λx _=>congrArg oD (PJ (m:=m) B x));rw[e];exact q
 |cons e0 er=>
  simp![List.isEmpty_cons,ho5];have f4:k4.fz=true:=by rcases hk4 with rfl|rfl<;>rfl
  rw[if_pos f4];refine⟨by lia,aG rfl ?_⟩;have ne:e0::er≠[]:=Z1 _ _;generalize e0::er=ed at B edm ne⊢;have hE2:∀(k2:Kd),(k2=.dp false\/k2=.sh)->k2.rd=true/\k2.fz=true:=λk h=>by rcases h with rfl|rfl<;>exact⟨rfl,rfl⟩
  refine uR (λi E=>yq λ(g':Nat->Option Nat)(rc:A05)(k2:Kd)(o6 o7:Option (Kd×PyData))=>CB (E=[some (.sh,wD m es),some (.sh,iD p),some (k2,yH m es),some (.ow false,tD g' m),some (.sh,nD ed),some (.ow false,nD rc),o6,o7]) ((k2=.dp false\/k2=.sh)) (bA o6=true) (bA o7=true) (Gr.gn (Gr.cT es) r g ed g' rc) ((∀j h,j<i->ed[j]?=some h->∀x,Gr.cT es h x->g' x≠none)) (rc.Nodup) (∀x∈rc,x<m)) ⟨g,[],k2,o6,o7,rfl,hk2,ho6,ho7,.start,λj h hj=>by lia,WU,λ_ h=>absurd h WH⟩ ?_ ?_
  .rintro i h _ hi⟨g',rc,k2,o6,o7,rfl,hk2,ho6,ho7,BI,don,rcn,rcm⟩;have mh:h∈ed:=VV hi;have hm':=edm h mh;obtain⟨rd2,fz2⟩:=hE2 k2 hk2;simp![ho6,rd2];rw[VN hm'];refine aG rfl ?_;simp![fz2];have loop:∀k2,(k2=.dp false\/k2=.sh)->yT (List.map iD (Gr.gO es h)) (Tg.nm 7) (cG (bN (aa (dO false) [Arg.ev (aa aC [Arg.pk 3,Arg.pk 7]),Arg.ev (dC PyData.none)])) (ao (iH 3 (bg 7) (aa cN [Arg.ev (aa aC [Arg.pk 3,Arg.pk 6]),Arg.ev (dC (PyData.int 1))])) (cK (jR cS 5 [bg 7]))) dD)
    { nx:=λE=>yq λ(g':Nat->Option Nat)(rc:A05)(k2:Kd)(o6 o7:Option (Kd×PyData))=>CB (E=[some (.sh,wD m es),some (.sh,iD p),some (k2,yH m es),some (.ow false,tD g' m),some (.sh,nD ed),some (.ow false,nD rc),o6,o7]) ((k2=.dp false\/k2=.sh)) (bA o6=true) (bA o7=true) (Gr.gn (Gr.cT es) r g ed g' rc) ((∀j h,j<i+1->ed[j]?=some h->∀x,Gr.cT es h x->g' x≠none)) (rc.Nodup) (∀x∈rc,x<m),rt:=(bx [false,false] Q x).rt,xc:=x }
    [some (.sh,wD m es),some (.sh,iD p),some (k2,yH m es),some (.ow false,tD g' m),some (.sh,nD ed),some (.ow false,nD rc),some (.sh,iD h),o7]:=by
    intro k2 hk2;refine uR (λi' E=>J5 λ(g':Nat->Option Nat)(rc:A05)(o7:Option (Kd×PyData))=>SD (E=[some (.sh,wD m es),some (.sh,iD p),some (k2,yH m es),some (.ow false,tD g' m),some (.sh,nD ed),some (.ow false,nD rc),some (.sh,iD h),o7]) (bA o7=true) (Gr.gn (Gr.cT es) r g ed g' rc) ((∀j h,j<i->ed[j]?=some h->∀x,Gr.cT es h x->g' x≠none)) ((∀j y,j<i'->(Gr.gO es h)[j]?=some y->g' y≠none)) (rc.Nodup) (∀x∈rc,x<m)) ⟨g',rc,o7,rfl,ho7,BI,don,λj y hj=>by lia,rcn,rcm⟩ ?_ ?_
    .rintro i' y _ hy⟨g',rc,o7,rfl,ho7,BI,don,dni,rcn,rcm⟩;have hyE:Gr.cT es h y:=Gr.vj.mp (VV hy);have ym:y<m:=(gd.J4 hyE).2;have eh:=BI.at B mh;simp![ho7,VN ym,VN hm',Sk,Ot];cases gy:g' y with
     |some d=>
      simp only[dw,Option.isNone_some];refine⟨g',rc,some (.sh,iD y),rfl,rfl,BI,don,λj z hj hz=>?_,rcn,rcm⟩
      by_cases c:j=i'
      .subst c;rw[hy]at hz;cases hz;rw[gy];simp
      .exact dni j z (by lia) hz
     |none=>
      have e1:oD (some r)=iD r:=rfl;have e2:(r:Int)+1=((r+1:Nat):Int):=rfl;simp![Option.isNone_none,eh,e1,e2];have yrc:y∉rc:=λh'=>by
       have:=((BI.got y).mp h').2;rw[gy]at this;cases this
      have rcl:=Gr.lJ m rc rcn rcm;refine qI ym ⟨by lia,_,rc++[y],some (.sh,iD y),?_,rfl,BI.put mh hyE gy,λj h' hj he x hx=>?_,λj z hj hz=>?_,?_,λx hx=>?_⟩
      .rw[ET,Lw]
      .show(if x=y then some (r+1)else g' x)≠none
       split
       .exact λh=>(nomatch h)
       .exact don j h' hj he x hx
      .show(if z=y then some (r+1)else g' z)≠none
       split
       .exact λh=>(nomatch h)
       .rename_i c
        by_cases c2:j=i'
        .subst c2;rw[hy]at hz;cases hz;exact absurd rfl c
        .exact dni j z (by lia) hz
      .exact Xl.mpr ⟨rcn,WB.mpr ⟨WH,WU⟩,λa ha b hb e=>by
        cases V6.mp hb;exact yrc (e▸ha)⟩
      .rcases VU.mp hx with h'|h'
       .exact rcm x h'
       .rw[V6.mp h'];exact ym
    .rintro _⟨g',rc,o7,rfl,ho7,BI,don,dni,rcn,rcm⟩;refine⟨g',rc,k2,_,o7,rfl,hk2,rfl,ho7,BI,λj h' hj hh x hx=>?_,rcn,rcm⟩
     by_cases c:j=i
     .subst c;rw[hi]at hh;cases hh;obtain⟨l,hl⟩:=List.mem_iff_getElem?.mp (Gr.vj.mpr hx);exact dni l x (aZ hl) hl
     .exact don j h' (by lia) hh x hx
   split;{exact aG rfl (loop _ hk2)};exact aG rfl (loop _ (.inr rfl))
  rintro _⟨g',rc,k2,o6,o7,rfl,hk2,ho6,ho7,BI,don,rcn,rcm⟩;rfl';have all:∀h,h∈ed->∀x,Gr.cT es h x->g' x≠none:=λh hh=>by obtain⟨j,hj⟩:=List.mem_iff_getElem?.mp hh;exact don j h (aZ hj) hj
  refine⟨_,?_,r+1,g',rc,k2,.sh,some (.sh,nD rc),o6,o7,rfl,hk2,.inr rfl,rfl,ho6,ho7,rfl,B.next BI all,rcm⟩;rw[if_neg ne];cases rc with
  |nil=>have:=Gr.Au (f:=g) (g:=g') (λx h=>BI.none h) m;rw[if_pos rfl];lia
  |cons y rc=>obtain⟨h1,h2⟩:=(BI.got y).mp (V3 ..);have:=Gr.Gp (f:=g) (g:=g') (λx h=>BI.none h) h1 (by rw[h2];exact λh=>(nomatch h)) m (rcm y (V3 ..));rw[if_neg (Z1 _ _)];lia
structure bX(m:Nat)(es:Zt):Prop where
 pos:1<=m
 le:m<=60
 gd:Gr.Good m es
 cn:Gr.ff m es
def bX.few{m:Nat}(W:bX m es):es.length<=1800:=by have h:=Gr.ko W.gd;have:=Xm W.le W.le;lia
abbrev aF (es:Zt) (p x:Nat):Nat:=Gr.dst (Gr.cT es) p x
abbrev xg (m:Nat)(es:Zt) (p:Nat):PyData:=.list ((List.range m).map λx=>iD (aF es p x))
def NV{m p:Nat}(cn:Gr.ff m es)(hp:p<m):tD (B5 es p) m=xg m es p:=congrArg PyData.list (Vx λx hx=>by rw[JQ cn hp (VD.mp hx)];rfl)
def Ds:bG:=λds Q x=>∃m es,∃p:Int,ds=[wD m es,.int p]/\(0<=p/\p<m->Q [] .sh .none)/\(¬(0<=p/\p<m)->x "NoPlace" .none)
def Nc:∀ds Q x,Ds ds Q x->gB (bx [false,false] Q x) (ini [false,false] ds++List.replicate 0 none):=by rintro _ Q x⟨m,es,p,rfl,q,r⟩;unfold gB;rfl';split;{rename_i h;split;{rename_i h2;exact r λz=>h2 z.2};rename_i h2;exact q ⟨h,Decidable.of_not_not h2⟩};rename_i h;exact r λz=>h z.1
def Dp:bG:=λds Q x=>∃m es,∃p:Int,ds=[wD m es,.int p]/\bX m es/\(∀k:Nat,p=k->k<m->Q [] (.ow false) (xg m es k))/\(¬(0<=p/\p<m)->x "NoPlace" .none)
def P9:∀ds Q x,Dp ds Q x->mj Ds C4 (bx [false,false] Q x) (ini [false,false] ds++List.replicate 0 none):=by
 rintro _ Q x⟨m,es,p,rfl,W,q,r⟩;unfold mj;rfl';refine⟨m,es,p,rfl,λhp=>?_,r⟩;rfl';obtain⟨k,rfl⟩:=Int.eq_ofNat_of_zero_le hp.1;have hk:k<m:=by lia
 refine⟨m,es,k,rfl,W.le,W.gd,hk,?_⟩;rfl';rw[NV W.cn hk];exact q k rfl hk
abbrev Th:=Nat ⊕ (Nat×Nat)
def bU:Th->PyData
 |.inl x=>iD x
 |.inr e=>dG e
def TV (m:Nat):Th->Prop
 |.inl x=>x<m
 |.inr e=>e.1<m/\e.2<m
def td (es:Zt) (p:Nat):Th->Nat
 |.inl x=>aF es p x
 |.inr e=>min (aF es p e.1) (aF es p e.2)
def tX:lf (bU t)=true:=by cases t<;>rfl
def Ea:bG:=λds Q x=>∃m es p,∃e:Nat×Nat,ds=[xg m es p,dG e]/\e.1<m/\e.2<m/\Q [] .sh (iD (td es p (.inr e)))
def OS:∀ds Q x,Ea ds Q x->kN (bx [false,false] Q x) (ini [false,false] ds++List.replicate 0 none):=by rintro _ Q x⟨m,es,p,e,rfl,h1,h2,q⟩;unfold kN;simp![VN h1,VN h2];exact q
def D5:bG:=λds Q x=>∃m es p t,ds=[xg m es p,bU t]/\TV m t/\Q [] .sh (iD (td es p t))
def QS:∀ds Q x,D5 ds Q x->l7 Ea (bx [false,false] Q x) (ini [false,false] ds++List.replicate 0 none):=by
 rintro _ Q x⟨m,es,p,t,rfl,h,q⟩;unfold l7;cases t with
 |inl k=>have h:k<m:=h;simp![bU,VN h];exact q
 |inr e=>simp![bU];refine⟨m,es,p,e,rfl,h.1,h.2,?_⟩;rfl';exact q
def aq (k:Str) (m:Nat)(es:Zt):List Th:=(if k="ties" then []else(List.range m).map Sum.inl)++(if k="places" then []else es.map Sum.inr)
def eS{m:Nat}(g:Gr.Good m es):∀t∈aq k m es,TV m t:=by intro t ht;rcases VU.mp ht with h|h;{split at h;{cases h};obtain⟨x,hx,rfl⟩:=V5.mp h;exact VD.mp hx};split at h;{cases h};obtain⟨e,he,rfl⟩:=V5.mp h;have:=g.lt e he;exact⟨by show e.1<m;lia,this.2⟩
def v7:bG:=λds Q x=>∃m es k,ds=[wD m es,.str k]/\bX m es/\Q [] (.ow false) (.list ((aq k m es).map bU))
def Og:∀ds Q x,v7 ds Q x->lY (bx [false,false] Q x) (ini [false,false] ds++List.replicate 4 none):=by
 rintro _ Q x⟨m,es,k,rfl,W,q⟩;have e:(aq k m es).map bU=(if k="ties" then []else(List.range m).map iD)++(if k="places" then []else es.map dG):=by unfold aq;rw[VJ];congr 1;{split;{rfl};rw[V7];rfl};split;{rfl};rw[V7];rfl
 have hm:=W.le;have hf:=W.few;unfold lY;rfl';rw[e]at q;by_cases c1:k="ties";{by_cases c2:k="places";{subst c1;exact absurd c2 (by decide)};simp only[if_pos c1,if_neg c2,dv,dw,dx,dy,dz,Nat.reduceBEq]at q⊢;exact⟨by lia,by lia,q⟩};by_cases c2:k="places";{simp only[if_neg c1,if_pos c2,dv,dw,dx,dy,dz,Nat.reduceBEq,WO]at q⊢;exact⟨⟨by lia,by lia⟩,by lia,by lia,q⟩};simp only[if_neg c1,if_neg c2,dv,dw,dx,dy,dz,Nat.reduceBEq]at q⊢;exact⟨⟨by lia,by lia⟩,by lia,q⟩
def zW{ms:A05}{m:Nat}(pm:ms.Perm (List.range m)){a:Nat}(ha:a<m):ms[a]?=some (ms.getD a 0)/\ms.getD a 0<m:=by
 have h:a<ms.length:=by rw[pm.length_eq,V9];exact ha
 have e:ms.getD a 0=ms[a]:=by rw[VH,VG h];rfl
 rw[e];exact⟨VG h,VD.mp (pm.mem_iff.mp (XU h))⟩
end PB
namespace Dv
open PySem L2
def dd:type_of%@put_kv2/\type_of%@kvP_len/\type_of%@in_ts/\type_of%@nin_ts/\type_of%@list_ts/\(∀{i:Int},lF (.int i)=true):=⟨@put_kv2,@kvP_len,@in_ts,@nin_ts,@list_ts,rfl⟩
def oj{α:Type}{l:List α}{enc:α->PyData}{tg:Tg}{b:DS}{D:gQ}{E1:En}(I:Nat->En->Prop)(h0:I 0 E1)(hs:∀(J:En->Prop) i a E,l[i]?=some a->(∀E',I (i+1) E'->J E')->I i E->∃E2,cO tg (enc a) E=some E2/\b { D with nx:=J } E2)(he:∀E,I l.length E->D.nx E):yT (l.map enc) tg b D E1:=uR I h0 (λi a E ha hi=>hs (I (i+1)) i a E ha (λ_ h=>h) hi) he
def n9{n:Nat}{enc:Nat->PyData}{tg:Tg}{b:DS}{D:gQ}{E1:En}(I:Nat->En->Prop)(h0:I 0 E1)(hs:∀(J:En->Prop) i E,i<n->(∀E',I (i+1) E'->J E')->I i E->∃E2,cO tg (enc i) E=some E2/\b { D with nx:=J } E2)(he:∀E,I n E->D.nx E):yT ((List.range n).map enc) tg b D E1:=OJ I h0 (λi E ha hi=>hs (I (i+1)) i E ha (λ_ h=>h) hi) he
def uS{a b:DS}{D:gQ}{E:En}(J0:En->Prop)(h1:∀J:En->Prop,(∀E',J0 E'->J E')->a { D with nx:=J } E)(h2:∀B:En->Prop,(∀E',B E'=b D E')->∀E',J0 E'->B E'):vO a b D E:=⟨J0,h1 J0 λ_ h=>h,λE' h=>h2 (b D) (λ_=>rfl) E' h⟩
def Sn{c:DT}{b:DS}{D:gQ}{E:En}(W:Nat->En->Prop)(h0:∃m,W m E)(hs:∀(J:En->Prop) m E,(∀m' E',m'<m->W m' E'->J E')->W m E->c D.xc E λE1 t=>if t=true then b { D with nx:=J } E1 else D.nx E1):pK c b D E:=⟨W,h0,λm E h=>hs (λE'=>∃m',m'<m/\W m' E') m E (λm' E' l w=>⟨m',l,w⟩) h⟩
end Dv
namespace PB
open PySem L2 Dv Gr
abbrev inD (l:A06):PyData:=.list (l.map .int)
def sV(c:Int){d:Int}(h:0<d):∃mk:Nat,c%d=mk/\(mk:Int)<d:=by have h1:=Int.emod_nonneg c (show d≠0 by lia);have h2:=Int.emod_lt_of_pos c h;exact⟨(c%d).toNat,by lia,by lia⟩
def Q7{ns:A06}:dl 8 (.list (ns.map .int))=true:=by show((ns.map PyData.int).all (dl 7))=true;rw[VW];intro d h;obtain⟨c,_,rfl⟩:=V5.mp h;rfl
end PB
namespace PB
open PySem L2 Dv
theorem iY{α:Type}{f:α->PyData}{p:α->Bool}:∀{l:List α},(l.filterMap λt=>if p t=true then some (f t)else none)=(l.filter p).map f
 |[]=>rfl
 |a::l=>by
  rw[WR,List.filter_cons];cases h:p a with
  |true=>simp only[if_true];rw[iY];rfl
  |false=>simp only[if_neg (VQ)];exact iY
end PB
namespace Gr
def vN (m:Nat)(es:Zt):Prop:=∀x,x<m->∃d,R (cT es) 0 d x
def R.mono{E F:Nat->Nat->Prop}(s:∀x y,E x y->F x y){p d x:Nat}(h:R E p d x):R F p d x:=by
 induction h with
 |zero=>exact .zero
 |step _ e ih=>exact ih.step (s _ _ e)
def vN.conn{m:Nat}(h:vN m es):ff m es:=λp hp x hx=>by obtain⟨d,hd⟩:=h p hp;obtain⟨e,he⟩:=h x hx;exact⟨d+e,(hd.symm kD).trans he⟩
theorem vN.mono{m:Nat}(h:vN m es)(s:∀e,e∈es->e∈fs):vN m fs:=λx hx=>by obtain⟨d,hd⟩:=h x hx;exact⟨d,hd.mono λx y e=>e.imp (s _) (s _)⟩
def ff.Uh{m:Nat}(h:ff m es):vN m es:=λx hx=>h 0 (by lia) x hx
def Good.put{m:Nat}(g:Good m es){x y:Nat}(l:x<y)(hy:y<m)(n:(x,y)∉es):Good m (es++[(x,y)]):=by refine⟨λe he=>?_,Xl.mpr ⟨g.nd,WB.mpr ⟨WH,WU⟩,λe he f hf h=>?_⟩⟩;{rcases VU.mp he with he|he;{exact g.lt e he};cases V6.mp he;exact⟨l,hy⟩};cases V6.mp hf;exact n (h▸he)
end Gr
namespace PB
open PySem L2 Dv Gr
def aV(h:∀B:En->Prop,(∀E',B E'=b D E')->a { D with nx:=B } E):ao a b D E:=h (b D) λ_=>rfl
def DH:bG:=λdd Q x=>∃(ns:A06) (k:Nat),dd=[inD ns,iD k]/\k<=1000/\∀n:Nat,Q [] (.ow false) (nD [n])
def PF:∀dd Q x,DH dd Q x->gW (bx [false,false] Q x) (ini [false,false] dd++List.replicate 2 none):=by
 rintro _ Q x⟨ns,k,rfl,hk,q⟩;unfold gW;rfl';refine uS (λE=>∃c:Int,E=[some (.sh,inD ns),some (.sh,iD k),some (.sh,.int c),none]) (λJ hJ=>?_) λB hB=>?_
 .rfl';split;{rename_i h;exact aG (VG h) (hJ _ ⟨_,rfl⟩)};refine⟨by lia,⟨Q7,rfl⟩,?_⟩;split
  .rename_i hne;have h1:0<ns.length:=by rcases ns with _|⟨a,t⟩;{exact absurd rfl hne};simp
   exact⟨h1,aG (VG (X6 _ h1)) ⟨by lia,.inl ⟨by lia,by lia⟩,hJ _ ⟨_,rfl⟩⟩⟩
  exact hJ _ ⟨_,rfl⟩
 rintro _⟨c,rfl⟩;rw[hB];rfl';clear hB;have p18:Ah 10 18:=⟨by decide,by decide,by decide⟩;have p30:Ah 10 30:=⟨by decide,by decide,by decide⟩;have eD:(10:Int)^Int.toNat 30+57=1000000000000000000000000000057:=by decide
 refine⟨p18,?_⟩;split;{rename_i hc;have hc0:(0:Int)<=c:=XE (by decide) hc;obtain⟨n,rfl⟩:=Int.eq_ofNat_of_zero_le hc0;exact⟨by lia,q n⟩};rw[eD];obtain⟨a,ea,ha⟩:=sV c (d:=1000000000000000000000000000057) (by lia);rw[ea];obtain⟨b,eb,hb⟩:=sV (((a:Int)+7919*(k:Int)+101)^Int.toNat 2) (d:=1000000000000000000000000000057) (by lia);rw[eb];obtain⟨e,ee,he⟩:=sV (((b:Int)+977*(k:Int)+5)*618033988749894848204586834365) (d:=1000000000000000000000000000057) (by lia);rw[ee];exact⟨p30,by lia,.inl ⟨by lia,by lia⟩,⟨by lia,by lia,by lia⟩,p30,by lia,.inl ⟨by lia,by lia⟩,⟨by lia,by decide⟩,p30,by lia,by lia,q e⟩
def qZ:bG:=λdd Q x=>∃(n m:Nat),dd=[nD [n],iD m]/\0<m/\m<2^200/\∀(r n':Nat),r<m->Q [nD [n']] .sh (iD r)
def RS:∀dd Q x,qZ dd Q x->iS (bx [true,false] Q x) (ini [true,false] dd++List.replicate 1 none):=by rintro _ Q x⟨n,m,rfl,hm,h2,q⟩;unfold iS;rfl';exact⟨hm,⟨by lia,by lia⟩,q (n%m) (n/m) (X6 _ hm)⟩
def BE:bG:=λdd Q x=>∃(n m:Nat),dd=[nD [n],iD m]/\m<=1000/\∀(ms:A05) n',ms.Perm (List.range m)->Q [nD [n']] (.ow false) (nD ms)
def Rw:∀dd Q x,BE dd Q x->ic qZ (bx [true,false] Q x) (ini [true,false] dd++List.replicate 2 none):=by rintro _ Q x⟨n,m,rfl,h2,q⟩;unfold ic;rfl';refine⟨by lia,?_⟩;rw[if_pos ⟨by lia,by lia⟩];refine aG rfl ?_;refine n9 (λi E=>J5 λ(n:Nat)(ms:A05)(o:Option (Kd×PyData))=>FJ (E=[some (.ow true,nD [n]),some (.sh,iD m),some (.ow false,nD ms),o]) (bA o=true) (ms.Perm (List.range i))) ⟨n,[],none,rfl,rfl,List.Perm.refl _⟩ ?_ ?_;{rintro J i _ hi hJ⟨n,ms,o,rfl,ho,hp⟩;simp![ho];refine⟨n,i+1,rfl,by lia,by lia,λr n' hr=>?_⟩;rfl';have hl:=hp.length_eq;rw[V9]at hl;refine⟨r,rfl,by rw[V2];lia,by rw[V2];show _<16777216;lia,hJ _ ⟨n',ms.take r++i::ms.drop r,some (.sh,iD i),?_,rfl,?_⟩⟩;{rw[<-Xy,<-List.map_drop,<-VP,<-VJ]};rw[Wc];refine(List.perm_middle).trans ?_;rw[Z0];exact(List.Perm.cons i hp).trans (List.perm_append_singleton i _).symm};rintro _⟨n,ms,o,rfl,ho,hp⟩;simp![ho];exact q ms n hp
structure PI(N m k:Nat)(ps:Zt):Prop where
 ne:∀e∈ps,e.1≠e.2/\e.1<m/\e.2<m
 tr:∀j,0<j->j<k->∃p,p<j/\(p,j)∈ps
 few:ps.length<=N
def PI.app{N M m k:Nat}(h:PI N m k ps)(hq:∀e∈qs,e.1≠e.2/\e.1<m/\e.2<m)(l:qs.length<=M):PI (N+M) m k (ps++qs):=
 ⟨λe he=>(VU.mp he).elim (h.ne e) (hq e),λj h0 hj=>by obtain⟨p,hp,hm⟩:=h.tr j h0 hj;exact⟨p,hp,VU.mpr (.inl hm)⟩,by have:=h.few;rw[VI];lia⟩
def PI.step{N m k p:Nat}{ps:Zt}(h:PI N m k ps)(hp:p<k)(hk:k<m):PI (N+1) m (k+1) (ps++[(p,k)]):=
 ⟨λe he=>(VU.mp he).elim (h.ne e) λz=>by rw[V6.mp z];exact⟨by show p≠k;lia,by show p<m;lia,hk⟩,
   λj h0 hj=>by
  by_cases c:j=k
  .subst c;exact⟨p,hp,VU.mpr (.inr (V6.mpr rfl))⟩
  .obtain⟨p,hp,hm⟩:=h.tr j h0 (by lia);exact⟨p,hp,VU.mpr (.inl hm)⟩,by have:=h.few;rw[VI];simp;lia⟩
def PI.mono{N M m k:Nat}(h:PI N m k ps)(l:N<=M):PI M m k ps:=⟨h.ne,h.tr,VX h.few l⟩
def C0:bG:=λdd Q x=>∃(n m w:Nat),dd=[nD [n],iD m,iD w]/\1<=m/\m<=30/\w<=9/\∀(ps:Zt) n',PI 910 m m ps->Q [nD [n']] (.ow false) (.list (ps.map dG))
def OI:∀dd Q x,C0 dd Q x->g9 qZ (bx [true,false,false] Q x) (ini [true,false,false] dd++List.replicate 6 none):=by
 rintro _ Q x⟨n,m,w,rfl,h1,h2,hw,q⟩;have em:((m:Int)-1).toNat=m-1:=by lia
 unfold g9;refine aV λB hB=>?_;rfl';refine⟨by lia,?_⟩;show B _;rw[hB];clear hB B;refine aV λB hB=>?_;rfl';rw[em,if_pos ⟨by lia,by lia,by lia,by lia⟩];refine aG rfl ?_;refine n9 (λk E=>Gn λ(n:Nat)(ps:Zt)(o4 o5:Option (Kd×PyData))=>Ll (E=[some (.ow true,nD [n]),some (.sh,iD m),some (.sh,iD w),some (.ow false,.list (ps.map dG)),o4,o5,none,none,none]) (bA o4=true) (bA o5=true) (PI (31*k) m (k+1) ps)) ⟨n,[],none,none,rfl,rfl,rfl,⟨(λ_ z=>nomatch z),λj h0 hj=>by lia,by simp⟩⟩ ?_ ?_
 .rintro J k _ hk hJ⟨n,ps,o4,o5,rfl,h4,h5,pi⟩;simp![h4,h5];refine⟨n,k+1,rfl,by lia,by lia,λr n hr=>?_⟩;simp![h4,h5,GY];obtain⟨p,hp,e⟩:∃p:Nat,p<=k/\dS [.int (((k+1:Nat):Int)-1),.int (((k+1:Nat):Int)-1),.int 0,iD r] (if(3:Int)<(w:Int)then 3 else(w:Int))=some (iD p):=by rw[show((k+1:Nat):Int)-1=(k:Int)by lia];rcases w with _|_|_|w;{exact⟨k,by lia,rfl⟩};{exact⟨k,by lia,rfl⟩};{exact⟨0,by lia,rfl⟩};refine⟨r,by lia,?_⟩;rw[show(if(3:Int)<((w+1+1+1:Nat):Int)then 3 else((w+1+1+1:Nat):Int))=3 by split<;>lia];rfl
  have pf:=pi.few;have pj:=pi.step (p:=p) (by lia) (show k+1<m by lia);refine⟨by lia,aG e ⟨by lia,by lia,?_⟩⟩;rw[show List.map dG ps++[PyData.tuple [iD p,iD (k+1)]]=(ps++[(p,k+1)]).map dG by rw[VJ];rfl];split;{rw[if_pos ⟨by lia,by lia⟩];refine aG rfl (eX (λi=>dG (i,k+1)) rfl (λi hi I hI=>?_) ?_ (by rw[V9];lia));{rfl';exact⟨by lia,hI _ rfl⟩};rfl';have pf2:=pj.few;refine⟨by lia,hJ _ ⟨n,(ps++[(p,k+1)])++(List.range (k+1)).map λi=>(i,k+1),some (.sh,iD (k+1)),some (.sh,iD r),?_,rfl,rfl,(pj.app (M:=k+1) (λe he=>?_) (by rw[V2,V9];exact V4 _)).mono (by lia)⟩⟩;{rw[VJ (l₁:=ps++[(p,k+1)]),V7];rfl};obtain⟨i,hi,rfl⟩:=V5.mp he;have:=VD.mp hi;exact⟨by show i≠k+1;lia,by show i<m;lia,by show k+1<m;lia⟩};exact hJ _ ⟨n,_,some (.sh,iD (k+1)),some (.sh,iD r),rfl,rfl,rfl,pj.mono (by lia)⟩
 rintro _⟨n,ps,o4,o5,rfl,h4,h5,pi⟩;show B _;rw[hB];clear hB B;rw[show m-1+1=m by lia]at pi;refine uS (λE=>∃(ps:Zt),E=[some (.ow true,nD [n]),some (.sh,iD m),some (.sh,iD w),some (.ow false,.list (ps.map dG)),o4,o5,none,none,none]/\PI 900 m m ps) (λJ hJ=>?_) λB hB=>?_;{have skip:=hJ _ ⟨ps,rfl,pi.mono (by lia)⟩;rfl';split;{split;{have pf:=pi.few;rw[show(m:Int)-1=((m-1:Nat):Int)by lia];refine⟨by lia,by lia,hJ _ ⟨ps++[(0,m-1)],by rw[VJ];rfl,(pi.app (M:=1) (λe he=>?_) (V4 _)).mono (by lia)⟩⟩;rw[V6.mp he];exact⟨by show 0≠m-1;lia,by show 0<m;lia,by show m-1<m;lia⟩};exact skip};exact skip};clear pi ps;rintro _⟨ps,rfl,pi⟩;rw[hB];clear hB B;refine uS (λE=>yq λ(n:Nat)(ps:Zt)(o4 o6 o7:Option (Kd×PyData))=>SX (E=[some (.ow true,nD [n]),some (.sh,iD m),some (.sh,iD w),some (.ow false,.list (ps.map dG)),o4,o5,o6,o7,none]) (PI 910 m m ps)) (λJ hJ=>?_) λB hB=>?_;{have skip:=hJ _ ⟨n,ps,o4,none,none,rfl,pi.mono (by lia)⟩;rfl';split;{refine⟨n,7,rfl,by lia,by lia,λr n hr=>?_⟩;rfl';rw[if_pos ⟨by lia,by lia⟩];refine aG rfl ?_;refine n9 (λk E=>yq λ(n:Nat)(ps:Zt)(o4 o6 o7:Option (Kd×PyData))=>Nu (E=[some (.ow true,nD [n]),some (.sh,iD m),some (.sh,iD w),some (.ow false,.list (ps.map dG)),o4,o5,o6,o7,none]) (bA o4=true) (bA o6=true) (bA o7=true) (PI (900+k) m m ps)) ⟨n,ps,o4,none,none,rfl,h4,rfl,rfl,pi⟩ ?_ ?_;{clear pi ps skip h4 o4;rintro J2 k _ hk hJ2⟨n,ps,o4,o6,o7,rfl,h4,h6,h7,pi⟩;simp![h4,h6,h7];refine⟨n,m,rfl,by lia,by lia,λr1 n hr1=>?_⟩;simp![h4,h6,h7];refine⟨n,m,rfl,by lia,by lia,λr2 n hr2=>?_⟩;simp![h4,h6,h7];have pf:=pi.few;by_cases c:r1=r2;{rw[if_neg (λz=>z c)];refine⟨by lia,by lia,⟨by decide,by decide,by decide⟩,by show ps.length+0<=_;lia,hJ2 _ ⟨n,ps,some (.sh,iD k),some (.sh,iD r1),some (.sh,iD r2),?_,rfl,rfl,rfl,pi.mono (by lia)⟩⟩;show [_,_,_,some (_,PyData.list (List.map dG ps++[])),_,_,_,_,_]=_;rw[WO]};rw[if_pos c];refine⟨by lia,by lia,⟨by decide,by decide,by decide⟩,by show ps.length+1<=_;lia,hJ2 _ ⟨n,ps++[(r1,r2)],some (.sh,iD k),some (.sh,iD r1),some (.sh,iD r2),by rw[VJ];rfl,rfl,rfl,rfl,pi.app (M:=1) (λe he=>?_) (V4 _)⟩⟩;rw[V6.mp he];exact⟨c,hr1,hr2⟩};rintro _⟨n,ps,o4,o6,o7,rfl,h4,h6,h7,pi⟩;exact hJ _ ⟨n,ps,o4,o6,o7,rfl,pi.mono (by lia)⟩};exact skip};rintro _⟨n,ps,o4,o6,o7,rfl,pi⟩;rw[hB];clear hB B;rfl';exact q ps n pi
def L8{a b:Nat}:qA [.tuple [iD a,iD b]] P=P .sh (iD (min a b)):=by show P .sh (.int (if(b:Int)<(a:Int)then(b:Int)else(a:Int)))=_;rw[show(if(b:Int)<(a:Int)then(b:Int)else(a:Int))=((min a b:Nat):Int)by split<;>lia]
def MS{a b:Nat}:qO [.tuple [iD a,iD b]] P=P .sh (iD (max a b)):=by show P .sh (.int (if(b:Int)>(a:Int)then(b:Int)else(a:Int)))=_;rw[show(if(b:Int)>(a:Int)then(b:Int)else(a:Int))=((max a b:Nat):Int)by split<;>lia]
def B9{fs:Zt}:dG e∈fs.map dG↔e∈fs:=by constructor;{intro h;obtain⟨f,hf,ef⟩:=V5.mp h;rw[<-MU.mp ef];exact hf};exact λh=>V5.mpr ⟨e,h,rfl⟩
def Dd:bG:=λdd Q x=>∃(n a b:Nat),dd=[nD [n],iD a,iD b]/\1<=a/\a<=b/\b<=7/\∀m es n',a<=m->m<=b->bX m es->Q [nD [n']] .sh (wD m es)
def Qg:∀dd Q x,Dd dd Q x->iL qZ C0 BE (bx [true,false,false] Q x) (ini [true,false,false] dd++List.replicate 8 none):=by
 rintro _ Q x⟨n,a,b,rfl,h1,h2,h3,q⟩;unfold iL;refine aV λB hB=>?_;rfl';refine⟨n,b+1-a,by rw[show((b:Int)+1-(a:Int))=((b+1-a:Nat):Int)by lia],by lia,by lia,λr n hr=>?_⟩;rfl';rw[show(a:Int)+(r:Int)=((a+r:Nat):Int)by lia];obtain⟨m,em⟩:∃m,m=a+r:=⟨_,rfl⟩;rw[<-em];have hm1:a<=m:=by lia
 have hm2:m<=b:=by lia
 clear em hr r;show B _;rw[hB];clear hB B;refine aV λB hB=>?_;rfl';refine⟨by lia,?_⟩;rw[hB];clear hB B;refine aV λB hB=>?_;rfl';refine⟨n,9,rfl,by lia,by lia,λw n hw=>?_⟩;rfl';refine⟨n,m,w,rfl,by lia,by lia,by lia,λps n pi=>?_⟩;rfl';rw[hB];clear hB B;refine aV λB hB=>?_;rfl';refine⟨n,m,rfl,by lia,λms n pm=>?_⟩;rfl';rw[hB];clear hB B;refine aV λB hB=>?_;rfl';refine oj (λi E=>yq λ(fs:Zt)(o7 o8 o9 o10:Option (Kd×PyData))=>CB (E=[some (.ow true,nD [n]),some (.sh,iD a),some (.sh,iD b),some (.sh,iD m),some (.ow false,.list (fs.map dG)),some (.sh,.list (ps.map dG)),some (.ow false,nD ms),o7,o8,o9,o10]) (bA o7=true) (bA o8=true) (bA o9=true) (bA o10=true) (Good m fs) (fs.length<=i) (∀e∈ps.take i,Gr.fR ms e∈fs)) ⟨[],none,none,none,none,rfl,rfl,rfl,rfl,rfl,⟨(λ_ z=>nomatch z),WU⟩,V4 _,λe he=>by simp at he⟩ ?_ ?_
 .rintro J i e _ hi hJ⟨fs,o7,o8,o9,o10,rfl,h7,h8,h9,h10,gd,fl,im⟩;have hl:=pi.ne e (VV hi);have g1:=zW pm hl.2.1;have g2:=zW pm hl.2.2;have ts:ps.take (i+1)=ps.take i++[e]:=by rw[Xj,hi];rfl
  simp![h7,h8,h9,h10,g1.1,g2.1];rw[L8,MS];have ne:ms.getD e.1 0≠ms.getD e.2 0:=λz=>hl.1 (Gr.getD_inj (pm.nodup_iff.mpr Wi) (by rw[pm.length_eq,V9];exact hl.2.1) (by rw[pm.length_eq,V9];exact hl.2.2) z);have ad:(fs.all λa=>dl 8 (dG a))=true:=VW.mpr λ_ _=>rfl;refine⟨by lia,rfl,rfl,by lia,⟨ad,rfl⟩,?_⟩;rw[show PyData.tuple [iD (min (ms.getD e.1 0) (ms.getD e.2 0)),iD (max (ms.getD e.1 0) (ms.getD e.2 0))]=dG (Gr.fR ms e)from rfl];have lti:=aZ hi;have pf:=pi.few;split;{rename_i hn;replace hn:Gr.fR ms e∉fs:=λz=>hn (B9.mpr z);refine⟨by lia,hJ _ ⟨fs++[Gr.fR ms e],_,_,_,_,by rw[VJ];rfl,rfl,rfl,rfl,rfl,gd.put (x:=min (ms.getD e.1 0) (ms.getD e.2 0)) (y:=max (ms.getD e.1 0) (ms.getD e.2 0)) (by lia) (by lia) hn,by rw[VI];simp;lia,?_⟩⟩;rw[ts];intro f hf;rcases VU.mp hf with hf|hf;{exact VU.mpr (.inl (im f hf))};rw[V6.mp hf];exact VU.mpr (.inr (V6.mpr rfl))};rename_i hn;refine hJ _ ⟨fs,_,_,_,_,rfl,rfl,rfl,rfl,rfl,gd,by lia,?_⟩;rw[ts];intro f hf;rcases VU.mp hf with hf|hf;{exact im f hf};rw[V6.mp hf];exact B9.mp (Decidable.not_not.mp hn)
 rintro _⟨fs,o7,o8,o9,o10,rfl,h7,h8,h9,h10,gd,fl,im⟩;show B _;rw[hB];clear hB B;rw[Wd]at im;have pf:=pi.few;rfl';refine Cq (by have h2:=Gr.ko gd;have h7:m<=7:=(by lia);have h8:m*m<=7*7:=Xm h7 h7;lia) λqs pq=>?_;rfl';have cn:ff m fs:=by have c0:=Gr.uE pm (Gr.LV pi.tr);refine(c0.Uh.mono λe he=>?_).conn;obtain⟨e0,h0,rfl⟩:=V5.mp he;exact im e0 h0
 exact⟨by lia,q m qs n hm1 hm2 ⟨by lia,by lia,Gr.Good.perm pq gd,Gr.w6 pq cn⟩⟩
end PB
local macro_rules | `(tactic| symm) => do let h := Lean.mkIdent `hB; let b := Lean.mkIdent `B; `(tactic| (rw [$h:ident]; clear $h $b; refine PB.aV fun $b $h => ?_; rfl'))
local macro_rules | `(tactic| left) => do let h := Lean.mkIdent `hB; let b := Lean.mkIdent `B; `(tactic| (refine PB.aV fun $b $h => ?_; rfl'))
local macro_rules | `(tactic| right) => do let h := Lean.mkIdent `hB; let b := Lean.mkIdent `B; `(tactic| (rw [$h:ident]; clear $h $b; rfl'))
namespace Dv
open PySem L2
def QH{most i:Nat}:xZ most i e D (o::E)=(jb (o::E) i=true/\e D.xc (o::E) λE1 k v=>k.fz=true/\Lu most E1 i v D.nx):=by unfold xZ;congr 1;congr 1;funext E1 k v;congr 1;unfold Lu;refine propext ⟨λ⟨p,ds,es,e1,e2,h,q⟩=>by subst e2;rw[e1];exact⟨h,q⟩,λh=>?_⟩;split at h;{rename_i p ds es e1;exact⟨p,ds,es,e1,rfl,h.1,h.2⟩};exact h.elim
def Sz{most i:Nat}{p:Bool}(h:E[i]?=some (some (.ow p,.list ds)))(hl:ds.length+es.length<=most)(q:Q (E.set i (some (.ow p,.list (ds++es))))):Lu most E i (.list es) Q:=by unfold Lu;rw[h];exact⟨hl,q⟩
end Dv
namespace PB
open PySem L2 Dv Gr
variable{m:Nat}{es:Zt}{ls:A05}
def c9{k:Str}(gd:Good m es):(aq k m es).Nodup:=by unfold aq;refine Xl.mpr ⟨?_,?_,λa ha b hb e=>?_⟩;{split;{exact WU};exact List.Pairwise.map _ (λa b h e=>h (by cases e;rfl)) Wi};{split;{exact WU};exact List.Pairwise.map _ (λa b h e=>h (by cases e;rfl)) gd.nd};subst e;split at ha;{cases ha};obtain⟨x,_,rfl⟩:=V5.mp ha;split at hb;{cases hb};obtain⟨y,_,e⟩:=V5.mp hb;cases e
def CO:bG:=λdd Q x=>∃m es,dd=[wD m es]/\bX m es/\Q [] (.ow false) (.list ((List.range m).map λp=>xg m es p))
def Oi:∀dd Q x,CO dd Q x->oq Dp (bx [false] Q x) (ini [false] dd++List.replicate 1 none):=by
 rintro _ Q x⟨m,es,rfl,W,q⟩;have hm:=W.le;unfold oq;rfl';rw[if_pos (by lia)];refine aG rfl (eX (λp=>xg m es p) rfl (λp hp I hI=>?_) ?_ (by rw[V9];lia))
 .have hp:=VD.mp hp;rfl';refine⟨m,es,p,rfl,W,λk e hk=>?_,λz=>absurd ⟨by lia,by lia⟩ z⟩;have e:p=k:=by lia
  subst e;rfl';exact hI _ rfl
 rfl';exact q
def b9 (m:Nat)(es:Zt)(t u:Th):A05:=(List.range m).filter λp=>decide (td es p t≠td es p u)
def DU:bG:=λdd Q x=>∃m es t u,dd=[.list ((List.range m).map λp=>xg m es p),bU t,bU u]/\m<=60/\TV m t/\TV m u/\Q [] (.ow false) (nD (b9 m es t u))
def Pu:∀dd Q x,DU dd Q x->kC D5 (bx [false,false,false] Q x) (ini [false,false,false] dd++List.replicate 2 none):=by
 rintro _ Q x⟨m,es,t,u,rfl,hm,ht,hu,q⟩;unfold kC;rfl';have ez:(List.range m).zipIdx=(List.range m).map λp=>(p,p):=by refine W8 λi=>?_;rw[Ys,VA];rcases W4 i m with h|h;{rw[VN h];simp};rw[VZ (by rw[V9];exact h)];rfl
 rw[ez,V7];refine tZ (λp=>if decide (td es p t≠td es p u)=true then some (iD p)else none) rfl (λp hp I hI=>?_) ?_ (by rw[V9];lia);{simp![Function.comp];refine⟨m,es,p,t,rfl,ht,?_⟩;rfl';refine⟨m,es,p,u,rfl,hu,?_⟩;simp only[dv,dw,dx,dy,dz,Nat.reduceBEq]at hI⊢;split;{rename_i c;rw[if_pos c]at hI;exact hI _ rfl};rename_i c;rw[if_neg c]at hI;exact hI _ rfl};rw[iY];rfl';exact q
def UG (k:Str):Prop:=k="places"\/k="ties"\/k="all"
def cu (T:List Th):List (Th×Th):=(List.range T.length).flatMap λk=>(T.drop (k+1)).map λu=>(T.getD k (.inl 0),u)
abbrev zJ (m:Nat)(es:Zt)(e:Th×Th):PyData:=.tuple [bU e.1,bU e.2,nD (b9 m es e.1 e.2)]
def vE:bG:=λdd Q x=>∃m es,dd=[wD m es]/\m<=7/\Q [] .sh .none
def OH:∀dd Q x,vE dd Q x->gE (bx [false] Q x) (ini [false] dd++List.replicate 0 none):=by rintro _ Q x⟨m,es,rfl,hm,q⟩;unfold gE;rfl';rw[if_neg (by simp;lia)];exact q
def uY:bG:=λdd Q x=>∃m es k,dd=[wD m es,.str k]/\bX m es/\es.length<=500/\Q [] (.ow false) (.list ((cu (aq k m es)).map (zJ m es)))
def OL:∀dd Q x,uY dd Q x->nS CO v7 DU (bx [false,false] Q x) (ini [false,false] dd++List.replicate 6 none):=by
 rintro _ Q x⟨m,es,k,rfl,W,few,q⟩;have hm:=W.le;unfold nS;left;refine⟨m,es,rfl,W,?_⟩;rfl';symm;refine⟨m,es,k,rfl,W,?_⟩;rfl';have hT:=eS (k:=k) W.gd;have lT:(aq k m es).length<=560:=by
  unfold aq;rw[VI];have a:(if k="ties" then []else(List.range m).map Sum.inl:List Th).length<=60:=by split<;>simp;lia
  have b:(if k="places" then []else es.map Sum.inr:List Th).length<=500:=by split<;>simp;lia
  lia
 generalize aq k m es=T at q hT lT⊢;symm;rw[hB];clear hB B;refine⟨by decide,?_⟩;left;refine oj (λi E=>G4 λ(o5 o6:Option (Kd×PyData))=>Ll (E=[some (.sh,wD m es),some (.sh,.str k),some (.ow false,.list ((List.range m).map λp=>xg m es p)),some (.sh,.list (T.map bU)),some (.ow false,.list (((List.range i).flatMap λk=>(T.drop (k+1)).map λu=>(T.getD k (.inl 0),u)).map (zJ m es))),o5,o6,none]) (bA o5=true) (bA o6=true) (((List.range i).flatMap λk=>(T.drop (k+1)).map λu=>(T.getD k (.inl 0),u)).length<=i*560)) ⟨none,none,rfl,rfl,rfl,W3 _⟩ ?_ ?_
 .rintro J i⟨t,j⟩_ hi hJ⟨o5,o6,rfl,z5,z6,fl⟩;have⟨ti,ej⟩:T[i]?=some t/\j=i:=by
   rw[Ys]at hi;cases h:T[i]? with
   |none=>rw[h]at hi;cases hi
   |some u=>rw[h]at hi;cases hi;exact⟨rfl,by lia⟩
  subst ej;have tv:TV m t:=hT _ (VV ti);have li:=aZ ti;simp![z5,z6,QH];rw[show((j:Int)+1)=((j+1:Nat):Int)by lia,yU];refine eX (λu=>zJ m es (t,u)) rfl (λu hu I hI=>?_) ?_ (by rw[Wk];lia);{have tu:TV m u:=hT _ (List.mem_of_mem_drop hu);rfl';refine⟨m,es,t,u,rfl,hm,tv,tu,?_⟩;rfl';exact⟨by decide,hI _ rfl⟩};rfl';have gj:T.getD j (.inl 0)=t:=by rw[VH,ti];rfl
  have e1:(List.drop (j+1) T).map (λu=>zJ m es (t,u))=((T.drop (j+1)).map λu=>(T.getD j (.inl 0),u)).map (zJ m es):=by rw[V7,gj];rfl
  refine Sz rfl ?_ (hJ _ ⟨some (.sh,iD j),some (.sh,bU t),?_,rfl,rfl,?_⟩);{rw[V2,V2,Wk];lia};{rw[Wc,List.flatMap_append,List.flatMap_cons,List.flatMap_nil,WO,VJ,e1];rfl};rw[Wc,List.flatMap_append,VI,List.flatMap_cons,List.flatMap_nil,WO,V2,Wk];lia
 rintro _⟨o5,o6,rfl,z5,z6,fl⟩;show B _;right;rw[List.length_zipIdx];exact q
abbrev eY:=Th×Th×List Nat
abbrev p3 (e:eY):PyData:=.tuple [bU e.1,bU e.2.1,nD e.2.2]
def CV:bG:=λdd Q x=>∃(l:List eY),dd=[.list (l.map p3)]/\l.length<16777216/\∀k:List eY,k.length<=l.length->(∀e∈k,e∈l)->(∀e∈l,∃f∈k,f.2.2=e.2.2)->(k.map (·.2.2)).Nodup->Q [] (.ow false) (.list (k.map p3))
abbrev Ib (e:eY):PyData×PyData:=(.tuple (e.2.2.map iD),p3 e)
theorem yC:∀{a b:A05},a.map iD=b.map iD->a=b
 |[],[],_=>rfl
 |[],_::_,h=>by cases h
 |_::_,[],h=>by cases h
 |x::a,y::b,h=>by rw[VP,VP]at h;injection h with h1 h2;injection h1 with h1;rw[Int.ofNat.inj h1,yC h2]
def JI{ks:List eY}{a:A05}(h:∀e∈ks,e.2.2≠a):cH (ks.map Ib) (.tuple (a.map iD))=none:=by unfold cH;rw[YG.mpr];{rfl};intro kv hk;obtain⟨e,he,rfl⟩:=V5.mp hk;rw[XD];intro z;injection z with z;exact h e he (yC z)
def Jc{ks:List eY}{a:A05}(h:∃e∈ks,e.2.2=a):∃v,cH (ks.map Ib) (.tuple (a.map iD))=some v:=by
 obtain⟨e,he,rfl⟩:=h;unfold cH;cases c:List.find? (λkv=>decide (kv.1=PyData.tuple (e.2.2.map iD))) (ks.map Ib)with
 |some v=>exact⟨_,rfl⟩
 |none=>have:=YG.mp c (Ib e) (Wz he);exact absurd (Vu rfl) this
def N8:∀dd Q x,CV dd Q x->je (bx [false] Q x) (ini [false] dd++List.replicate 4 none):=by
 rintro _ Q x⟨l,rfl,hl,q⟩;unfold je;left;refine Or.inr ?_;rfl';symm;refine oj (λn E=>Gn λ(ks:List eY)(o2 o3 o4:Option (Kd×PyData))=>CB (E=[some (.sh,.list (l.map p3)),some (.dt false,.dict ((.none,.none)::ks.map Ib)),o2,o3,o4]) (bA o2=true) (bA o3=true) (bA o4=true) (ks.length<=n) ((∀e∈ks,e∈l)) ((∀e∈l.take n,∃f∈ks,f.2.2=e.2.2)) ((ks.map (·.2.2)).Nodup)) ⟨[],none,none,none,rfl,rfl,rfl,rfl,V4 _,(by simp),(by simp),WU⟩ ?_ ?_
 .rintro J n e _ hn hJ⟨ks,o2,o3,o4,rfl,z2,z3,z4,kl,sub,all,AW⟩;have ln:=aZ hn;simp![z2,z3,z4];unfold DA;refine⟨rfl,.sh,e.2.2.map iD,rfl,rfl,by rw[VW];intro d hd;obtain⟨y,_,rfl⟩:=V5.mp hd;rfl,?_⟩;rfl';refine⟨by decide,_,rfl,by rw[V2];show _<16777216;lia,?_⟩;have tk:l.take (n+1)=l.take n++[e]:=by rw[Xj,hn];rfl
  by_cases c:∃f∈ks,f.2.2=e.2.2;{obtain⟨v,hv⟩:=Jc c;refine hJ _ ⟨ks,some (.sh,bU e.1),some (.sh,bU e.2.1),some (.sh,nD e.2.2),?_,rfl,rfl,rfl,by lia,sub,λg hg=>?_,AW⟩;{unfold FW;rw[hv]};rw[tk]at hg;rcases VU.mp hg with z|z;{exact all g z};rw[V6.mp z];exact c};have hv:=JI (ks:=ks) (a:=e.2.2) λf hf z=>c ⟨f,hf,z⟩;refine hJ _ ⟨ks++[e],some (.sh,bU e.1),some (.sh,bU e.2.1),some (.sh,nD e.2.2),?_,rfl,rfl,rfl,?_,λg hg=>?_,λg hg=>?_,?_⟩;{unfold FW;rw[hv,VJ];rfl};{rw[VI];exact Nat.add_le_add_right kl 1};{rcases VU.mp hg with z|z;{exact sub g z};rw[V6.mp z];exact VV hn};{rw[tk]at hg;rcases VU.mp hg with z|z;{obtain⟨f,hf,e1⟩:=all g z;exact⟨f,YX _ hf,e1⟩};rw[V6.mp z];exact⟨e,W5 _ (V6.mpr rfl),rfl⟩};rw[VJ];refine Xl.mpr ⟨AW,WB.mpr ⟨WH,WU⟩,λa ha b hb z=>?_⟩;obtain⟨f,hf,rfl⟩:=V5.mp ha;rw[V6.mp (show b∈[e.2.2]from hb)]at z;exact c ⟨f,hf,z⟩
 rintro _⟨ks,o2,o3,o4,rfl,z2,z3,z4,kl,sub,all,AW⟩;show B _;right;unfold NX;refine⟨_,_,rfl,?_⟩;rw[Wd]at all;have:=q ks kl sub all AW;rw[V7];exact this
end PB
namespace Lp
abbrev Vc:=Nat->Int
def sh (c:Vc):Vc:=λi=>c (i+1)
def ex (D:List Vc->Int):List Vc->List Vc->Int
 |_,[]=>0
 |pre,c::post=>c 0*D ((pre++post).map sh)-ex D (pre++[c]) post
def det:Nat->List Vc->Int
 |0,_=>1
 |m+1,cs=>ex (det m) [] cs
def Ou (D:List Vc->Int) (n:Nat):Prop:=∀(l1 l2:List Vc)(u v w:Vc) (a b:Int),l1.length+1+l2.length=n->(∀i,w i=a*u i+b*v i)->D (l1++w::l2)=a*D (l1++u::l2)+b*D (l1++v::l2)
def Py (D:List Vc->Int) (n:Nat):Prop:=∀(l1 l2:List Vc)(c:Vc),l1.length+2+l2.length=n->D (l1++c::c::l2)=0
section
variable{D:List Vc->Int}{n:Nat}
theorem AY(L:Ou D n)(p1 p2:List Vc)(u v w:Vc) (a b:Int)(e:∀i,w i=a*u i+b*v i):∀(post p2:List Vc),p1.length+1+p2.length+post.length=n+1->ex D (p1++w::p2) post=a*ex D (p1++u::p2) post+b*ex D (p1++v::p2) post
 |[],_,_=>by simp[ex]
 |c::post,p2,h=>by
  have h1:(List.map sh p1).length+1+(List.map sh (p2++post)).length=n:=by simp only[V2,VI,VR]at h⊢;lia
  have l:=L (p1.map sh) ((p2++post).map sh) (sh u) (sh v) (sh w) a b h1 (λi=>e (i+1));have r:=AY L p1 p2 u v w a b e post (p2++[c]) (by simp only[VI,VR,WJ]at h⊢;lia);simp only[ex,Wv,Xn,VJ,VP]at l r⊢;rw[l,r,Int.mul_add,Y4,Y4];rw[XF (c 0) a,XF (c 0) b];lia
theorem Cu(L:Ou D n)(u v w:Vc) (a b:Int)(e:∀i,w i=a*u i+b*v i)(q2:List Vc):∀(q1 pre:List Vc),pre.length+q1.length+1+q2.length=n+1->ex D pre (q1++w::q2)=a*ex D pre (q1++u::q2)+b*ex D pre (q1++v::q2)
 |[],pre,h=>by have r:=AY L pre [] u v w a b e q2 [] (by simp only[WJ]at h⊢;lia);simp only[ex,Xk]at r⊢;rw[r,e 0,Y4,Y4,Int.add_mul,Xo,Xo];lia
 |c::q1,pre,h=>by
  have h1:(List.map sh (pre++q1)).length+1+(List.map sh q2).length=n:=by simp only[V2,VI,VR]at h⊢;lia
  have l:=L ((pre++q1).map sh) (q2.map sh) (sh u) (sh v) (sh w) a b h1 (λi=>e (i+1));have r:=Cu L u v w a b e q2 q1 (pre++[c]) (by simp only[VI,VR,WJ]at h⊢;lia);simp only[ex,Wv,Xn,VJ,VP]at l r⊢;rw[l,r,Int.mul_add,Y4,Y4];rw[XF (c 0) a,XF (c 0) b];lia
theorem AQ(Z:Py D n)(p1:List Vc)(x:Vc):∀(post p2:List Vc),p1.length+2+p2.length+post.length=n+1->ex D (p1++x::x::p2) post=0
 |[],_,_=>rfl
 |c::post,p2,h=>by have l:=Z (p1.map sh) ((p2++post).map sh) (sh x) (by simp only[V2,VI,VR]at h⊢;lia);have r:=AQ Z p1 x post (p2++[c]) (by simp only[VI,VR,WJ]at h⊢;lia);simp only[ex,Wv,Xn,VJ,VP]at l r⊢;rw[l,r];lia
theorem Bx(Z:Py D n)(x:Vc)(q2:List Vc):∀(q1 pre:List Vc),pre.length+q1.length+2+q2.length=n+1->ex D pre (q1++x::x::q2)=0
 |[],pre,h=>by have r:=AQ Z pre x q2 [] (by simp only[WJ]at h⊢;lia);simp only[ex,Xk,Wv,Xn]at r⊢;rw[r];lia
 |c::q1,pre,h=>by have l:=Z ((pre++q1).map sh) (q2.map sh) (sh x) (by simp only[V2,VI,VR]at h⊢;lia);have r:=Bx Z x q2 q1 (pre++[c]) (by simp only[VI,VR,WJ]at h⊢;lia);simp only[ex,Wv,Xn,VJ,VP]at l r⊢;rw[l,r];lia
theorem nE:∀n,Ou (det n) n
 |0=>λl1 l2 u v w a b h e=>by lia
 |n+1=>λl1 l2 u v w a b h e=>Cu (nE n) u v w a b e l2 l1 [] (by simp only[WJ];lia)
theorem mV:∀n,Py (det n) n
 |0=>λl1 l2 c h=>by lia
 |n+1=>λl1 l2 c h=>Bx (mV n) c l2 l1 [] (by simp only[WJ];lia)
def JG{n:Nat}(l1 l2:List Vc)(x y:Vc)(h:l1.length+2+l2.length=n):det n (l1++x::y::l2)=- det n (l1++y::x::l2):=by have z:=mV n l1 l2 (λi=>x i+y i) h;have e1:=nE n l1 ((λi=>x i+y i)::l2) x y (λi=>x i+y i) 1 1 (by simp only[VR];lia) (λi=>by lia);have e2:=nE n (l1++[x]) l2 x y (λi=>x i+y i) 1 1 (by simp only[VI,VR,WJ];lia) (λi=>by lia);have e3:=nE n (l1++[y]) l2 x y (λi=>x i+y i) 1 1 (by simp only[VI,VR,WJ];lia) (λi=>by lia);simp only[Wv,Xn,Xk]at e2 e3;have zx:=mV n l1 l2 x h;have zy:=mV n l1 l2 y h;lia
theorem BR{n:Nat}(c:Vc)(l2:List Vc):∀(mid l1:List Vc),l1.length+2+mid.length+l2.length=n->det n (l1++c::(mid++c::l2))=0
 |[],l1,h=>mV n l1 l2 c (by simp only[WJ]at h;lia)
 |d::mid,l1,h=>by have e:=JG l1 (mid++c::l2) c d (n:=n) (by simp only[VI,VR]at h⊢;lia);have r:=BR c l2 mid (l1++[d]) (n:=n) (by simp only[VI,VR,WJ]at h⊢;lia);simp only[Wv,Xn,Xk]at e r⊢;rw[e,r];rfl
def pV{B:List Vc}{i:Nat}(h:i<B.length)(w:Vc):B.set i w=B.take i++w::B.drop (i+1):=List.set_eq_take_append_cons_drop.trans (if_pos h)
def qB{B:List Vc}{i:Nat}(h:i<B.length){w:Vc}{a b:Int}(e:∀t,w t=a*u t+b*v t):det B.length (B.set i w)=a*det B.length (B.set i u)+b*det B.length (B.set i v):=by rw[pV h,pV h,pV h];exact nE _ _ _ _ _ _ _ _ (by rw[WI,Wk];lia) e
def CC{i j:Nat}(hij:i<j)(hj:j<B.length)(e:B[i]?=B[j]?):det B.length B=0:=by
 have hi:i<B.length:=by lia
 have e1:B=B.take i++B[i]::((B.drop (i+1)).take (j-i-1)++B[i]::B.drop (j+1)):=by
  have ej:B[i]=B[j]:=by rw[VG hi,VG hj]at e;exact Option.some.inj e
  have a1:B=B.take i++B[i]::B.drop (i+1):=by rw[List.getElem_cons_drop,Z0]
  have a2:B.drop (i+1)=(B.drop (i+1)).take (j-i-1)++B[j]::B.drop (j+1):=by
   have:B[j]::B.drop (j+1)=(B.drop (i+1)).drop (j-i-1):=by rw[List.drop_drop,show i+1+(j-i-1)=j by lia,List.getElem_cons_drop]
   rw[this,Z0]
  rw[<-ej]at a2;rw[<-a2];exact a1
 have l:(B.take i).length+2+((B.drop (i+1)).take (j-i-1)).length+(B.drop (j+1)).length=B.length:=by simp only[WI,Wk];lia
 have:=BR B[i] (B.drop (j+1)) ((B.drop (i+1)).take (j-i-1)) (B.take i) l;rwa[<-e1]at this
def sm (n:Nat)(f:Nat->Int):Int:=match n with
 |0=>0
 |n+1=>sm n f+f n
def bB{n:Nat}{f g:Nat->Int}(h:∀k,k<n->f k=g k):sm n f=sm n g:=by
 induction n with
 |zero=>rfl
 |succ n ih=>rw[sm,sm,ih λk hk=>h k (by lia),h n (by lia)]
def tP{n:Nat}{f g:Nat->Int}:sm n (λk=>f k+g k)=sm n f+sm n g:=by
 induction n with
 |zero=>rfl
 |succ n ih=>rw[sm,sm,sm,ih];lia
def jB{n:Nat}{f:Nat->Int}{c:Int}:sm n (λk=>c*f k)=c*sm n f:=by
 induction n with
 |zero=>exact(WM c).symm
 |succ n ih=>rw[sm,sm,ih,Int.mul_add]
def j8{n:Nat}{f:Nat->Int}(h:∀k,k<n->f k=0):sm n f=0:=by
 induction n with
 |zero=>rfl
 |succ n ih=>rw[sm,ih λk hk=>h k (by lia),h n (by lia)];rfl
def pF{n i:Nat}{f:Nat->Int}(hi:i<n)(h:∀k,k<n->k≠i->f k=0):sm n f=f i:=by
 induction n with
 |zero=>lia
 |succ n ih=>rw[sm];by_cases c:i=n;{subst c;rw[j8 λk hk=>h k (by lia) (by lia)];lia};rw[ih (by lia) λk hk=>h k (by lia),h n (by lia) (λz=>c z.symm)];lia
def OA{n i j:Nat}{f:Nat->Int}(hi:i<n)(hj:j<n)(ne:i≠j)(h:∀k,k<n->k≠i->k≠j->f k=0):sm n f=f i+f j:=by
 have e:sm n f=sm n λk=>(if k=i then f k else 0)+(if k=i then 0 else f k):=bB λk _=>by split<;>lia
 rw[e,tP,pF (i:=i) hi λk _ z=>if_neg z,pF (i:=j) hj λk hk z=>by
  by_cases c:k=i
  .rw[if_pos c]
  .rw[if_neg c];exact h k hk c z]
 rw[if_pos rfl,if_neg (Ne.symm ne)]
def uA{n:Nat}{f g:Nat->Int}(h:∀k,k<n->f k<=g k):sm n f<=sm n g:=by
 induction n with
 |zero=>exact Y5 0
 |succ n ih=>rw[sm,sm];have:=ih λk hk=>h k (by lia);have:=h n (by lia);lia
def L6{m n:Nat}{f:Nat->Nat->Int}:sm m (λi=>sm n (λj=>f i j))=sm n λj=>sm m λi=>f i j:=by
 induction m with
 |zero=>exact(j8 λ_ _=>rfl).symm
 |succ m ih=>rw[sm,ih];exact tP.symm
def N9{n:Nat}{f:Nat->Int}(h:0<sm n f):∃k,k<n/\0<f k:=by refine Wn λz=>?_;have:sm n f<=sm n λ_=>0:=uA λk hk=>Wx.mp λy=>z ⟨k,hk,y⟩;rw[j8 (f:=λ_=>0) λ_ _=>rfl]at this;lia
def qh{B:List Vc}{i n:Nat}(h:i<B.length){cf:Nat->Int}{V:Nat->Vc}{w:Vc}(e:∀t,w t=sm n λk=>cf k*V k t):det B.length (B.set i w)=sm n λk=>cf k*det B.length (B.set i (V k)):=by
 induction n generalizing w with
 |zero=>have:=qB h (u:=λ_=>0) (v:=λ_=>0) (w:=w) (a:=0) (b:=0) (λt=>by rw[e t];rfl);rw[this,sm];lia
 |succ n ih=>have:=qB h (u:=λt=>sm n λk=>cf k*V k t) (v:=V n) (w:=w) (a:=1) (b:=cf n) (λt=>by rw[e t,sm];lia);rw[this,sm,ih λ_=>rfl,Int.one_mul]
def Cp{B:List Vc}{i:Nat}(h:i<B.length){c:Int}{w:Vc}(e:∀t,w t=c*v t):det B.length (B.set i w)=c*det B.length (B.set i v):=by have:=qh h (n:=1) (cf:=λ_=>c) (V:=λ_=>v) (w:=w) (λt=>by rw[e t,sm,sm];lia);rw[this,sm,sm];lia
def uN{i j:Nat}(hi:i<B.length)(hj:j<B.length)(ne:i≠j)(e:B[i]?=B[j]?):det B.length B=0:=by rcases Nat.lt_or_gt_of_ne ne with h|h;{exact CC h hj e};exact CC h hi e.symm
def Oj{B:List Vc}{i j:Nat}(hi:i<B.length)(hj:j<B.length)(ne:i≠j)(x y:Vc):det B.length ((B.set i x).set j y)=- det B.length ((B.set i y).set j x):=by
 have z:∀v:Vc,det B.length ((B.set i v).set j v)=0:=λv=>by have:=uN (B:=(B.set i v).set j v) (i:=i) (j:=j) (by simpa using hi) (by simpa using hj) ne (by simp[Wf,ne,Ne.symm ne,hi,hj]);simpa using this
 have l1:∀(v:Vc),det B.length ((B.set i λt=>x t+y t).set j v)=det B.length ((B.set i x).set j v)+det B.length ((B.set i y).set j v):=λv=>by have:=qB (B:=B.set j v) (i:=i) (by simpa using hi) (u:=x) (v:=y) (w:=λt=>x t+y t) (a:=1) (b:=1) (λt=>by lia);simp only[VY]at this;rw[YS _ _ ne,this,YS _ _ ne,YS _ _ ne];lia
 have l2:∀(v:Vc),det B.length ((B.set i v).set j λt=>x t+y t)=det B.length ((B.set i v).set j x)+det B.length ((B.set i v).set j y):=λv=>by have:=qB (B:=B.set i v) (i:=j) (by simpa using hj) (u:=x) (v:=y) (w:=λt=>x t+y t) (a:=1) (b:=1) (λt=>by lia);simp only[VY]at this;rw[this];lia
 have h:=z λt=>x t+y t;rw[l1,l2,l2,z x,z y]at h;lia
def MN{B:List Vc}{r i:Nat}(hr:r<B.length)(hi:i<B.length)(ne:r≠i)(J:∀t,det B.length B*y t=sm B.length λk=>det B.length (B.set k y)*(B.getD k (λ_=>0)) t) : det B.length B*det B.length ((B.set r x).set i y)=det B.length (B.set r x)*det B.length (B.set i y)-det B.length (B.set i x)*det B.length (B.set r y):=by
 have gd:∀{k:Nat},k<B.length->B[k]?=some (B.getD k (λ_=>0)):=λ{k} h=>by rw[VH,VG h];rfl
 have sd:∀{k:Nat},k<B.length->B.set k (B.getD k (λ_=>0))=B:=λ{k} h=>by refine W8 λj=>?_;rw[Wf];by_cases c:k=j;{subst c;rw[if_pos rfl,if_pos h,gd h]};rw[if_neg c]
 have h1:=Cp (B:=B.set r x) (i:=i) (by simpa using hi) (c:=det B.length B) (v:=y) (w:=λt=>det B.length B*y t) (λ_=>rfl);have h2:=qh (B:=B.set r x) (i:=i) (by simpa using hi) (w:=λt=>det B.length B*y t) J;simp only[VY]at h1 h2;rw[<-h1,h2,OA hi hr (Ne.symm ne) λk hk k1 k2=>?_]
 .have e1:(B.set r x).set i (B.getD i λ_=>0)=B.set r x:=by rw[YS _ _ ne,sd hi]
  have e2:det B.length ((B.set r x).set i (B.getD r λ_=>0))=- det B.length (B.set i x):=by rw[Oj hr hi ne,sd hr]
  rw[e1,e2,WN (det B.length (B.set i y)),Int.mul_neg,WN (det B.length (B.set r y))];lia
 have:=uN (B:=(B.set r x).set i (B.getD k λ_=>0)) (i:=i) (j:=k) (by simpa using hi) (by simpa using hk) (Ne.symm k1) (by
  rw[Xa (by simpa using hi),Ws (Ne.symm k1),Ws (Ne.symm k2),gd hk])
 simp only[VY]at this;rw[this,WM]
def un (i:Nat):Vc:=λt=>if t=i then 1 else 0
end
section
variable(m N:Nat)(A:Nat->Vc)
def Bm (b:A05):List Vc:=b.map A++[un m]
def dt (b:A05):Int:=det (m+1) (Bm m A b)
def T (b:A05) (k j:Nat):Int:=det (m+1) ((Bm m A b).set k (A j))
structure Bs(b:A05):Prop where
 len:b.length=m
 lt:∀c∈b,c<N
 pos:0<dt m A b
 J:∀j t,dt m A b*A j t=sm (m+1) λk=>T m A b k j*(Bm m A b).getD k (λ_=>0) t
 rhs:∀k,k<m->0<=T m A b k N
end
section
variable{m N:Nat}{A:Nat->Vc}{b:A05}
def mE(h:b.length=m):(Bm m A b).length=m+1:=by unfold Bm;rw[VI,V2,h];rfl
def mS(h:b.length=m){k:Nat}(hk:k<m):(Bm m A b).getD k (λ_=>0)=A (b.getD k 0):=by
 have hb:k<b.length:=by lia
 unfold Bm;rw[VH,XJ (by rw[V2];exact hb),VA,VH,VG hb];rfl
def j5(h:b.length=m):(Bm m A b).getD m (λ_=>0)=un m:=by unfold Bm;rw[VH,Xd (by rw[V2];lia),V2,h,Nat.sub_self];rfl
def t7(h:b.length=m){r c:Nat}(hr:r<m):Bm m A (b.set r c)=(Bm m A b).set r (A c):=by unfold Bm;rw[Z9,List.set_append,if_pos (by rw[V2];lia)]
def zo{l:List Vc}{k:Nat}(h:k<l.length):l[k]?=some (l.getD k (λ_=>0)):=by rw[VH,VG h];rfl
def uI{l:List Vc}{k:Nat}(h:k<l.length):l.set k (l.getD k (λ_=>0))=l:=by refine W8 λj=>?_;rw[Wf];by_cases c:k=j;{subst c;rw[if_pos rfl,if_pos h,zo h]};rw[if_neg c]
def uu(h:b.length=m){i k:Nat}(hi:i<m+1)(hk:k<m):T m A b i (b.getD k 0)=if i=k then dt m A b else 0:=by
 have l:=mE (A:=A) h;unfold T dt;rw[<-mS (A:=A) h hk];split;{rename_i e;subst e;rw[uI (by lia)]};rename_i ne;have:=uN (B:=(Bm m A b).set i ((Bm m A b).getD k λ_=>0)) (i:=i) (j:=k) (by rw[VY];lia) (by rw[VY];lia) ne (by
  rw[Xa (by lia),Ws ne,zo (by lia)])
 rw[VY,l]at this;exact this
def Bs.nd(H:Bs m N A b){i k:Nat}(hi:i<m)(hk:k<m)(e:b.getD i 0=b.getD k 0):i=k:=by refine Wn λne=>?_;have h1:=uu (A:=A) H.len (i:=i) (k:=k) (by lia) hk;rw[if_neg ne,<-e,uu (A:=A) H.len (by lia) hi,if_pos rfl]at h1;have:=H.pos;lia
def gs{l:A05}{r c k:Nat}(hr:r<l.length):(l.set r c).getD k 0=if k=r then c else l.getD k 0:=by rw[VH,Wf];by_cases e:r=k;{rw[if_pos e,if_pos hr,if_pos e.symm];rfl};rw[if_neg e,if_neg (Ne.symm e),VH]
def xW(H:Bs m N A b){r c:Nat}(hr:r<m):dt m A (b.set r c)=T m A b r c:=by unfold dt T;rw[t7 H.len hr]
def qQ(H:Bs m N A b){r c:Nat}(hr:r<m) (j:Nat):T m A (b.set r c) r j=T m A b r j:=by unfold T;rw[t7 H.len hr,Z2]
def uT(H:Bs m N A b){r c k:Nat}(hr:r<m)(hk:k<m+1)(ne:k≠r) (j:Nat):dt m A b*T m A (b.set r c) k j=T m A b r c*T m A b k j-T m A b k c*T m A b r j:=by have l:=mE (A:=A) H.len;have:=MN (B:=Bm m A b) (r:=r) (i:=k) (x:=A c) (y:=A j) (by lia) (by lia) (Ne.symm ne) (by rw[l];exact H.J j);rw[l]at this;unfold T dt;rw[t7 H.len hr];exact this
def U6(H:Bs m N A b){r c:Nat}(hr:r<m)(hc:c<N)(hp:0<T m A b r c)(rat:∀k,k<m->0<T m A b k c->T m A b r N*T m A b k c<=T m A b k N*T m A b r c):Bs m N A (b.set r c):=by
 have hb:r<b.length:=by rw[H.len];exact hr
 have dp:=H.pos;refine⟨by rw[VY];exact H.len,λx hx=>?_,by rw[xW H hr];exact hp,λj t=>?_,λk hk=>?_⟩;{rcases List.mem_or_eq_of_mem_set hx with z|z;{exact H.lt x z};rw[z];exact hc}
 .have hd:dt m A b≠0:=by lia
  refine Int.eq_of_mul_eq_mul_left hd ?_;have ls:(b.set r c).length=m:=by rw[VY];exact H.len
  rw[<-jB,xW H hr];have e:∀k,k<m+1->dt m A b*(T m A (b.set r c) k j*(Bm m A (b.set r c)).getD k (λ_=>0) t)=(T m A b r c*(T m A b k j*(Bm m A b).getD k (λ_=>0) t) + - T m A b r j*(T m A b k c*(Bm m A b).getD k (λ_=>0) t))+(if k=r then T m A b r j*(dt m A b*A c t)else 0):=λk hk=>by
   by_cases z:k=r
   .subst z;rw[if_pos rfl,qQ H hr,mS ls hr,gs hb,if_pos rfl,XF (dt m A b)];have:T m A b k c*(T m A b k j*(Bm m A b).getD k (λ_=>0) t) + - T m A b k j*(T m A b k c*(Bm m A b).getD k (λ_=>0) t)=0:=by rw[Int.neg_mul,XF (T m A b k c)];lia
    rw[this,Int.zero_add]
   rw[if_neg z,Int.add_zero,<-Xo,uT H hr hk z];have eB:(Bm m A (b.set r c)).getD k (λ_=>0)=(Bm m A b).getD k (λ_=>0):=by rw[t7 H.len hr,VH,Ws (Ne.symm z),<-VH]
   rw[eB,Int.sub_mul,Int.neg_mul,Xo,<-Xo (T m A b r j),WN (T m A b r j),Int.sub_eq_add_neg]
  rw[bB e,tP,tP,jB,jB,<-H.J j t,<-H.J c t,pF (i:=r) (by lia) λk _ z=>if_neg z,if_pos rfl,Int.neg_mul,XF (dt m A b)];lia
 by_cases z:k=r;{subst z;rw[qQ H hr];exact H.rhs k hk};have e:=uT H hr (c:=c) (by lia) z N;have h1:=H.rhs k hk;have h2:=H.rhs r hr;refine Wn λneg=>?_;have neg:T m A (b.set r c) k N<0:=Int.not_le.mp neg;have h3:=Int.mul_neg_of_pos_of_neg dp neg;rw[e]at h3;by_cases q:0<T m A b k c;{have:=rat k hk q;rw[WN (T m A b r c),WN (T m A b k c)]at h3;lia};have a1:=Int.mul_nonneg (Y6 hp) h1;have a2:T m A b k c*T m A b r N<=0:=ZA (Wx.mp q) h2;lia
end
section
variable(m N:Nat)(A:Nat->Vc)
structure BL(b:A05) (s r:Nat):Prop where
 sN:s<N
 neg:T m A b m s<0
 fst:∀j,j<s->0<=T m A b m j
 rm:r<m
 pos:0<T m A b r s
 rat:∀k,k<m->0<T m A b k s->T m A b r N*T m A b k s<=T m A b k N*T m A b r s
 UN:∀k,k<m->0<T m A b k s->T m A b r N*T m A b k s=T m A b k N*T m A b r s->b.getD r 0<=b.getD k 0
end
section
variable{m N:Nat}{A:Nat->Vc}
def BL.bs{s r:Nat}(S:BL m N A b s r)(H:Bs m N A b):Bs m N A (b.set r s):=U6 H S.rm S.sN S.pos S.rat
def nO{a b c d e f:Int}(pd:0<d)(pf:0<f)(pb:0<b)(h1:a*d<=c*b)(h2:c*f<=e*d):a*f<=e*b:=by refine Int.le_of_mul_le_mul_left ?_ pd;have g1:=Zj h1 (Y6 pf);have g2:=Zj h2 (Y6 pb);rw[show d*(a*f)=a*d*f by rw[XF,Xo]];rw[show d*(e*b)=e*d*b by rw[XF,Xo]];rw[show c*b*f=c*f*b by rw[Int.mul_right_comm]]at g1;lia
structure gJ(m N:Nat)(A:Nat->Vc)(b:Nat->A05)(s r:Nat->Nat) (L:Nat):Prop where
 bs:∀t,Bs m N A (b t)
 st:∀t,BL m N A (b t) (s t) (r t)
 nx:∀t,b (t+1)=(b t).set (r t) (s t)
 pL:0<L
 pb:∀t,b (t+L)=b t
 ps:∀t,s (t+L)=s t
 pr:∀t,r (t+L)=r t
section
variable{b:Nat->A05}{s r:Nat->Nat}{L:Nat}
def gJ.dn(R:gJ m N A b s r L) (t:Nat):dt m A (b (t+1))=T m A (b t) (r t) (s t):=by rw[R.nx t];exact xW (R.bs t) (R.st t).rm
def gJ.zn(R:gJ m N A b s r L) (t:Nat):dt m A (b t)*T m A (b (t+1)) m N=T m A (b t) m N*dt m A (b (t+1))-T m A (b t) m (s t)*T m A (b t) (r t) N:=by have e:=uT (R.bs t) (R.st t).rm (c:=s t) (k:=m) (by lia) (by have:=(R.st t).rm;lia) N;rw[<-R.nx t]at e;rw[e,R.dn t,WN (T m A (b t) m N)]
def gJ.up1(R:gJ m N A b s r L) (t:Nat):T m A (b t) m N*dt m A (b (t+1))<=T m A (b (t+1)) m N*dt m A (b t):=by have e:=R.zn t;have h:=ZA (Y6 (R.st t).neg) ((R.bs t).rhs _ (R.st t).rm);rw[WN (T m A (b (t+1)) m N),e];lia
theorem gJ.up(R:gJ m N A b s r L) (t:Nat):∀k,T m A (b t) m N*dt m A (b (t+k))<=T m A (b (t+k)) m N*dt m A (b t)
 |0=>Y5 _
 |k+1=>nO (R.bs (t+k)).pos (R.bs (t+k+1)).pos (R.bs t).pos (R.up t k) (R.up1 (t+k))
def gJ.yL(R:gJ m N A b s r L) (t:Nat):T m A (b t) (r t) N=0:=by
 refine Wn λne=>?_;have p:0<T m A (b t) (r t) N:=by have:=(R.bs t).rhs _ (R.st t).rm;lia
 have h:=R.up (t+1) (L-1);have pL:=R.pL;rw[show t+1+(L-1)=t+L by lia,R.pb t]at h;have e:=R.zn t;have g:=Int.mul_neg_of_neg_of_pos (R.st t).neg p;rw[WN (T m A (b (t+1)) m N)]at h;lia
def gJ.Ur(R:gJ m N A b s r L) (t:Nat){k:Nat}(hk:k<m)(h:T m A (b t) k N=0):T m A (b (t+1)) k N=0:=by by_cases c:k=r t;{rw[R.nx t,c,qQ (R.bs t) (R.st t).rm];exact R.yL t};have e:=uT (R.bs t) (R.st t).rm (c:=s t) (k:=k) (by lia) c N;rw[<-R.nx t,R.yL t,h,WM,WM]at e;have:=(R.bs t).pos;rcases Int.mul_eq_zero.mp e with z|z<;>lia
theorem gJ.row(R:gJ m N A b s r L) (t k:Nat)(hk:k<m):∀n,(b (t+n)).getD k 0=(b t).getD k 0\/∃u,u<n/\(b (t+n)).getD k 0=s (t+u)/\T m A (b (t+n)) k N=0
 |0=>.inl rfl
 |n+1=>by have hl:=(R.bs (t+n)).len;have hr:=(R.st (t+n)).rm;rw[<-XW,R.nx (t+n),gs (by lia)];by_cases c:k=r (t+n);{rw[if_pos c];refine .inr ⟨n,by lia,rfl,?_⟩;rw[c,qQ (R.bs _) hr];exact R.yL _};rw[if_neg c,<-R.nx (t+n)];rcases R.row t k hk n with h|⟨u,hu,h,z⟩;{exact .inl h};exact .inr ⟨u,by lia,h,R.Ur (t+n) hk z⟩
theorem first{P:Nat->Prop}:∀n,P n->∃k,k<=n/\P k/\∀j,j<k->¬P j
 |0,h=>⟨0,V4 0,h,λj hj=>by lia⟩
 |n+1,h=>by
  by_cases c:∃j,j<=n/\P j
  .obtain⟨j,hj,pj⟩:=c;have⟨k,hk,pk,f⟩:=first (P:=P) j pj
   exact⟨k,by lia,pk,f⟩
  exact⟨n+1,V4 _,h,λj hj pj=>c ⟨j,by lia,pj⟩⟩
termination_by n=>n
theorem gJ.keep(R:gJ m N A b s r L) (t k:Nat):∀n,(∀j,j<n->r (t+j)≠k)->(b (t+n)).getD k 0=(b t).getD k 0
 |0,_=>rfl
 |n+1,h=>by have hl:=(R.bs (t+n)).len;have hr:=(R.st (t+n)).rm;rw[<-XW,R.nx (t+n),gs (by lia),if_neg (λe=>h n (by lia) e.symm)];exact R.keep t k n λj hj=>h j (by lia)
theorem gJ.SN(R:gJ m N A b s r L) (t:Nat):∀n,s (t+n*L)=s t
 |0=>by rw[Nat.zero_mul];rfl
 |n+1=>by rw[Nat.add_mul,Nat.one_mul,<-XW,R.ps,R.SN t n]
theorem most(f:Nat->Nat):∀L,0<L->∃p,p<L/\∀t,t<L->f t<=f p
 |1,_=>⟨0,by lia,λt ht=>by rw[show t=0 by lia];exact V4 _⟩
 |L+2,_=>by have⟨p,hp,h⟩:=most f (L+1) (by lia);by_cases c:f (L+1)<=f p;{exact⟨p,by lia,λt ht=>if e:t=L+1 then e▸c else h t (by lia)⟩};exact⟨L+1,by lia,λt ht=>if e:t=L+1 then e▸V4 _ else by have:=h t (by lia);lia⟩
def two(P:Bs m N A p)(Q:Bs m N A q) (x:Nat):dt m A q*T m A p m x=sm m (λk=>T m A q k x*T m A p m (q.getD k 0))+T m A q m x*dt m A p:=by
 have lp:=mE (A:=A) P.len;have h1:=Cp (B:=Bm m A p) (i:=m) (by lia) (c:=dt m A q) (v:=A x) (w:=λt=>dt m A q*A x t) (λ_=>rfl);have h2:=qh (B:=Bm m A p) (i:=m) (by lia) (w:=λt=>dt m A q*A x t) (Q.J x);rw[lp]at h1 h2;have e:T m A p m x=det (m+1) ((Bm m A p).set m (A x)):=rfl;rw[e,<-h1,h2,sm];have e1:det (m+1) ((Bm m A p).set m ((Bm m A q).getD m λ_=>0))=dt m A p:=by rw[j5 Q.len,<-j5 (A:=A) P.len,uI (by lia)];rfl
 rw[e1,bB λk hk=>by rw[mS Q.len hk]];rfl
def gJ.no(R:gJ m N A b s r L):False:=by
 have pL:=R.pL;have⟨p,hp,hm⟩:=most s L pL;have hmax:∀t,s t<=s p:=λt=>by have:=R.SN (t%L) (t/L);rw[Nat.mul_comm,Nat.mod_add_div]at this;rw[this];exact hm _ (X6 _ pL)
 have⟨n,hn,en,fn⟩:=first (P:=λn=>r (p+1+n)=r p) (L-1) (by
  show r (p+1+(L-1))=r p;rw[show p+1+(L-1)=p+L by lia,R.pr])
 have Sp:=R.st p;have Bp:=R.bs p;have Bq:=R.bs (p+1+n);have Sq:=R.st (p+1+n);have lp:=Bp.len;have lq:=Bq.len;have hc:(b (p+1+n)).getD (r p) 0=s p:=by rw[R.keep (p+1) (r p) n fn,R.nx p,gs (by have:=Sp.rm;lia),if_pos rfl]
 have sN:s (p+1+n)≠s p:=λe=>by have:=uu (A:=A) Bq.len (i:=m) (k:=r p) (by lia) Sp.rm;rw[hc,<-e,if_neg (by have:=Sp.rm;lia)]at this;have:=Sq.neg;lia
 have sl:s (p+1+n)<s p:=by have:=hmax (p+1+n);lia
 have h:=two Bp Bq (s (p+1+n));have h1:=Int.mul_nonneg (Y6 Bq.pos) (Sp.fst _ sl);have h2:=Int.mul_neg_of_neg_of_pos Sq.neg Bp.pos;have⟨k,hk,pk⟩:=N9 (n:=m) (f:=λk=>T m A (b (p+1+n)) k (s (p+1+n))*T m A (b p) m ((b (p+1+n)).getD k 0)) (by lia);have nb:T m A (b p) m ((b (p+1+n)).getD k 0)≠0:=λz=>by rw[z,WM]at pk;lia
 rcases R.row p k hk (1+n)with z|⟨u,hu,z,yL⟩;{rw[<-XW]at z;rw[z]at nb;refine nb ?_;rw[uu (A:=A) Bp.len (by lia) hk,if_neg (by lia)]};rw[<-XW]at z yL;have le:=hmax (p+u);rw[<-z]at le;by_cases c:(b (p+1+n)).getD k 0=s p;{have ek:=Bq.nd hk Sp.rm (c.trans hc.symm);subst ek;rw[c]at pk;have s1:=Sq.pos;rw[en]at s1;have:=Int.mul_neg_of_pos_of_neg s1 Sp.neg;lia};have a1:=Sp.fst _ (show(b (p+1+n)).getD k 0<s p by lia);have a2:0<T m A (b (p+1+n)) k (s (p+1+n)):=by refine Int.not_le.mp λy=>?_;have:=ZA y a1;lia
 have:=Sq.UN k hk a2 (by rw[R.yL,yL,ZC,ZC]);rw[en,hc]at this;lia
end
end
def cd (N:Nat):A05->Nat
 |[]=>0
 |x::l=>x+N*cd N l
theorem KL{N:Nat}:∀l:A05,(∀x∈l,x<N)->cd N l<N^l.length
 |[],_=>by show 0<1;decide
 |x::l,h=>by have h1:=KL l λy hy=>h y (V8 _ hy);have h2:=h x V3;have h3:=Nat.mul_le_mul_left N (show cd N l+1<=N^l.length by lia);rw[VR,Nat.pow_succ,Nat.mul_comm _ N];rw[Nat.mul_add]at h3;show x+N*cd N l<_;lia
theorem EW{N:Nat}:∀l k:A05,l.length=k.length->(∀x∈l,x<N)->(∀x∈k,x<N)->cd N l=cd N k->l=k
 |[],[],_,_,_,_=>rfl
 |x::l,y::k,e,h1,h2,h=>by
  have x1:=h1 x V3;have y1:=h2 y V3;have h:x+N*cd N l=y+N*cd N k:=h;have ex:x=y:=by have:=congrArg (·%N) h;rwa[Zd,Zd,ZD x1,ZD y1]at this
  subst ex;have:cd N l=cd N k:=Nat.eq_of_mul_eq_mul_left (show 0<N by lia) (by lia);rw[EW l k (by simpa using e) (λz hz=>h1 z (V8 _ hz)) (λz hz=>h2 z (V8 _ hz)) this]
theorem Te:∀(n:Nat)(f:Nat->Nat) (t:Nat),(∀u,u<t->f u<n)->n<t->∃i j,i<j/\j<t/\f i=f j
 |0,f,t,h,ht=>absurd (h 0 ht) (WX _)
 |n+1,f,t+1,h,ht=>by
  by_cases c:∃i,i<t/\f i=f t;{obtain⟨i,hi,e⟩:=c;exact⟨i,t,hi,by lia,e⟩};have⟨i,j,hij,hj,e⟩:=Te n (λu=>if f u=n then f t else f u) t (λu hu=>by
   have h1:=h u (by lia)
   have h2:=h t (by lia)
   have h3:f u≠f t:=λe=>c ⟨u,hu,e⟩
   split<;>lia) (by lia)
  have n1:f i≠f t:=λe=>c ⟨i,by lia,e⟩;have n2:f j≠f t:=λe=>c ⟨j,by lia,e⟩;refine⟨i,j,hij,by lia,?_⟩;split at e<;>split at e<;>lia
section
variable{m N:Nat}{A:Nat->Vc}
inductive Run(m N:Nat)(A:Nat->Vc)(b0:A05) (t:Nat)(b:A05):Prop
 |mk (f s r:Nat->Nat->Nat)(g:Nat->A05)(e0:g 0=b0)(et:g t=b)(st:∀u,u<t->BL m N A (g u) (s u 0) (r u 0))(nx:∀u,u<t->g (u+1)=(g u).set (r u 0) (s u 0)):Run m N A b0 t b
def Run.zero(b0:A05):Run m N A b0 0 b0:=⟨λ_ _=>0,λ_ _=>0,λ_ _=>0,λ_=>b0,rfl,rfl,λu h=>by lia,λu h=>by lia⟩
def Run.snoc{t s r:Nat}(R:Run m N A b0 t b)(S:BL m N A b s r):Run m N A b0 (t+1) (b.set r s):=by obtain⟨_,s',r',g,e0,et,st,nx⟩:=R;refine⟨λ_ _=>0,λu _=>if u=t then s else s' u 0,λu _=>if u=t then r else r' u 0,λu=>if u=t+1 then b.set r s else g u,?_,?_,λu hu=>?_,λu hu=>?_⟩;{rw[if_neg (by lia)];exact e0};{rw[if_pos rfl]};{rw[if_neg (show ¬u=t+1 by lia)];by_cases c:u=t;{subst c;rw[if_pos rfl,if_pos rfl,et];exact S};rw[if_neg c,if_neg c];exact st u (by lia)};rw[if_neg (show ¬u=t+1 by lia)];by_cases c:u=t;{subst c;rw[if_pos rfl,if_pos rfl,if_pos rfl,et]};rw[if_neg c,if_neg c,if_neg (by lia)];exact nx u (by lia)
def Run.short{t:Nat}(R:Run m N A b0 t b)(B:Bs m N A b0):t<N^m/\Bs m N A b:=by
 obtain⟨_,s,r,g,e0,et,st,nx⟩:=R;have bs:∀u,u<=t->Bs m N A (g u):=λu=>by
  induction u with
  |zero=>intro _;rw[e0];exact B
  |succ u ih=>intro hu;rw[nx u (by lia)];exact(st u (by lia)).bs (ih (by lia))
 refine⟨Nat.not_le.mp λh=>?_,et▸bs t (V4 _)⟩;have⟨i,j,hij,hj,e⟩:=Te (N^m) (λu=>cd N (g u)) (t+1) (λu hu=>by
  have b:=bs u (by lia)
  have:=KL (g u) b.lt;rwa[b.len]at this) (by lia)
 have bi:=bs i (by lia);have bj:=bs j (by lia);have eg:g i=g j:=EW _ _ (bi.len.trans bj.len.symm) bi.lt bj.lt e;have pL:0<j-i:=by lia
 have md:∀u,i+u%(j-i)<j:=λu=>by have:=X6 u pL;lia
 refine gJ.no (m:=m) (N:=N) (A:=A) (b:=λu=>g (i+u%(j-i))) (s:=λu=>s (i+u%(j-i)) 0) (r:=λu=>r (i+u%(j-i)) 0) (L:=j-i) ⟨λu=>bs _ (by have:=md u;lia),λu=>st _ (by have:=md u;lia),λu=>?_,pL,λu=>?_,λu=>?_,λu=>?_⟩
 .rw[<-nx _ (by have:=md u;lia)];by_cases c:u%(j-i)+1<j-i
  .have:(u+1)%(j-i)=u%(j-i)+1:=by rw[Nat.add_mod,ZD (show 1<j-i by lia),ZD c]
   rw[this];rfl
  have h1:u%(j-i)+1=j-i:=by have:=X6 u pL;lia
  have:(u+1)%(j-i)=0:=by rw[<-Nat.mod_add_div u (j-i),Nat.add_right_comm,h1,Zd,Nat.mod_self]
  rw[this,show i+0=i from rfl,eg,show i+u%(j-i)+1=j by lia]
 all_goals rw[Nat.add_mod_right]
theorem Cf:∀(post pre:List Vc),(∀c∈post,c 0=0)->ex D pre post=0
 |[],_,_=>rfl
 |c::post,pre,h=>by rw[ex,h c V3,Cf post _ λx hx=>h x (V8 _ hx)];lia
theorem yN:∀n:Nat,det n ((List.range n).map un)=1
 |0=>rfl
 |n+1=>by
  rw[List.range_succ_eq_map,VP,V7,det,ex,Cf _ _ λc hc=>by
   obtain⟨k,_,e⟩:=V5.mp hc;rw[<-e];rfl]
  have:List.map sh ([]++List.map (un∘Nat.succ) (List.range n))=(List.range n).map un:=by
   rw[Xk,V7];refine Vx λk _=>funext λt=>?_;show(if t+1=k+1 then(1:Int)else 0)=if t=k then 1 else 0
   by_cases c:t=k;{rw[if_pos c,if_pos (by lia)]};rw[if_neg c,if_neg (by lia)]
  rw[this,yN n];rfl
def Dg{n:Nat}{v:Vc}{t:Nat}(h:t<n\/v t=0):v t=sm n λk=>v k*un k t:=by by_cases c:t<n;{rw[pF c λk _ z=>by rw[un,if_neg (Ne.symm z),WM],un,if_pos rfl,XI]};rw[j8 λk hk=>by rw[un,if_neg (by lia),WM]];exact h.resolve_left c
def zk{n k:Nat}(h:k<n):((List.range n).map un).getD k (λ_=>0)=un k:=by rw[VH,VA,VN h];rfl
def Mw{n k:Nat}(hk:k<n)(h:∀t,n<=t->v t=0):det n (((List.range n).map un).set k v)=v k:=by
 have l:((List.range n).map un).length=n:=by rw[V2,V9]
 have:=qh (B:=(List.range n).map un) (i:=k) (by lia) (n:=n) (cf:=v) (V:=un) (w:=v) (λt=>Dg (by
  by_cases c:t<n
  .exact .inl c
  .exact .inr (h t (by lia))))
 rw[l]at this;rw[this,pF hk λi hi z=>?_]
 .have e:((List.range n).map un).set k (un k)=(List.range n).map un:=by have:=uI (l:=(List.range n).map un) (k:=k) (by lia);rwa[zk hk]at this
  rw[e,yN,XI]
 have:=uN (B:=((List.range n).map un).set k (un i)) (i:=k) (j:=i) (by rw[VY];lia) (by rw[VY];lia) (Ne.symm z) (by
  rw[Xa (by lia),Ws (Ne.symm z),zo (by lia),zk hi])
 rw[VY,l]at this;rw[this,WM]
structure Pb(m n:Nat)(A:Nat->Vc):Prop where
 out:∀j t,m<t->A j t=0
 bin:∀j t,j<n->t<m->A j t=0\/A j t=1
 nz:∀j,j<n->∃t,t<m/\A j t=1
 gl:∀j,j<n->A j m=-1
 un:∀k,k<m->A (n+k)=un k
 one:∀t,t<m->A (n+m) t=1
 top:A (n+m) m=0
variable{n:Nat}
def Pb.ND(P:Pb m n A):Bm m A ((List.range m).map (n+·))=(List.range (m+1)).map Lp.un:=by rw[Bm,Wc,VJ,V7];congr 1;exact Vx λk hk=>P.un k (VD.mp hk)
def Pb.t0(P:Pb m n A){k:Nat}(hk:k<m+1) (j:Nat):T m A ((List.range m).map (n+·)) k j=A j k:=by rw[T,P.ND,Mw hk λt ht=>P.out j t (by lia)]
def Pb.d0(P:Pb m n A):dt m A ((List.range m).map (n+·))=1:=by rw[dt,P.ND,yN]
def Pb.S5(P:Pb m n A):Bs m (n+m) A ((List.range m).map (n+·)):=by refine⟨by rw[V2,V9],λc hc=>?_,by rw[P.d0];decide,λj t=>?_,λk hk=>?_⟩;{obtain⟨k,hk,e⟩:=V5.mp hc;have:=VD.mp hk;lia};{rw[P.d0,Int.one_mul,P.ND,bB λk hk=>by rw[P.t0 hk,zk hk]];refine Dg ?_;by_cases c:t<m+1;{exact .inl c};exact .inr (P.out j t (by lia))};rw[P.t0 (by lia),P.one k hk];decide
variable{b:A05}
def Pb.OU(P:Pb m n A)(B:Bs m (n+m) A b) (j:Nat):T m A b m j=sm m (λk=>A j k*T m A b m (n+k))+A j m*dt m A b:=by
 have l:=mE (A:=A) B.len;have:=qh (B:=Bm m A b) (i:=m) (by lia) (n:=m+1) (cf:=A j) (V:=Lp.un) (w:=A j) (λt=>Dg (by
  by_cases c:t<m+1
  .exact .inl c
  .exact .inr (P.out j t (by lia))))
 rw[l]at this;have e:T m A b m j=det (m+1) ((Bm m A b).set m (A j)):=rfl;rw[e,this,sm,<-j5 (A:=A) B.len,uI (by lia)];congr 1;refine bB λk hk=>?_;rw[<-P.un k hk];rfl
def Pb.OZ(P:Pb m n A)(B:Bs m (n+m) A b){j:Nat}(hj:j<n):T m A b m j=sm m (λk=>A j k*T m A b m (n+k))-dt m A b:=by rw[P.OU B,P.gl j hj];lia
def Pb.Tv(P:Pb m n A)(B:Bs m (n+m) A b):T m A b m (n+m)=sm m λk=>T m A b m (n+k):=by rw[P.OU B,P.top,bB λk hk=>by rw[P.one k hk,Int.one_mul]];lia
def Pb.goal(P:Pb m n A)(B:Bs m (n+m) A b):T m A b m (n+m)=sm m λk=>if b.getD k 0<n then T m A b k (n+m)else 0:=by
 have h:=B.J (n+m) m;rw[P.top,WM,sm,j5 B.len,Lp.un,if_pos rfl,XI,bB λk hk=>by rw[mS B.len hk]]at h;have e:(sm m λk=>T m A b k (n+m)*A (b.getD k 0) m)=- sm m λk=>if b.getD k 0<n then T m A b k (n+m)else 0:=by
  rw[show(- sm m λk=>if b.getD k 0<n then T m A b k (n+m)else 0)=(-1)*sm m λk=>if b.getD k 0<n then T m A b k (n+m)else 0 by lia,<-jB];refine bB λk hk=>?_;have hb:=B.lt (b.getD k 0) (by
   rw[VH,VG (by rw[B.len];exact hk)]
   exact XU _)
  by_cases c:b.getD k 0<n;{rw[if_pos c,P.gl _ c];lia};rw[if_neg c,show b.getD k 0=n+(b.getD k 0-n)by lia,P.un _ (by lia),Lp.un,if_neg (by lia)];lia
 lia
def Pb.place(P:Pb m n A)(B:Bs m (n+m) A b){t:Nat}(ht:t<m):(sm m λk=>if b.getD k 0<n then T m A b k (n+m)*A (b.getD k 0) t else 0)<=dt m A b:=by
 have h:=B.J (n+m) t;rw[P.one t ht,XI,sm,j5 B.len,Lp.un,if_neg (by lia),WM,Int.add_zero,bB λk hk=>by rw[mS B.len hk]]at h;rw[h];refine uA λk hk=>?_;have hb:=B.lt (b.getD k 0) (by
  rw[VH,VG (by rw[B.len];exact hk)]
  exact XU _)
 by_cases c:b.getD k 0<n;{rw[if_pos c];exact Y5 _};rw[if_neg c,show b.getD k 0=n+(b.getD k 0-n)by lia,P.un _ (by lia),Lp.un];split;{rw[XI];exact B.rhs k hk};rw[WM];exact Y5 _
def Pb.bound(P:Pb m n A)(B:Bs m (n+m) A b){s:Nat}(hs:s<n+m):∃k,k<m/\0<T m A b k s:=by
 refine Wn λz=>?_;have⟨t,ht,e⟩:∃t,t<m/\A s t=1:=by by_cases c:s<n;{exact P.nz s c};exact⟨s-n,by lia,by rw[show A s=A (n+(s-n))by rw[show n+(s-n)=s by lia],P.un _ (by lia),Lp.un,if_pos rfl]⟩
 have h:=B.J s t;rw[e,XI,sm,j5 B.len,Lp.un,if_neg (by lia),WM,Int.add_zero,bB λk hk=>by rw[mS B.len hk]]at h;have le:(sm m λk=>T m A b k s*A (b.getD k 0) t)<=sm m λ_=>0:=uA λk hk=>by
  refine ZA (Wx.mp λy=>z ⟨k,hk,y⟩) ?_;have hb:=B.lt (b.getD k 0) (by
   rw[VH,VG (by rw[B.len];exact hk)]
   exact XU _)
  by_cases c:b.getD k 0<n;{rcases P.bin _ t c ht with y|y<;>rw[y]<;>decide};rw[show b.getD k 0=n+(b.getD k 0-n)by lia,P.un _ (by lia),Lp.un];split<;>decide
 rw[j8 (f:=λ_=>0) λ_ _=>rfl]at le;have:=B.pos;lia
def Cc:Nat->Int
 |0=>1
 |n+1=>((n+1:Nat):Int)*Cc n
def zw (c:Vc):Prop:=∀t,-1<=c t/\c t<=1
theorem Lk{q:Int}:∀(post pre:List Vc),(∀l:List Vc,l.length+1=pre.length+post.length->(∀c∈l,zw c)->-q<=D l/\D l<=q)->(∀c∈pre,zw c)->(∀c∈post,zw c)->-((post.length:Int)*q)<=ex D pre post/\ex D pre post<=(post.length:Int)*q
 |[],_,_,_,_=>by rw[ex];simp
 |c::post,pre,hD,h1,h2=>by
  have r:=Lk post (pre++[c]) (λl hl=>hD l (by simp only[VI,VR,WJ]at hl⊢;lia)) (λx hx=>(VU.mp hx).elim (h1 x) λy=>V6.mp y▸h2 c V3) (λx hx=>h2 x (V8 _ hx));have d:=hD ((pre++post).map sh) (by simp only[V2,VI,VR];lia) (λx hx=>by
   obtain⟨y,hy,e⟩:=V5.mp hx;rw[<-e];exact λt=>((VU.mp hy).elim (h1 y) λz=>h2 y (V8 _ z)) (t+1))
  have c0:=h2 c V3 0;have e:c 0=-1\/c 0=0\/c 0=1:=by lia
  rw[ex,VR,Int.natCast_add,Int.add_mul];rcases e with e|e|e<;>rw[e]<;>lia
theorem yy:∀(n:Nat)(cs:List Vc),cs.length=n->(∀c∈cs,zw c)->- Cc n<=det n cs/\det n cs<=Cc n
 |0,_,_,_=>by rw[det,Cc];decide
 |n+1,cs,h,hs=>by have:=Lk (D:=det n) (q:=Cc n) cs [] (λl hl hc=>yy n l (by simp only[WJ]at hl;lia) hc) (λc hc=>by simp at hc) hs;rw[h]at this;exact this
end
end Lp
namespace PB
open PySem L2 Dv Gr
def Fw{c:Prop} [i:Decidable c]{α:Type}{a b:Option α}{Q:α->Prop}(h:¬c)(p:aA b Q):aA (if c then a else b) Q:=by rw[if_neg h];exact p
abbrev wW (F:Nat->Int) (c:Nat):PyData:=.list ((List.range c).map λj=>PyData.int (F j))
abbrev tb (F:Nat->Nat->Int) (m c:Nat):PyData:=.list ((List.range m).map λk=>wW (F k) c)
def mA (l:List eY) (m:Nat):Nat->Lp.Vc:=λj t=>if j<l.length then(if t<m then(if t∈(l.getD j (.inl 0,.inl 0,[])).2.2 then 1 else 0)else if t=m then-1 else 0)else if j<l.length+m then(if t=j-l.length then 1 else 0)else(if t<m then 1 else 0)
def vm{α β:Type}{f:α->β}{d:α}:∀{l:List α},l.map f=(List.range l.length).map λj=>f (l.getD j d):=λ{l}=>by refine W8 λi=>?_;rw[VA,VA];by_cases h:i<l.length;{rw[VN h,VG h];show some (f l[i])=some (f (l.getD i d));rw[VH,VG h];rfl};rw[VZ (by lia),VZ (by rw[V9];lia)];rfl
def mW{α:Type}{f:Nat->α}{a b:Nat}:(List.range (a+b)).map f=(List.range a).map f++(List.range b).map λj=>f (a+j):=by rw[List.range_add,VJ,V7];rfl
def GR{l:List eY}{m i:Nat}(hi:i<m):(l.map λe=>PyData.int (if i∈e.2.2 then 1 else 0))++(List.range m).map (λj=>PyData.int (if i=j then 1 else 0))++[.int 1]=(List.range (l.length+m+1)).map λj=>PyData.int (mA l m j i):=by rw[mW,mW,vm (d:=(.inl 0,.inl 0,[]))];congr 1;{congr 1;{refine Vx λj hj=>?_;have hj:=VD.mp hj;unfold mA;rw[if_pos hj,if_pos hi]};refine Vx λj hj=>?_;have hj:=VD.mp hj;unfold mA;rw[if_neg (show ¬l.length+j<l.length by lia),if_pos (show l.length+j<l.length+m by lia),YN]};show _=[PyData.int (mA l m (l.length+m+0) i)];unfold mA;rw[if_neg (show ¬l.length+m+0<l.length by lia),if_neg (show ¬l.length+m+0<l.length+m by lia),if_pos hi]
def ID{l:List eY}{m:Nat}:List.replicate l.length (PyData.int (-1))++List.replicate (m+1) (PyData.int 0)=(List.range (l.length+m+1)).map λj=>PyData.int (mA l m j m):=by rw[XW,mW];congr 1;{refine W8 λj=>?_;rw[VA];by_cases h:j<l.length;{rw[VN h,Yd,if_pos h];show some _=some (PyData.int (mA l m j m));unfold mA;rw[if_pos h,if_neg (Vz m),if_pos rfl]};rw[VZ (by rw[Wb];lia),VZ (by rw[V9];lia)];rfl};refine W8 λj=>?_;rw[VA];by_cases h:j<m+1;{rw[VN h,Yd,if_pos h];show some _=some (PyData.int (mA l m (l.length+j) m));unfold mA;rw[if_neg (show ¬l.length+j<l.length by lia)];by_cases c:l.length+j<l.length+m;{rw[if_pos c,if_neg (by lia)]};rw[if_neg c,if_neg (Vz m)]};rw[VZ (by rw[Wb];lia),VZ (by rw[V9];lia)];rfl
def Em:bG:=λdd Q x=>∃(l:List eY) (m:Nat),dd=[.list (l.map p3),iD m]/\l.length<=100000/\m<=7/\Q [] (.ow false) (tb (λk j=>mA l m j k) (m+1) (l.length+m+1))
def Qs:∀dd Q x,Em dd Q x->kQ (bx [false,false] Q x) (ini [false,false] dd++List.replicate 7 none):=by
 rintro _ Q x⟨l,m,rfl,hl,hm,q⟩;unfold kQ;left;refine⟨by decide,?_⟩;symm;rw[if_pos (by lia)];refine aG rfl ?_;refine n9 (λi E=>J5 λ(o3 o4 o5:Option (Kd×PyData))=>Ll (E=[some (.sh,.list (l.map p3)),some (.sh,iD m),some (.ow false,tb (λk j=>mA l m j k) i (l.length+m+1)),o3,o4,o5,none,none,none]) (bA o3=true) (bA o4=true) (bA o5=true)) ⟨none,none,none,rfl,rfl,rfl,rfl⟩ ?_ ?_
 .rintro J i _ hi hJ⟨o3,o4,o5,rfl,z3,z4,z5⟩;simp![z3];refine eX (λe:eY=>PyData.int (if i∈e.2.2 then 1 else 0)) rfl (λe he I hI=>?_) ?_ (by lia)
  .rfl';refine⟨⟨by rw[VW];intro y _;rfl,rfl⟩,?_⟩;have em:(iD i∈e.2.2.map iD)=(i∈e.2.2):=propext ⟨λz=>by
    obtain⟨y,hy,ey⟩:=V5.mp z;rw[<-Q3.mp ey];exact hy,λz=>Wz z⟩
   by_cases c:i∈e.2.2;{rw[if_pos (by rw[em];exact c)];rw[if_pos c]at hI;exact hI _ rfl};rw[if_neg (by rw[em];exact c)];rw[if_neg c]at hI;exact hI _ rfl
  rfl';refine⟨z4,?_⟩;rw[if_pos (by lia)];refine aG rfl (eX (λj=>PyData.int (if i=j then 1 else 0)) rfl (λj hj I hI=>?_) ?_ (by rw[V9];lia));{rfl';by_cases c:i=j;{rw[if_pos c];rw[if_pos c]at hI;exact hI _ rfl};rw[if_neg c];rw[if_neg c]at hI;exact hI _ rfl};rfl';refine⟨z5,by lia,by decide,by rw[VI,V2,V2,V9];lia,by lia,hJ _ ⟨some (.sh,iD i),some (.ow false,.list (l.map λe=>PyData.int (if i∈e.2.2 then 1 else 0))),some (.ow false,.list ((List.range m).map λj=>PyData.int (if i=j then 1 else 0))),?_,rfl,rfl,rfl⟩⟩;rw[GR hi];show _=[_,_,some (Kd.ow false,PyData.list ((List.range (i+1)).map λk=>wW (λj=>mA l m j k) (l.length+m+1))),_,_,_,_,_,_];rw[Wc (n:=i),VJ];rfl
 rintro _⟨o3,o4,o5,rfl,z3,z4,z5⟩;show B _;right;have t1:((m:Int)+1).toNat=m+1:=by lia
 rw[t1,ZE,ZE,ID];refine⟨by decide,⟨by lia,by lia,by lia⟩,by decide,⟨by lia,by lia,by lia⟩,by rw[Wb,Wb];lia,by decide,by lia,Fw (by rw[YO];decide) (aG rfl ?_)⟩;have e:tb (λk j=>mA l m j k) (m+1) (l.length+m+1)=.list (((List.range m).map λk=>wW (λj=>mA l m j k) (l.length+m+1))++[PyData.list ((List.range (l.length+m+1)).map λj=>PyData.int (mA l m j m))]):=by show PyData.list _=_;rw[Wc (n:=m),VJ];rfl
 rw[e]at q;exact q
def Bd (F:Nat->Nat->Int):Prop:=∀k j,-100000<=F k j/\F k j<=100000
def nj (F:Nat->Nat->Int)(b:A05) (c s p q:Nat):Prop:=F p c*F q s<F q c*F p s\/(F p c*F q s=F q c*F p s/\b.getD p 0<b.getD q 0)
instance {F:Nat->Nat->Int}{b:A05}{c s p q:Nat}:Decidable (nj F b c s p q):=inferInstanceAs (Decidable (_\/_))
def iW{f:Nat->PyData}{c:Nat}:dS ((List.range (c+1)).map f) (-1)=some (f c):=by
 have e:lQ ((List.range (c+1)).map f).length (-1)=some c:=by rw[V2,V9];unfold lQ;rw[if_neg (by decide),if_pos (by lia)];exact congrArg some (by lia)
 unfold dS;rw[e];show((List.range (c+1)).map f)[c]?=_;rw[VA,VN (by lia)];rfl
def C1:bG:=λdd Q x=>∃(F:Nat->Nat->Int)(b:A05) (m c s p q:Nat),dd=[tb F m (c+1),nD b,iD s,iD p,iD q]/\Bd F/\m<=b.length+1/\s<c/\p<b.length/\q<b.length/\p<m/\q<m/\Q [] .sh (.bool (decide (nj F b c s p q)))
def PU:∀dd Q x,C1 dd Q x->kr (bx [false,false,false,false,false] Q x) (ini [false,false,false,false,false] dd++List.replicate 2 none):=by
 rintro _ Q x⟨F,b,m,c,s,p,q,rfl,bd,hb,hs,hpb,hqb,hp,hq,hQ⟩;unfold kr;left;refine aG (VN hp) (aG iW (aG (VN hq) (aG (VN (show s<c+1 by lia)) ⟨.inl ⟨by have:=bd p c;lia,by have:=bd p c;lia⟩,?_⟩)));show B _;symm;refine aG (VN hq) (aG iW (aG (VN hp) (aG (VN (show s<c+1 by lia)) ⟨.inl ⟨by have:=bd q c;lia,by have:=bd q c;lia⟩,?_⟩)));show B _;right;have gp:b[p]?=some (b.getD p 0):=by rw[VH,VG hpb];rfl
 have gq:b[q]?=some (b.getD q 0):=by rw[VH,VG hqb];rfl
 by_cases c1:F p c*F q s<F q c*F p s;{rw[if_pos c1];rwa[Vu (show nj F b c s p q from .inl c1)]at hQ};rw[if_neg c1];by_cases c2:F p c*F q s=F q c*F p s
 .rw[if_pos c2];refine aG gp (aG gq ?_);have e:decide (nj F b c s p q)=decide (b.getD p 0<b.getD q 0):=by refine decide_eq_decide.mpr ⟨λh=>h.elim (λz=>absurd z c1) λz=>z.2,λh=>.inr ⟨c2,h⟩⟩
  rwa[e]at hQ
 rw[if_neg c2];rwa[Vv (show ¬nj F b c s p q from λh=>h.elim c1 λz=>c2 z.1)]at hQ
def Bj{F:Nat->Nat->Int}{c s p:Nat}:¬nj F b c s p p:=λh=>h.elim (Int.lt_irrefl _) λz=>Vz _ z.2
def G5{F:Nat->Nat->Int}{c s p q r:Nat}(hp:0<F p s)(hq:0<F q s)(hr:0<F r s)(h1:nj F b c s p q)(h2:nj F b c s q r):nj F b c s p r:=by have w:∀{x y:Nat},nj F b c s x y->F x c*F y s<=F y c*F x s:=λ{x y} h=>h.elim Y6 λz=>XZ z.1;have w1:=w h1;have w2:=w h2;have w3:=Lp.nO hq hr hp w1 w2;by_cases e:F p c*F r s=F r c*F p s;{have b1:=Lp.nO hr hp hq w2 (XZ e.symm);have b2:=Lp.nO hp hq hr (XZ e.symm) w1;rcases h1 with h1|h1;{lia};rcases h2 with h2|h2;{lia};exact .inr ⟨e,by lia⟩};exact .inl (Int.lt_iff_le_and_ne.mpr ⟨w3,e⟩)
def Dh:bG:=λdd Q x=>∃(F:Nat->Nat->Int)(b:A05) (m c s:Nat),dd=[tb F m (c+1),nD b,iD s]/\Bd F/\m=b.length+1/\m<=100/\s<c/\(∃k,k<b.length/\0<F k s)/\∀r,r<b.length->0<F r s->(∀k,k<b.length->0<F k s->¬nj F b c s k r)->Q [] .sh (iD r)
def U5 (F:Nat->Nat->Int)(b:A05) (c s i:Nat)(d:PyData):Prop:=(d=.none/\∀k,k<i->¬0<F k s)\/∃r,r<i/\d=iD r/\0<F r s/\∀k,k<i->0<F k s->¬nj F b c s k r
def OT:∀dd Q x,Dh dd Q x->oi C1 (bx [false,false,false] Q x) (ini [false,false,false] dd++List.replicate 2 none):=by rintro _ Q x⟨F,b,m,c,s,rfl,bd,hb,hm,hs,some1,hQ⟩;unfold oi;left;symm;rw[if_pos (by lia)];refine aG rfl ?_;refine n9 (λi E=>G4 λ(d:PyData)(o4:Option (Kd×PyData))=>FJ (E=[some (.sh,tb F m (c+1)),some (.sh,nD b),some (.sh,iD s),some (.sh,d),o4]) (bA o4=true) (U5 F b c s i d)) ⟨.none,none,rfl,rfl,.inl ⟨rfl,λk hk=>by lia⟩⟩ ?_ ?_;{rintro J i _ hi hJ⟨d,o4,rfl,z4,hd⟩;simp![z4];refine aG (VN (show i<m by lia)) (aG (VN (show s<c+1 by lia)) ?_);by_cases pi:0<F i s;{rw[if_pos pi];rcases hd with⟨rfl,h⟩|⟨r,hr,rfl,pr,h⟩;{rfl';refine hJ _ ⟨iD i,some (.sh,iD i),rfl,rfl,.inr ⟨i,Xw i,rfl,pi,λk hk pk z=>?_⟩⟩;by_cases e:k=i;{subst e;exact Bj z};exact h k (by lia) pk};rfl';refine⟨F,b,m,c,s,i,r,rfl,bd,by lia,hs,hi,by lia,by lia,by lia,?_⟩;rfl';by_cases t:nj F b c s i r;{rw[if_pos t];refine hJ _ ⟨iD i,some (.sh,iD i),rfl,rfl,.inr ⟨i,Xw i,rfl,pi,λk hk pk z=>?_⟩⟩;by_cases e:k=i;{subst e;exact Bj z};exact h k (by lia) pk (G5 pk pi pr z t)};rw[if_neg t];refine hJ _ ⟨iD r,some (.sh,iD i),rfl,rfl,.inr ⟨r,by lia,rfl,pr,λk hk pk z=>?_⟩⟩;by_cases e:k=i;{subst e;exact t z};exact h k (by lia) pk z};rw[if_neg pi];refine hJ _ ⟨d,some (.sh,iD i),rfl,rfl,?_⟩;rcases hd with⟨rfl,h⟩|⟨r,hr,rfl,pr,h⟩;{refine .inl ⟨rfl,λk hk pk=>?_⟩;by_cases e:k=i;{subst e;exact pi pk};exact h k (by lia) pk};refine .inr ⟨r,by lia,rfl,pr,λk hk pk z=>?_⟩;by_cases e:k=i;{subst e;exact pi pk};exact h k (by lia) pk z};rintro _⟨d,o4,rfl,z4,hd⟩;show B _;right;rcases hd with⟨_,h⟩|⟨r,hr,rfl,pr,h⟩;{obtain⟨k,hk,pk⟩:=some1;exact absurd pk (h k hk)};exact hQ r hr pr h
def xr (F:Nat->Nat->Int) (d:Int) (r s:Nat):Nat->Nat->Int:=λk j=>if k=r then F r j else(F k j*F r s-F k s*F r j)/d
def Tc{m:Nat}:(List.range m).zipIdx=(List.range m).map λp=>(p,p):=by refine W8 λi=>?_;rw[Ys,VA];by_cases h:i<m;{rw[VN h];show some (i,0+i)=some (i,i);rw[YF]};rw[VZ (by rw[V9];lia)];rfl
def n6{l:A05}:l.zip l=l.map λp=>(p,p):=by rw[List.zip_eq_zipWith,List.zipWith_self]
def BX{F:Nat->Nat->Int}{m c:Nat}:tb F (m+1) c=.list (((List.range m).map λk=>wW (F k) c)++[wW (F m) c]):=by show PyData.list _=_;rw[Wc (n:=m),VJ];rfl
def Dk:bG:=λdd Q x=>∃(F:Nat->Nat->Int) (d:Int) (m c r s:Nat),dd=[tb F m (c+1),.int d,iD r,iD s]/\Bd F/\0<d/\d<=100000/\m<=100/\r<m/\s<c/\c<=200000/\Q [] (.ow false) (tb (xr F d r s) m (c+1))
def Q2:∀dd Q x,Dk dd Q x->sJ (bx [false,false,false,false] Q x) (ini [false,false,false,false] dd++List.replicate 6 none):=by rintro _ Q x⟨F,d,m,c,r,s,rfl,bd,pd,hd,hm,hr,hs,hc,hQ⟩;unfold sJ;left;refine aG (VN hr) ?_;rfl';symm;refine⟨by decide,?_⟩;symm;rw[Tc,V7];refine n9 (λi E=>G4 λ(o6 o7:Option (Kd×PyData))=>FJ (E=[some (.sh,tb F m (c+1)),some (.sh,.int d),some (.sh,iD r),some (.sh,iD s),some (.sh,wW (F r) (c+1)),some (.ow false,tb (xr F d r s) i (c+1)),o6,o7,none,none]) (bA o6=true) (bA o7=true)) ⟨none,none,rfl,rfl,rfl⟩ ?_ ?_;{rintro J i _ hi hJ⟨o6,o7,rfl,z6,z7⟩;simp![z6,z7,Function.comp];by_cases e:i=r;{rw[if_pos e];refine⟨by lia,hJ _ ⟨some (.sh,iD i),some (.sh,wW (F i) (c+1)),?_,rfl,rfl⟩⟩;rw[BX,show xr F d r s i=F r from funext λj=>if_pos e]};rw[if_neg e,n6,V7];refine eX (λj=>PyData.int (xr F d r s i j)) rfl (λj hj I hI=>?_) ?_ (by rw[V9];lia);{have hj:=VD.mp hj;simp![Function.comp];refine aG (VN (show s<c+1 by lia)) ?_;have b1:=bd r s;have b2:=bd i s;refine⟨.inr ⟨by lia,by lia⟩,aG (VN (show s<c+1 by lia)) ⟨.inl ⟨by lia,by lia⟩,⟨pd,by lia⟩,?_⟩⟩;have et:xr F d r s i j=(F i j*F r s-F i s*F r j)/d:=if_neg e;rw[et]at hI;exact hI _ rfl};rfl';refine⟨by lia,hJ _ ⟨some (.sh,iD i),some (.sh,wW (F i) (c+1)),?_,rfl,rfl⟩⟩;rw[BX]};rintro _⟨o6,o7,rfl,z6,z7⟩;show B _;right;exact hQ
def FE{m j:Nat}:Lp.zw (mA l m j):=λt=>by unfold mA;split;{split;{split<;>decide};split<;>decide};split;{split<;>decide};split<;>decide
def O7{i:Nat}:Lp.zw (Lp.un i):=λt=>by unfold Lp.un;split<;>decide
def Hr:∀{m:Nat},m<=8->Lp.Cc m<=100000
 |0,_=>by decide
 |1,_=>by decide
 |2,_=>by decide
 |3,_=>by decide
 |4,_=>by decide
 |5,_=>by decide
 |6,_=>by decide
 |7,_=>by decide
 |8,_=>by decide
def EY{m:Nat}:∀c∈Lp.Bm m (mA l m) b,Lp.zw c:=λc hc=>by unfold Lp.Bm at hc;rcases VU.mp hc with h|h;{obtain⟨j,_,rfl⟩:=V5.mp h;exact FE};rw[V6.mp h];exact O7
def Od{m:Nat}(hb:b.length=m)(hm:m<=7):Bd (Lp.T m (mA l m) b):=λk j=>by
 have h:=Lp.yy (m+1) ((Lp.Bm m (mA l m) b).set k (mA l m j)) (by rw[VY,Lp.mE hb]) λc hc=>by rcases List.mem_or_eq_of_mem_set hc with z|z;{exact EY c z};rw[z];exact FE
 have:=Hr (m:=m+1) (by lia);unfold Lp.T;lia
def Om{m:Nat}(hb:b.length=m)(hm:m<=7):Lp.dt m (mA l m) b<=100000:=by have h:=Lp.yy (m+1) (Lp.Bm m (mA l m) b) (Lp.mE hb) EY;have:=Hr (m:=m+1) (by lia);unfold Lp.dt;lia
def Nl (m:Nat)(l:List eY):Prop:=∀e∈l,(∃t,t<m/\t∈e.2.2)
def uK{m:Nat}(h:Nl m l):Lp.Pb m l.length (mA l m):=by
 refine⟨λj t ht=>?_,λj t hj ht=>?_,λj hj=>?_,λj hj=>?_,λk hk=>funext λt=>?_,λt ht=>?_,?_⟩;{unfold mA;split;{rw[if_neg (by lia),if_neg (by lia)]};split;{rw[if_neg (by lia)]};rw[if_neg (by lia)]};{unfold mA;rw[if_pos hj,if_pos ht];split;{exact .inr rfl};exact .inl rfl}
 .have gj:l[j]?=some (l.getD j (.inl 0,.inl 0,[])):=by rw[VH,VG hj];rfl
  obtain⟨t,ht,mt⟩:=h _ (VV gj);refine⟨t,ht,?_⟩;unfold mA;rw[if_pos hj,if_pos ht,if_pos mt]
 .unfold mA;rw[if_pos hj,if_neg (Vz m),if_pos rfl]
 .unfold mA Lp.un;rw[if_neg (show ¬l.length+k<l.length by lia),if_pos (show l.length+k<l.length+m by lia),YN]
 .unfold mA;rw[if_neg (by lia),if_neg (by lia),if_pos ht]
 unfold mA;rw[if_neg (by lia),if_neg (by lia),if_neg (Vz m)]
def RE{m s r:Nat}(H:Lp.Bs m (l.length+m) (mA l m) b)(hr:r<m):∀k j,k<m+1->xr (Lp.T m (mA l m) b) (Lp.dt m (mA l m) b) r s k j=Lp.T m (mA l m) (b.set r s) k j:=λk j hk=>by unfold xr;by_cases e:k=r;{rw[if_pos e,e];exact(Lp.qQ H hr j).symm};rw[if_neg e];have h:=Lp.uT H hr (c:=s) hk e j;have p:=H.pos;rw[show Lp.T m (mA l m) b k j*Lp.T m (mA l m) b r s-Lp.T m (mA l m) b k s*Lp.T m (mA l m) b r j=Lp.dt m (mA l m) b*Lp.T m (mA l m) (b.set r s) k j by rw[h,WN (Lp.T m (mA l m) b k j)]];exact Int.mul_ediv_cancel_left _ (by lia)
structure nA(l:List eY) (m:Nat)(b:A05):Prop where
 bs:Lp.Bs m (l.length+m) (mA l m) b
 nn:∀j,j<l.length+m->0<=Lp.T m (mA l m) b m j
def CN:bG:=λdd Q x=>∃(l:List eY) (m:Nat),dd=[.list (l.map p3),iD m]/\l.length<=100000/\1<=m/\m<=7/\Nl m l/\∀b,nA l m b->Q [] .sh (.tuple [.int (Lp.dt m (mA l m) b),nD b,tb (Lp.T m (mA l m) b) (m+1) (l.length+m+1)])
def rO{f:Nat->PyData}{c:Nat}:cutD ((List.range (c+1)).map f) none (some (-1))=(List.range c).map f:=by
 unfold cutD;have e1:HT.aK ((List.range (c+1)).map f).length ((List.range (c+1)).map f).length (some (-1))=c:=by rw[V2,V9];show(if(-1:Int)<0 then((-1:Int)+((c+1:Nat):Int)).toNat else min (-1:Int).toNat (c+1))=c;rw[if_pos (by decide)];lia
 have e2:HT.aK ((List.range (c+1)).map f).length 0 none=0:=rfl;rw[e1,e2,Yr,YM,<-Xy,List.take_range,XY (by lia)]
def UJ{F:Nat->Nat->Int}{m c:Nat}{k2:Kd}{o0 o1:Option (Kd×PyData)}{os:En}{x:XC}{f:En->Bool->Prop}(bd:Bd F)(pc:0<c)(hk:k2=.sh\/k2=.ow false)(G:∀t:Bool,(t=true->∃j,j<c/\F m j<0)->(t=false->∀j,j<c->0<=F m j)->f (o0::o1::some (.sh,tb F (m+1) (c+1))::os) t) : bN (aa kT [.ev (aa qD [.ev (aa (lB false true) [.ev (aa aC [.pk 2,.ev (aa gF [.ev (dC (.int 1))])]),.ev (aa gF [.ev (dC (.int 1))])])]),.ev (dC (.int 0))]) x (o0::o1::some (k2,tb F (m+1) (c+1))::os) f:=by
 have fin:∀{P:Kd->PyData->Prop},(∀M:Int,(∃j,j<c/\F m j=M)->(∀j,j<c->M<=F m j)->P .sh (.int M))->qD [.list ((List.range c).map λj=>.int (F m j))] P:=λ{P} h=>by
  have e:(List.range c).map (λj=>PyData.int (F m j))=((List.range c).map (F m)).map .int:=by rw[V7];rfl
  rw[e];refine⟨_,rfl,λz=>?_,λM h1 h2=>h M ?_ λj hj=>h2 _ (Wz (VD.mpr hj))⟩;{have:=congrArg List.length z;rw[V2,V9]at this;exact absurd this (show c≠0 by lia)};obtain⟨j,hj,e⟩:=V5.mp h1;exact⟨j,VD.mp hj,e⟩
 rcases hk with rfl|rfl
 .rfl';refine aG iW ?_;rfl';rw[rO];refine fin λM hM hall=>?_;rfl';by_cases c1:M<0
  .have g:=G true (λ_=>by
    obtain⟨j,hj,e⟩:=hM;exact⟨j,hj,by lia⟩) (λz=>by cases z)
   rw[<-Vu c1]at g;exact g
  have g:=G false (λz=>by cases z) (λ_ j hj=>by
   have:=hall j hj;lia)
  rw[<-Vv c1]at g;exact g
 rfl';refine aG iW (Fw VQ (aG rfl ?_));rfl';rw[rO];refine fin λM hM hall=>?_;rfl';by_cases c1:M<0
 .have g:=G true (λ_=>by
   obtain⟨j,hj,e⟩:=hM;exact⟨j,hj,by lia⟩) (λz=>by cases z)
  rw[<-Vu c1]at g;exact g
 have g:=G false (λz=>by cases z) (λ_ j hj=>by
  have:=hall j hj;lia)
 rw[<-Vv c1]at g;exact g
def Hl{p:Nat->Bool}{c s:Nat}(hs:s<c)(ps:p s=true)(h:∀j,j<s->p j=false):∃r,(List.range c).filter p=s::r:=by
 refine⟨((List.range (c-s-1)).map λj=>s+(j+1)).filter p,?_⟩;have e:List.range c=List.range s++s::(List.range (c-s-1)).map λj=>s+(j+1):=by have:=mW (f:=id) (a:=s) (b:=c-s-1+1);rw[List.map_id,List.map_id,show s+(c-s-1+1)=c by lia,List.range_succ_eq_map,VP,V7]at this;exact this
 rw[e,List.filter_append,List.filter_eq_nil_iff.mpr λj hj=>by rw[h j (VD.mp hj)];decide,Xk,List.filter_cons_of_pos ps]
def NR:∀dd Q x,CN dd Q x->jF Em Dh Dk (bx [false,false] Q x) (ini [false,false] dd++List.replicate 7 none):=by
 rintro _ Q x⟨l,m,rfl,hl,m1,hm,P,q⟩;unfold jF;have pb:=uK P;left;refine⟨l,m,rfl,hl,hm,?_⟩;rfl';symm;rw[if_pos (by lia)];refine aG rfl (eX (λj=>iD (l.length+j)) rfl (λj hj I hI=>?_) ?_ (by rw[V9];lia));{rfl';refine hI _ rfl};rfl';symm;rw[hB];clear hB B;refine aV λB hB=>?_;have b0e:PyData.list (List.map (λj=>iD (l.length+j)) (List.range m))=nD ((List.range m).map (l.length+·)):=by show _=PyData.list (((List.range m).map (l.length+·)).map iD);rw[V7];rfl
 have t0e:tb (λk j=>mA l m j k) (m+1) (l.length+m+1)=tb (Lp.T m (mA l m) ((List.range m).map (l.length+·))) (m+1) (l.length+m+1):=by refine congrArg PyData.list (Vx λk hk=>?_);refine congrArg PyData.list (Vx λj _=>?_);rw[pb.t0 (VD.mp hk)]
 rw[b0e,t0e];refine Sn (λw E=>yq λ(b:A05) (t:Nat)(k2:Kd)(o5 o6:Option (Kd×PyData))=>To (Lp.Run m (l.length+m) (mA l m) ((List.range m).map (l.length+·)) t b) (w+t=(l.length+m)^m) ((k2=.sh\/k2=.ow false)) (bA o5=true) (bA o6=true) (E=[some (.sh,.list (l.map p3)),some (.sh,iD m),some (k2,tb (Lp.T m (mA l m) b) (m+1) (l.length+m+1)),some (.ow false,nD b),some (.sh,.int (Lp.dt m (mA l m) b)),o5,o6,none,none])) ⟨(l.length+m)^m,(List.range m).map (l.length+·),0,.ow false,none,none,.zero _,rfl,.inr rfl,rfl,rfl,by rw[pb.d0]⟩ ?_;rintro J w _ hJ⟨b,t,k2,o5,o6,R,hw,hk2,z5,z6,rfl⟩;obtain⟨tl,H⟩:=R.short pb.S5;have bl:=H.len;have dp:=H.pos;have bd:=Od (l:=l) bl hm;have db:=Om (l:=l) bl hm;refine UJ bd (show 0<l.length+m by lia) hk2 λt h1 h2=>?_;rcases t with _|_;{rw[if_neg (by decide)];show B _;right;exact⟨by decide,q b ⟨H,h2 rfl⟩⟩};rw[if_pos rfl];obtain⟨s,_,⟨hs,ng⟩,fst⟩:=Lp.first (P:=λj=>j<l.length+m/\Lp.T m (mA l m) b m j<0) _ (h1 rfl).choose_spec;have fst':∀j,j<s->0<=Lp.T m (mA l m) b m j:=λj hj=>Wx.mp λz=>fst j hj ⟨by lia,z⟩;left;refine aG iW ?_;rfl';rw[rO,sA,Tc,V7];refine tZ (λj=>if decide (Lp.T m (mA l m) b m j<0)=true then some (iD j)else none) rfl (λj hj I hI=>?_) ?_ (by rw[V9];lia);{simp![Function.comp];by_cases c1:Lp.T m (mA l m) b m j<0;{rw[if_pos c1];rw[if_pos (Vu c1)]at hI;exact hI _ rfl};rw[if_neg c1];rw[if_neg (by rw[Vv c1];decide)]at hI;exact hI _ rfl};obtain⟨rs,er⟩:=Hl (p:=λj=>decide (Lp.T m (mA l m) b m j<0)) hs (Vu ng) λj hj=>Vv (Wx.mpr (fst' j hj));rw[iY,er,VP];simp![z5];symm;refine⟨_,b,m+1,l.length+m,s,rfl,bd,by rw[bl],by lia,hs,?_,λr hr pr tr=>?_⟩;{rw[bl];exact pb.bound H hs};simp![z6];rw[bl]at hr tr;have S:Lp.BL m (l.length+m) (mA l m) b s r:=by refine⟨hs,ng,fst',hr,pr,λk hk pk=>?_,λk hk pk e=>?_⟩;{exact Wx.mp λz=>tr k hk pk (.inl z)};exact X7.mp λz=>tr k hk pk (.inr ⟨e.symm,z⟩)
 symm;refine⟨_,_,m+1,l.length+m,r,s,rfl,bd,dp,db,by lia,by lia,hs,by lia,?_⟩;have et:tb (xr (Lp.T m (mA l m) b) (Lp.dt m (mA l m) b) r s) (m+1) (l.length+m+1)=tb (Lp.T m (mA l m) (b.set r s)) (m+1) (l.length+m+1):=by refine congrArg PyData.list (Vx λk hk=>?_);refine congrArg PyData.list (Vx λj _=>?_);rw[RE H hr k j (VD.mp hk)]
 rw[et];rfl';symm;refine aG (VN (show r<m+1 by lia)) (aG (VN (show s<l.length+m+1 by lia)) ?_);rw[hB,Lp.qQ H hr,<-Lp.xW H hr];clear hB B;rfl';refine qI (by lia) (hJ (w-1) _ (by lia) ⟨b.set r s,t+1,.sh,some (.sh,iD s),some (.sh,iD r),R.snoc S,by lia,.inl rfl,rfl,rfl,?_⟩);rw[show PyData.list ((List.map iD b).set r (iD s))=nD (b.set r s)from congrArg PyData.list Z9.symm]
def CH:(cu T).length<=T.length*T.length:=by
 unfold cu;rw[List.length_flatMap];have h:∀(n:Nat),((List.range n).map λk=>((T.drop (k+1)).map λu=>(T.getD k (.inl 0),u)).length).sum<=n*T.length:=λn=>by
  induction n with
  |zero=>exact W3 _
  |succ n ih=>rw[Wc,VJ,YK,Nat.succ_mul];refine Nat.add_le_add ih ?_;simp
 exact h _
def sP{m p x:Nat}(cn:ff m es)(hp:p<m)(hx:x<m):aF es p x=0↔x=p:=by obtain⟨d,hd⟩:=cn p hp x hx;have h:=Gs hd;refine⟨λz=>?_,λz=>?_⟩;{have h1:=h.1;rw[show dst (cT es) p x=0 from z]at h1;cases h1;rfl};subst z;exact tR ⟨.zero,λe he=>absurd he (WX e)⟩
def rA:Th->A05
 |.inl x=>[x]
 |.inr e=>[e.1,e.2]
def AZ{m p:Nat}(cn:ff m es)(hp:p<m)(ht:TV m t):td es p t=0↔p∈rA t:=by
 cases t with
 |inl x=>show aF es p x=0↔p∈[x];rw[sP cn hp ht,V6];exact⟨λh=>h.symm,λh=>h.symm⟩
 |inr e=>have h1:=sP cn hp ht.1;have h2:=sP cn hp ht.2;show min (aF es p e.1) (aF es p e.2)=0↔p∈[e.1,e.2];simp only[VF,WH,XA];refine⟨λh=>?_,λh=>?_⟩;{by_cases c:aF es p e.1=0;{exact .inl (h1.mp c).symm};exact .inr (h2.mp (by lia)).symm};rcases h with h|h;{have:=h1.mpr h.symm;lia};have:=h2.mpr h.symm;lia
def vq{m:Nat}(g:Good m es)(h:Sum.inr e∈aq k m es):e.1<e.2:=by rcases VU.mp h with h|h;{split at h;{cases h};obtain⟨_,_,z⟩:=V5.mp h;cases z};split at h;{cases h};obtain⟨f,hf,z⟩:=V5.mp h;cases z;exact(g.lt _ hf).1
def apart{k:Str}{m:Nat}{es:Zt}{t u:Th}(W:bX m es)(ht:t∈aq k m es)(hu:u∈aq k m es)(ne:t≠u):∃p,p<m/\p∈b9 m es t u:=by
 refine Wn λz=>ne ?_;have vt:=eS W.gd t ht;have vu:=eS W.gd u hu;have h:∀p,p<m->(p∈rA t↔p∈rA u):=λp hp=>by rw[<-AZ W.cn hp vt,<-AZ W.cn hp vu];have:td es p t=td es p u:=Wn λy=>z ⟨p,hp,Wr.mpr ⟨VD.mpr hp,Vu y⟩⟩;rw[this]
 cases t with
 |inl x=>
  cases u with
  |inl y=>have:=(h x vt).mp (V6.mpr rfl);rw[V6.mp this]
  |inr f=>have l:=vq W.gd hu;have a1:=(h f.1 vu.1).mpr (by simp[rA]);have a2:=(h f.2 vu.2).mpr (by simp[rA]);have a1:=V6.mp a1;have a2:=V6.mp a2;lia
 |inr e=>
  have le:=vq W.gd ht;cases u with
  |inl y=>have a1:=(h e.1 vt.1).mp (by simp[rA]);have a2:=(h e.2 vt.2).mp (by simp[rA]);have a1:=V6.mp a1;have a2:=V6.mp a2;lia
  |inr f=>have lf:=vq W.gd hu;have a1:=(h e.1 vt.1).mp (by simp[rA]);have a2:=(h e.2 vt.2).mp (by simp[rA]);simp only[rA,VF,WH,XA]at a1 a2;exact congrArg Sum.inr (WD (by lia) (by lia))
def Mp(h:e∈cu T):e.1∈T/\e.2∈T/\(T.Nodup->e.1≠e.2):=by
 obtain⟨i,hi,he⟩:=Vy.mp h;have hi:=VD.mp hi;obtain⟨u,hu,rfl⟩:=V5.mp he;have gi:T[i]?=some (T.getD i (.inl 0)):=by rw[VH,VG hi];rfl
 refine⟨VV gi,List.mem_of_mem_drop hu,λnd z=>?_⟩;obtain⟨j,hj⟩:=W6 hu;rw[YQ]at hj;have z:T.getD i (.inl 0)=u:=z;rw[<-z]at hj;have:=(X0 hi nd).mp (gi.trans hj.symm);lia
def Ml{f:Nat->PyData}{n m:Nat}:cutD ((List.range (n+m+1)).map f) (some (n:Int)) (some (-1))=(List.range m).map λk=>f (n+k):=by
 unfold cutD;have ln:((List.range (n+m+1)).map f).length=n+m+1:=by rw[V2,V9]
 have e1:HT.aK ((List.range (n+m+1)).map f).length ((List.range (n+m+1)).map f).length (some (-1))=n+m:=by rw[ln];show(if(-1:Int)<0 then((-1:Int)+((n+m+1:Nat):Int)).toNat else min (-1:Int).toNat (n+m+1))=n+m;rw[if_pos (by decide)];lia
 have e2:HT.aK ((List.range (n+m+1)).map f).length 0 (some (n:Int))=n:=by rw[HT.mY,ln];lia
 rw[e1,e2,XW,mW,List.drop_left' (by rw[V2,V9]),YN,<-Xy,List.take_range,XY (by lia)]
def Iv{b:A05}:b.zip (List.range (b.length+1))=(List.range b.length).map λi=>(b.getD i 0,i):=by refine W8 λi=>?_;rw[VA];by_cases h:i<b.length;{rw[VN h,(List.getElem?_zip_eq_some (z:=(b.getD i 0,i))).mpr ⟨by rw[VH,VG h];rfl,VN (by lia)⟩];rfl};rw[VZ (by rw[List.length_zip];lia),VZ (by rw[V9];lia)];rfl
abbrev t3 (m:Nat)(es:Zt)(e:Th×Th):eY:=(e.1,e.2,b9 m es e.1 e.2)
structure oK(m:Nat)(es:Zt) (k:Str)(l:List eY):Prop where
 sub:∀e∈l,∃f∈cu (aq k m es),e=t3 m es f
 all:∀f∈cu (aq k m es),∃e∈l,e.2.2=b9 m es f.1 f.2
 few:l.length<=100000
 AW:(l.map (·.2.2)).Nodup
def oK.prs{m:Nat}(R:oK m es k l)(W:bX m es):Nl m l:=λe he=>by obtain⟨f,hf,rfl⟩:=R.sub e he;obtain⟨h1,h2,h3⟩:=Mp hf;exact apart W h1 h2 (h3 (c9 W.gd))
abbrev QD (l:List eY) (m:Nat)(b:A05) (i:Nat):PyData:=.tuple [bU (l.getD (b.getD i 0) (.inl 0,.inl 0,[])).1,bU (l.getD (b.getD i 0) (.inl 0,.inl 0,[])).2.1,.int (Lp.T m (mA l m) b i (l.length+m))]
abbrev JW (l:List eY) (m:Nat)(b:A05):PyData:=.tuple [.int (Lp.dt m (mA l m) b),.list ((List.range m).map λk=>.int (Lp.T m (mA l m) b m (l.length+k))),.list (((List.range m).filter λi=>decide (0<Lp.T m (mA l m) b i (l.length+m))&&decide (b.getD i 0<l.length)).map (QD l m b))]
def DV:bG:=λdd Q x=>∃m es k,dd=[wD m es,.str k]/\bX m es/\m<=7/\∀(l:List eY)(b:A05),oK m es k l->nA l m b->Q [] .sh (JW l m b)
def Qw:∀dd Q x,DV dd Q x->lZ vE CV uY CN (bx [false,false] Q x) (ini [false,false] dd++List.replicate 10 none):=by
 rintro _ Q x⟨m,es,k,rfl,W,hm,q⟩;have gl:=ko W.gd;have m49:m*m<=49:=Xm hm hm;have few:es.length<=25:=by lia
 unfold lZ;left;refine⟨m,es,rfl,hm,?_⟩;rfl';symm;refine⟨m,es,k,rfl,W,by lia,?_⟩;rfl';have ep:(cu (aq k m es)).map (zJ m es)=((cu (aq k m es)).map (t3 m es)).map p3:=by rw[V7];rfl
 rw[ep];have lT:(aq k m es).length<=32:=by
  unfold aq;rw[VI];have a:(if k="ties" then []else(List.range m).map Sum.inl:List Th).length<=7:=by split<;>simp;lia
  have b:(if k="places" then []else es.map Sum.inr:List Th).length<=25:=by split<;>simp;lia
  lia
 have l2:=Xm lT lT;have l3:(cu (aq k m es)).length<=1024:=VX CH l2;refine⟨_,rfl,by rw[V2];lia,λl lk hs ha hu=>?_⟩;rw[V2]at lk;have R:oK m es k l:=⟨λe he=>by
  obtain⟨f,hf,z⟩:=V5.mp (hs e he);exact⟨f,hf,z.symm⟩,λf hf=>ha _ (Wz hf),by lia,hu⟩
 have P:=R.prs W;have lb:=R.few;clear hs ha hu ep;rfl';symm;refine⟨l,m,rfl,lb,W.pos,hm,P,λb O=>?_⟩;have q:=q l b R O;have H:=O.bs;have bl:=H.len;rfl';symm;refine aG iW ?_;symm;rw[Ml];symm;have zb:b.zip (List.range (m+1))=(List.range m).map λi=>(b.getD i 0,i):=by have:=Iv (b:=b);rwa[bl]at this
 rw[zb,V7];refine tZ (λi=>if decide (b.getD i 0<l.length)=true then some (.tuple [iD (b.getD i 0),.int (Lp.T m (mA l m) b i (l.length+m))])else none) rfl (λi hi I hI=>?_) ?_ (by rw[V9];lia);{simp![Function.comp];by_cases c1:b.getD i 0<l.length;{rw[if_pos c1];rw[if_pos (Vu c1)]at hI;exact aG iW ⟨by decide,hI _ rfl⟩};rw[if_neg c1];rw[if_neg (by rw[Vv c1];decide)]at hI;exact hI _ rfl};rw[iY];rfl';symm;refine tZ (λi=>if decide (0<Lp.T m (mA l m) b i (l.length+m))=true then some (QD l m b i)else none) rfl (λi hi I hI=>?_) ?_ (by have:=Ze (λi=>decide (b.getD i 0<l.length)) (List.range m);rw[V9]at this;lia)
 .have hi:=Wr.mp hi;have h1:=VD.mp hi.1;have h2:=WA hi.2;rfl';have gb:l[b.getD i 0]?=some (l.getD (b.getD i 0) (.inl 0,.inl 0,[])):=by rw[VH (l:=l),VG h2];rfl
  by_cases c1:0<Lp.T m (mA l m) b i (l.length+m);{rw[if_pos c1];rw[if_pos (Vu c1)]at hI;exact aG gb (aG gb ⟨by decide,hI _ rfl⟩)};rw[if_neg c1];rw[if_neg (by rw[Vv c1];decide)]at hI;exact hI _ rfl
 rw[iY,List.filter_filter];rfl';right;exact⟨by decide,q⟩
abbrev zD (ns:A06):PyData:=.list (ns.map .int)
def jS (m:Nat)(es:Zt)(ns:A06)(e:Th×Th):Int:=Lp.sm m λp=>if p∈b9 m es e.1 e.2 then ns.getD p 0 else 0
theorem qK{f:Nat->Int}{p:Nat->Bool}:∀m:Nat,(((List.range m).filter p).map f).sum=Lp.sm m λk=>if p k=true then f k else 0
 |0=>rfl
 |m+1=>by rw[Wc,List.filter_append,VJ,YK,qK m,Lp.sm];congr 1;by_cases c:p m=true;{rw[List.filter_cons_of_pos c,if_pos c];show f m+0=f m;lia};rw[List.filter_cons_of_neg c,if_neg c];rfl
def QJ{m:Nat}:((b9 m es e.1 e.2).map λp=>ns.getD p 0).sum=jS m es ns e:=by unfold jS b9;rw[qK];refine Lp.bB λk hk=>?_;by_cases c:decide (td es k e.1≠td es k e.2)=true;{rw[if_pos c,if_pos (Wr.mpr ⟨VD.mpr hk,c⟩)]};have nm:k∉(List.range m).filter λp=>decide (td es p e.1≠td es p e.2):=λz=>c (Wr.mp z).2;rw[if_neg c,if_neg nm]
def IE{α:Type}{f:Nat->α}{m y:Nat}{v:α}(hy:y<m):((List.range m).map f).set y v=(List.range m).map λp=>if p=y then v else f p:=by refine W8 λi=>?_;rw[Wf,VA,VA];by_cases c:y=i;{subst c;rw[if_pos rfl,if_pos (by rw[V2,V9];exact hy),VN hy];show some v=some (if y=y then v else f y);rw[if_pos rfl]};rw[if_neg c];by_cases h:i<m;{rw[VN h];show some (f i)=some (if i=y then v else f i);rw[if_neg (Ne.symm c)]};rw[VZ (by rw[V9];lia)];rfl
abbrev iU:eY:=(.inl 0,.inl 0,[])
def shr (l:List eY) (m:Nat)(b:A05) (p:Nat):Int:=Lp.T m (mA l m) b m (l.length+p)
def oY (l:List eY) (m:Nat)(b:A05) (i:Nat):Int:=if b.getD i 0<l.length then Lp.T m (mA l m) b i (l.length+m)else 0
section
variable{m:Nat}{es:Zt}{k:Str}{l:List eY}{b:A05}
def oG{α:Type}{l:List α}{d:α}{j:Nat}(h:j<l.length):l[j]?=some (l.getD j d):=by rw[VH,VG h];rfl
def uo{α:Type}{l:List α}{d:α}{j:Nat}(h:j<l.length):l.getD j d∈l:=VV (oG h)
def J6{j p:Nat}(hj:j<l.length)(hp:p<m):mA l m j p=if p∈(l.getD j iU).2.2 then 1 else 0:=by unfold mA;rw[if_pos hj,if_pos hp]
def OB(O:nA l m b){p:Nat}(hp:p<m):0<=shr l m b p:=O.nn _ (by lia)
def Qa(O:nA l m b){i:Nat}(hi:i<m):0<=oY l m b i:=by unfold oY;split;{exact O.bs.rhs i hi};exact Y5 0
def LR(W:bX m es)(R:oK m es k l)(O:nA l m b):Lp.T m (mA l m) b m (l.length+m)=Lp.sm m (shr l m b):=(uK (R.prs W)).Tv O.bs
def BC(W:bX m es)(R:oK m es k l)(O:nA l m b):Lp.T m (mA l m) b m (l.length+m)=Lp.sm m (oY l m b):=(uK (R.prs W)).goal O.bs
def Jo(W:bX m es)(R:oK m es k l)(O:nA l m b){f:Th×Th}(hf:f∈cu (aq k m es)):Lp.dt m (mA l m) b<=Lp.sm m λp=>if p∈b9 m es f.1 f.2 then shr l m b p else 0:=by
 obtain⟨e,he,ee⟩:=R.all f hf;obtain⟨j,hj⟩:=W6 he;have lj:=aZ hj;have gj:l.getD j iU=e:=Option.some.inj ((oG lj).symm.trans hj);have h:=(uK (R.prs W)).OZ O.bs lj;have n:=O.nn j (by lia);have e2:(Lp.sm m λp=>mA l m j p*Lp.T m (mA l m) b m (l.length+p))=Lp.sm m λp=>if p∈b9 m es f.1 f.2 then shr l m b p else 0:=Lp.bB λp hp=>by rw[J6 lj hp,gj,ee];split;{rw[Int.one_mul];rfl};rw[ZC]
 rw[e2]at h;lia
def wk(W:bX m es)(R:oK m es k l)(O:nA l m b){p:Nat}(hp:p<m):(Lp.sm m λi=>if p∈(l.getD (b.getD i 0) iU).2.2 then oY l m b i else 0)<=Lp.dt m (mA l m) b:=by
 have h:=(uK (R.prs W)).place O.bs hp;have e:(Lp.sm m λi=>if b.getD i 0<l.length then Lp.T m (mA l m) b i (l.length+m)*mA l m (b.getD i 0) p else 0)=Lp.sm m λi=>if p∈(l.getD (b.getD i 0) iU).2.2 then oY l m b i else 0:=Lp.bB λi hi=>by unfold oY;by_cases c:b.getD i 0<l.length;{rw[if_pos c,if_pos c,J6 c hp];split;{rw[XI]};rw[WM]};rw[if_neg c,if_neg c];split<;>rfl
 rw[e]at h;exact h
def kP(R:oK m es k l){i:Nat}(h:b.getD i 0<l.length):∃f∈cu (aq k m es),l.getD (b.getD i 0) iU=t3 m es f:=R.sub _ (uo h)
def Jf{n:Nat}{f:Nat->Int}{c:Int}:(Lp.sm n λk=>f k*c)=Lp.sm n f*c:=by rw[WN,<-Lp.jB];exact Lp.bB λk _=>WN _ _
def yI(W:bX m es)(R:oK m es k l)(O:nA l m b){y:Nat->Int}{M:Int}(hy:∀p,p<m->0<=y p)(hM:∀f∈cu (aq k m es),M<=Lp.sm m λp=>if p∈b9 m es f.1 f.2 then y p else 0):M*Lp.T m (mA l m) b m (l.length+m)<=Lp.sm m y*Lp.dt m (mA l m) b:=by
 have h1:M*Lp.T m (mA l m) b m (l.length+m)<=Lp.sm m λi=>Lp.sm m λp=>if p∈(l.getD (b.getD i 0) iU).2.2 then oY l m b i*y p else 0:=by
  rw[BC W R O,<-Lp.jB];refine Lp.uA λi hi=>?_;by_cases c:b.getD i 0<l.length
  .obtain⟨f,hf,e⟩:=kP (m:=m) (es:=es) R c;have h2:=Zk (hM f hf) (Qa O hi);rw[WN M];refine XE h2 (XZ ?_);rw[<-Lp.jB];refine Lp.bB λp _=>?_;rw[e];show _=if p∈b9 m es f.1 f.2 then oY l m b i*y p else 0
   split;{rfl};exact WM _
  have z:oY l m b i=0:=if_neg c;rw[z,WM,Lp.j8 λp _=>by
   split
   .exact ZC _
   .rfl]
  exact Y5 0
 refine XE h1 ?_;rw[Lp.L6,<-Jf];refine Lp.uA λp hp=>?_;have h3:=Zk (wk W R O hp) (hy p hp);refine XE (XZ ?_) h3;rw[<-Lp.jB];refine Lp.bB λi _=>?_;split;{exact WN _ _};exact(WM _).symm
def Nm{T:List Th}(nd:T.Nodup):(cu T).Nodup:=by unfold cu;refine List.pairwise_flatMap.mpr ⟨λi hi=>?_,?_⟩;{exact List.pairwise_map.mpr ((nd.sublist (List.drop_sublist _ _)).imp λh z=>h (Prod.mk.inj z).2)};refine List.pairwise_lt_range.imp_of_mem λ{i j} hi hj hij x hx y hy z=>?_;obtain⟨u,_,rfl⟩:=V5.mp hx;obtain⟨v,_,rfl⟩:=V5.mp hy;have e:=(Prod.mk.inj z).1;have hi:=VD.mp hi;have hj:=VD.mp hj;have g1:=oG (d:=Sum.inl 0) hi;have g2:=oG (d:=Sum.inl 0) hj;rw[e]at g1;have:=(X0 hi nd).mp (g1.trans g2.symm);lia
abbrev l6:=(Th×Th)×Int
abbrev gS (r:l6):PyData:=.tuple [bU r.1.1,bU r.1.2,.int r.2]
theorem j9{f:Nat->Int}:∀m:Nat,((List.range m).map f).sum=Lp.sm m f
 |0=>rfl
 |m+1=>by rw[Wc,VJ,YK,j9 m,Lp.sm];congr 1;show f m+0=f m;lia
def t6{ys:A06}:ys.sum=Lp.sm ys.length λp=>ys.getD p 0:=by
 have h:ys=(List.range ys.length).map λp=>ys.getD p 0:=by have:=vm (f:=id) (d:=(0:Int)) (l:=ys);rwa[List.map_id]at this
 have:=j9 (f:=λp=>ys.getD p 0) ys.length;rw[<-h]at this;exact this
def rls (l:List eY) (m:Nat)(b:A05):List l6:=((List.range m).filter λi=>decide (0<Lp.T m (mA l m) b i (l.length+m))&&decide (b.getD i 0<l.length)).map λi=>(((l.getD (b.getD i 0) iU).1,(l.getD (b.getD i 0) iU).2.1),Lp.T m (mA l m) b i (l.length+m))
def GF(O:nA l m b){i:Nat}(hi:i<m):(if(decide (0<Lp.T m (mA l m) b i (l.length+m))&&decide (b.getD i 0<l.length))=true then Lp.T m (mA l m) b i (l.length+m)else 0)=oY l m b i:=by have h:=O.bs.rhs i hi;unfold oY;by_cases c:b.getD i 0<l.length;{by_cases c2:0<Lp.T m (mA l m) b i (l.length+m);{rw[if_pos (by rw[Vu c,Vu c2];rfl),if_pos c]};rw[if_neg (by rw[Vv c2,Bool.false_and];decide),if_pos c];lia};rw[if_neg (by rw[Vv c,YO];decide),if_neg c]
def L1(O:nA l m b):((rls l m b).map (·.2)).sum=Lp.sm m (oY l m b):=by unfold rls;rw[V7];have:=qK (f:=λi=>Lp.T m (mA l m) b i (l.length+m)) (p:=λi=>decide (0<Lp.T m (mA l m) b i (l.length+m))&&decide (b.getD i 0<l.length)) m;refine Eq.trans this (Lp.bB λi hi=>GF O hi)
def yJ:Th->SM.Ty
 |.inl x=>.inl (x:Int)
 |.inr e=>.inr ((e.1:Int),(e.2:Int))
def iT (f:Th×Th):Ky:=(yJ f.1,yJ f.2)
end
def vL(h:yJ a=yJ b):a=b:=by
 cases a with
 |inl x=>
  cases b with
  |inl y=>injection h with h;rw[Int.ofNat.inj h]
  |inr e=>cases h
 |inr e=>
  cases b with
  |inl y=>cases h
  |inr f=>injection h with h;have h1:=congrArg Prod.fst h;have h2:=congrArg Prod.snd h;rw[WD (Int.ofNat.inj h1) (Int.ofNat.inj h2)]
def uZ(h:iT a=iT b):a=b:=WD (vL (congrArg Prod.fst h)) (vL (congrArg Prod.snd h))
def uU(t:Th):jW (yJ t)=bU t:=by cases t<;>rfl
abbrev om:=Ky×Int
abbrev sX (r:om):PyData:=.tuple [jW r.1.1,jW r.1.2,.int r.2]
abbrev qw (m:Nat)(es:Zt)(L:List (Th×Th)):List (Ky×PyData):=L.map λf=>(iT f,nD (b9 m es f.1 f.2))
def HP (m:Nat)(es:Zt)(L:List (Th×Th))(k:Ky):A05:=((L.find? λf=>decide (iT f=k)).map λf=>b9 m es f.1 f.2).getD []
def ldK (m:Nat)(es:Zt)(L:List (Th×Th))(rows:List om) (p:Nat):Int:=(rows.map λr=>if p∈HP m es L r.1 then r.2 else 0).sum
section
variable{m:Nat}{es:Zt}{L:List (Th×Th)}
def Kp:oJ (qw m es L) k=(L.find? λf=>decide (iT f=k)).map λf=>nD (b9 m es f.1 f.2):=by unfold oJ;rw[List.find?_map,Z7];rfl
def Nj:(oJ (qw m es L) k).isSome=true↔∃f∈L,iT f=k:=by rw[Kp,Xs,List.find?_isSome];exact⟨λ⟨f,h1,h2⟩=>⟨f,h1,WA h2⟩,λ⟨f,h1,h2⟩=>⟨f,h1,Vu h2⟩⟩
def N3(h:∃f∈L,iT f=k):∃f∈L,iT f=k/\oJ (qw m es L) k=some (nD (b9 m es f.1 f.2))/\HP m es L k=b9 m es f.1 f.2:=by
 obtain⟨f0,hf0,e0⟩:=h;unfold HP;rw[Kp];cases c:L.find? λf=>decide (iT f=k)with
 |none=>have:=YG.mp c f0 hf0;exact absurd (Vu e0) this
 |some f=>refine⟨f,List.mem_of_find?_eq_some c,?_,rfl,rfl⟩;have:=List.find?_some c;exact WA this
end
structure S7(m:Nat)(es:Zt)(L:List (Th×Th)) (d:Int)(rows:List om):Prop where
 pos:∀r∈rows,1<=r.2
 sub:∀r∈rows,∃f∈L,iT f=r.1
 nd:(rows.map (·.1)).Nodup
 load:∀p,p<m->ldK m es L rows p<=d
def D8:bG:=λdd Q x=>∃(m:Nat)(es:Zt)(L:List (Th×Th)) (d:Int)(rows:List om),dd=[rH (qw m es L),iD m,.int d,.list (rows.map sX)]/\1<=m/\m<=60/\rows.length<=90/\∀b:Bool,(b=true↔S7 m es L d rows)->Q [] .sh (.bool b)
def Px:∀dd Q x,D8 dd Q x->jd (bx [false,false,false,false] Q x) (ini [false,false,false,false] dd++List.replicate 6 none):=by
 rintro _ Q x⟨m,es,L,d,rows,rfl,h1,h2,hr,q⟩;unfold jd;left;unfold D3;rfl';symm;refine⟨by lia,⟨by lia,by lia,by lia⟩,?_⟩;rw[hB];clear hB B;have e0:(List.replicate m [PyData.int 0]).flatten=((List.range m).map λp=>ldK m es L (rows.take 0) p).map .int:=by rw[ZE,V7];refine Eq.symm (Eq.trans (Vx (g:=λ_=>PyData.int 0) λp _=>rfl) ?_);rw[List.map_const',V9]
 rw[e0];left;refine oj (λn E=>Gn λ(o6 o7 o8 o9:Option (Kd×PyData))=>CB (E=[some (.sh,rH (qw m es L)),some (.sh,iD m),some (.sh,.int d),some (.sh,.list (rows.map sX)),some (.st false,mD ((rows.take n).map (·.1))),some (.ow false,.list (((List.range m).map λp=>ldK m es L (rows.take n) p).map .int)),o6,o7,o8,o9]) (bA o6=true) (bA o7=true) (bA o8=true) (bA o9=true) ((∀r∈rows.take n,1<=r.2)) ((∀r∈rows.take n,∃f∈L,iT f=r.1)) (((rows.take n).map (·.1)).Nodup)) ⟨none,none,none,none,rfl,rfl,rfl,rfl,rfl,(λ_ z=>nomatch z),(λ_ z=>nomatch z),WU⟩ ?_ ?_
 .rintro J n r _ hn hJ⟨o6,o7,o8,o9,rfl,z6,z7,z8,z9,ps,sb,nd⟩;have tk:rows.take (n+1)=rows.take n++[r]:=by rw[Xj,hn];rfl
  have mr:=VV hn;simp![z6,z7,z8,z9];by_cases c1:r.2<1;{rw[if_pos c1];exact q false ⟨(λz=>by cases z),λz=>by have:=z.pos r mr;lia⟩};rw[if_neg c1];unfold Dm;rfl';refine⟨by lia,qw m es L,r.1,rfl,rfl,?_⟩;rfl';by_cases c2:(oJ (qw m es L) r.1).isSome=true
  .rw[c2];rfl';unfold JJ;rfl';refine⟨by lia,false,_,r.1,rfl,rfl,?_⟩;rfl';by_cases c3:r.1∈(rows.take n).map (·.1);{rw[if_pos c3];refine q false ⟨(λz=>by cases z),λz=>?_⟩;have h:=z.nd.sublist ((ZJ (n+1) rows).map (·.1));rw[tk,VJ]at h;exact absurd rfl ((Xl.mp h).2.2 _ c3 r.1 (V6.mpr rfl))};rw[if_neg c3];unfold CL;refine⟨rfl,?_⟩;rfl';have ltn:(rows.take n).length<=90:=by rw[WI];lia
   refine⟨by lia,_,r.1,rfl,rfl,c3,by rw[V2];lia,?_⟩;have e4:(rows.take n).map (·.1)++[r.1]=(rows.take (n+1)).map (·.1):=by rw[tk,VJ];rfl
   rw[e4];unfold Ep;rfl';obtain⟨f,hf,ef,e5,e6⟩:=N3 (m:=m) (es:=es) (Nj.mp c2);refine⟨rfl,by lia,qw m es L,r.1,nD (b9 m es f.1 f.2),rfl,rfl,e5,?_⟩;have ls:∀p,ldK m es L (rows.take (n+1)) p=ldK m es L (rows.take n) p+if p∈b9 m es f.1 f.2 then r.2 else 0:=λp=>by unfold ldK;rw[tk,VJ,YK,List.map_singleton,List.sum_singleton,e6]
   have nd2:(b9 m es f.1 f.2).Nodup:=List.Nodup.sublist List.filter_sublist Wi;have lt:∀p∈b9 m es f.1 f.2,p<m:=λp hp=>VD.mp (Wr.mp hp).1;generalize b9 m es f.1 f.2=ps2 at ls nd2 lt⊢;refine oj (λt E=>∃(o9:Option (Kd×PyData)),E=[some (.sh,rH (qw m es L)),some (.sh,iD m),some (.sh,.int d),some (.sh,.list (rows.map sX)),some (.st false,mD ((rows.take (n+1)).map (·.1))),some (.ow false,.list (((List.range m).map λp=>ldK m es L (rows.take n) p+if p∈ps2.take t then r.2 else 0).map .int)),some (.sh,jW r.1.1),some (.sh,jW r.1.2),some (.sh,.int r.2),o9]/\bA o9=true) ⟨o9,?_,z9⟩ ?_ ?_
   .have e7:(List.range m).map (λp=>ldK m es L (rows.take n) p+if p∈ps2.take 0 then r.2 else 0)=(List.range m).map λp=>ldK m es L (rows.take n) p:=Vx λp _=>by rw[List.take_zero,if_neg WH];lia
    rw[e7]
   .clear z9 o9;rintro J2 t y _ ht hJ2⟨o9,rfl,z9⟩;have hy:y<m:=lt y (VV ht);have lt2:=aZ ht;have ny:y∉ps2.take t:=λz=>by obtain⟨i,hi⟩:=W6 z;have li:=aZ hi;rw[WI]at li;rw[Ye (by lia)]at hi;have:=(X0 (by lia) nd2).mp (hi.trans ht.symm);lia
    simp![z9];unfold IC;refine⟨false,_,y,r.2,rfl,rfl,rfl,by rw[V2,V9];exact hy,hJ2 _ ⟨some (.sh,iD y),?_,rfl⟩⟩;rw[IE hy];have e8:(List.range m).map (λp=>if p=y then((List.range m).map λp=>ldK m es L (rows.take n) p+if p∈ps2.take t then r.2 else 0).getD y 0+r.2 else ldK m es L (rows.take n) p+if p∈ps2.take t then r.2 else 0)=(List.range m).map λp=>ldK m es L (rows.take n) p+if p∈ps2.take (t+1)then r.2 else 0:=by
     refine Vx λp _=>?_;rw[Xj,ht];by_cases c:p=y;{rw[if_pos c,c,if_pos (show y∈ps2.take t++(some y).toList from W5 _ (V6.mpr rfl)),VH,VA,VN hy];show(ldK m es L (rows.take n) y+if y∈ps2.take t then r.2 else 0)+r.2=_;rw[if_neg ny];lia};rw[if_neg c];have em:(p∈ps2.take t++(some y).toList)↔p∈ps2.take t:=by rw[VU];exact⟨λh=>h.elim id λz=>absurd (V6.mp z) c,.inl⟩
     by_cases c2:p∈ps2.take t;{rw[if_pos c2,if_pos (em.mpr c2)]};rw[if_neg c2,if_neg λz=>c2 (em.mp z)]
    rw[e8];rfl
   rintro _⟨o9,rfl,z9⟩;refine hJ _ ⟨some (.sh,jW r.1.1),some (.sh,jW r.1.2),some (.sh,.int r.2),o9,?_,rfl,rfl,rfl,z9,λr' hr'=>?_,λr' hr'=>?_,?_⟩
   .rw[Wd];have e7:(List.range m).map (λp=>ldK m es L (rows.take n) p+if p∈ps2 then r.2 else 0)=(List.range m).map λp=>ldK m es L (rows.take (n+1)) p:=Vx λp _=>by rw[ls p]
    rw[e7]
   .rw[tk]at hr';rcases VU.mp hr' with h|h;{exact ps r' h};rw[V6.mp h];lia
   .rw[tk]at hr';rcases VU.mp hr' with h|h;{exact sb r' h};rw[V6.mp h];exact⟨f,hf,ef⟩
   rw[<-e4];exact Xl.mpr ⟨nd,WB.mpr ⟨WH,WU⟩,λa ha b hb z=>by rw[V6.mp hb]at z;exact c3 (z▸ha)⟩
  rw[Bool.not_eq_true]at c2;rw[c2];rfl';refine q false ⟨(λz=>by cases z),λz=>?_⟩;rw[Nj.mpr (z.sub r mr)]at c2;cases c2
 rintro _⟨o6,o7,o8,o9,rfl,z6,z7,z8,z9,ps,sb,nd⟩;rw[Wd]at ps sb nd⊢;show B _;right;refine⟨_,rfl,λz=>?_,λM h1 h2=>?_⟩;{have:=congrArg List.length z;rw[V2,V9]at this;exact absurd this (show m≠0 by lia)};rfl';obtain⟨p,hp,rfl⟩:=V5.mp h1;refine q (decide (ldK m es L rows p<=d)) ?_;rw[Wy];exact⟨λh=>⟨ps,sb,nd,λp' hp'=>XE (h2 _ (Wz (VD.mpr hp'))) h⟩,λh=>h.load p (VD.mp hp)⟩
structure Ht(m:Nat)(es:Zt)(L:List (Th×Th)) (d S:Int)(ns:A06)(rl:List l6):Prop where
 d1:1<=d
 len:ns.length=m
 nn:∀x∈ns,0<=x
 least:∀f∈L,d<=jS m es ns f
 pos:∀r∈rl,1<=r.2
 sub:∀r∈rl,r.1∈L
 nd:(rl.map (·.1)).Nodup
 load:∀p,p<m->(rl.map λr=>if p∈b9 m es r.1.1 r.1.2 then r.2 else 0).sum<=d
 sn:ns.sum=S
 sr:(rl.map (·.2)).sum=S
 few:rl.length<=7
 du:d<=100000
 s0:-100000<=S
 s1:S<=100000
 yI:∀ys:A06,ys.length=m->(∀y∈ys,0<=y)->∀M:Int,(∀f∈L,M<=jS m es ys f)->M*S<=ys.sum*d
theorem CS{α β:Type}{f:α->β}:∀{l:List α},l.Nodup->(∀a∈l,∀b∈l,f a=f b->a=b)->(l.map f).Nodup
 |[],_,_=>WU
 |a::l,h,i=>by obtain⟨h1,h2⟩:=WB.mp h;rw[VP];refine WB.mpr ⟨λz=>?_,CS h2 λx hx y hy=>i x (V8 _ hx) y (V8 _ hy)⟩;obtain⟨b,hb,e⟩:=V5.mp z;have:=i b (V8 _ hb) a V3 e;exact h1 (this▸hb)
def Oc{m:Nat}{l:List eY}(W:bX m es)(hm:m<=7)(R:oK m es k l)(O:nA l m b):Ht m es (cu (aq k m es)) (Lp.dt m (mA l m) b) (Lp.T m (mA l m) b m (l.length+m)) ((List.range m).map (shr l m b)) (rls l m b):=by
 have tb:=Od (l:=l) O.bs.len hm m (l.length+m);have fil:∀i,i∈(List.range m).filter (λi=>decide (0<Lp.T m (mA l m) b i (l.length+m))&&decide (b.getD i 0<l.length))->i<m/\0<Lp.T m (mA l m) b i (l.length+m)/\b.getD i 0<l.length:=λi hi=>by obtain⟨h1,h2⟩:=Wr.mp hi;rw[VB,Wy,Wy]at h2;exact⟨VD.mp h1,h2.1,h2.2⟩
 refine⟨O.bs.pos,by rw[V2,V9],λx hx=>?_,λf hf=>?_,λr hr=>?_,λr hr=>?_,?_,λp hp=>?_,by rw[j9,LR W R O],by rw[L1 O,BC W R O],?_,Om O.bs.len hm,tb.1,tb.2,λys hl hy M hM=>?_⟩;{obtain⟨p,hp,rfl⟩:=V5.mp hx;exact OB O (VD.mp hp)}
 .refine XE (Jo W R O hf) (XZ (Lp.bB λp hp=>?_));have e:((List.range m).map (shr l m b)).getD p 0=shr l m b p:=by rw[VH,VA,VN hp];rfl
  rw[e]
 .obtain⟨i,hi,rfl⟩:=V5.mp hr;exact(fil i hi).2.1
 .obtain⟨i,hi,rfl⟩:=V5.mp hr;obtain⟨f,hf,e⟩:=kP (m:=m) (es:=es) R (fil i hi).2.2;show((l.getD (b.getD i 0) iU).1,(l.getD (b.getD i 0) iU).2.1)∈_;rw[e];exact hf
 .unfold rls;rw[V7];refine CS (Wi.sublist List.filter_sublist) λi hi j hj z=>?_;obtain⟨i1,_,i2⟩:=fil i hi;obtain⟨j1,_,j2⟩:=fil j hj;obtain⟨f,_,e⟩:=kP (m:=m) (es:=es) R i2;obtain⟨g,_,e'⟩:=kP (m:=m) (es:=es) R j2;have z:((l.getD (b.getD i 0) iU).1,(l.getD (b.getD i 0) iU).2.1)=((l.getD (b.getD j 0) iU).1,(l.getD (b.getD j 0) iU).2.1):=z;rw[e,e']at z;have fg:f=g:=WD (congrArg Prod.fst z) (congrArg Prod.snd z);refine O.bs.nd i1 j1 ((X0 (by rw[V2];exact i2) R.AW).mp ?_);rw[VA,VA,oG (d:=iU) i2,oG (d:=iU) j2,e,e',fg]
 .refine XE (XZ ?_) (wk W R O hp);unfold rls;rw[V7];refine Eq.trans (qK (f:=λi=>if p∈b9 m es (l.getD (b.getD i 0) iU).1 (l.getD (b.getD i 0) iU).2.1 then Lp.T m (mA l m) b i (l.length+m)else 0) (p:=λi=>decide (0<Lp.T m (mA l m) b i (l.length+m))&&decide (b.getD i 0<l.length)) m) (Lp.bB λi hi=>?_);rw[<-GF O hi];by_cases c:b.getD i 0<l.length
  .obtain⟨f,_,e⟩:=kP (m:=m) (es:=es) R c;rw[e];show(if _ then(if p∈b9 m es f.1 f.2 then _ else _)else _)=if p∈b9 m es f.1 f.2 then _ else _
   split<;>split<;>rfl
  have z:¬(decide (0<Lp.T m (mA l m) b i (l.length+m))&&decide (b.getD i 0<l.length))=true:=by rw[Vv c,YO];decide
  rw[if_neg z,if_neg z];split<;>rfl
 .unfold rls;rw[V2];refine VX (Ze _ _) ?_;rw[V9];exact hm
 have:=yI W R O (y:=λp=>ys.getD p 0) (M:=M) (λp hp=>hy _ (uo (by lia))) hM;rwa[<-hl,<-t6,hl]at this
def TX{l k:A06}(h:l.Perm k):l.sum=k.sum:=by
 induction h with
 |nil=>rfl
 |cons a _ ih=>rw[Y7,Y7,ih]
 |swap a b l=>rw[Y7,Y7,Y7,Y7];lia
 |trans _ _ h1 h2=>exact h1.trans h2
variable{m n:Nat}{es:Zt}{T:List Th}{g:Nat->Nat}{th:Nat->Th}{fS:Nat->Nat->Nat}{d S:Int}{sh:A06}{rl:List l6}{above below:Nat}
def N5(h:((List.range m).map g).Perm (List.range m)){c:Nat}(hc:c<m):g c<m:=
 VD.mp (h.mem_iff.mp (V5.mpr ⟨c,VD.mpr hc,rfl⟩))
def Ct{p:Nat}:p∈b9 m es t u↔p<m/\PB.td es p t≠PB.td es p u:=by unfold b9;rw[Wr,VD,Wy]
end PB
namespace Gr
def R.map{E E':Nat->Nat->Prop}{g:Nat->Nat}(h:∀x y,E x y->E' (g x) (g y)){p n x:Nat}(r:R E p n x):R E' (g p) n (g x):=by
 induction r with
 |zero=>exact .zero
 |step _ e ih=>exact .step ih (h _ _ e)
structure dU(m:Nat)(es es2:Zt)(ms:A05):Prop where
 pm:ms.Perm (List.range m)
 g1:Good m es
 p2:es2.Perm (es.map (fR ms))
variable{m:Nat}{es es2:Zt}{ms:A05}
def dU.len(I:dU m es es2 ms):ms.length=m:=by rw[I.pm.length_eq,V9]
def dU.inj(I:dU m es es2 ms){a b:Nat}(ha:a<m)(hb:b<m)(e:ms.getD a 0=ms.getD b 0):a=b:=getD_inj (I.pm.nodup_iff.mpr Wi) (by rw[I.len];exact ha) (by rw[I.len];exact hb) e
def Br{x y:Nat}(h:fR ms e=(x,y)):(x=ms.getD e.1 0/\y=ms.getD e.2 0)\/(x=ms.getD e.2 0/\y=ms.getD e.1 0):=by have h1:min (ms.getD e.1 0) (ms.getD e.2 0)=x:=congrArg Prod.fst h;have h2:max (ms.getD e.1 0) (ms.getD e.2 0)=y:=congrArg Prod.snd h;lia
def dU.to(I:dU m es es2 ms) (x y:Nat)(h:cT es x y):cT es2 (ms.getD x 0) (ms.getD y 0):=by
 have one:∀x y,(x,y)∈es->cT es2 (ms.getD x 0) (ms.getD y 0):=λx y h=>by have z:fR ms (x,y)∈es2:=I.p2.mem_iff.mpr (V5.mpr ⟨_,h,rfl⟩);rcases Br (show fR ms (x,y)=((fR ms (x,y)).1,(fR ms (x,y)).2)from rfl)with⟨e1,e2⟩|⟨e1,e2⟩;{exact .inl (by rw[<-show(fR ms (x,y)).1=ms.getD x 0 from e1,<-show(fR ms (x,y)).2=ms.getD y 0 from e2];exact z)};exact .inr (by rw[<-show(fR ms (x,y)).1=ms.getD y 0 from e1,<-show(fR ms (x,y)).2=ms.getD x 0 from e2];exact z)
 rcases h with h|h;{exact one x y h};exact kD _ _ (one y x h)
def dU.of(I:dU m es es2 ms){x y:Nat}(h:cT es2 x y):∃a b,cT es a b/\x=ms.getD a 0/\y=ms.getD b 0:=by
 have one:∀x y,(x,y)∈es2->∃a b,cT es a b/\x=ms.getD a 0/\y=ms.getD b 0:=λx y h=>by obtain⟨e,he,z⟩:=V5.mp (I.p2.mem_iff.mp h);rcases Br z with⟨e1,e2⟩|⟨e1,e2⟩;{exact⟨e.1,e.2,.inl he,e1,e2⟩};exact⟨e.2,e.1,.inr he,e1,e2⟩
 rcases h with h|h;{exact one x y h};obtain⟨a,b,h1,h2,h3⟩:=one y x h;exact⟨b,a,kD _ _ h1,h3,h2⟩
def dU.back(I:dU m es es2 ms){p n y:Nat}(hp:p<m)(r:R (cT es2) (ms.getD p 0) n y):∃x,x<m/\y=ms.getD x 0/\R (cT es) p n x:=by
 induction r with
 |zero=>exact⟨p,hp,rfl,.zero⟩
 |step _ e ih=>obtain⟨x,hx,rfl,rx⟩:=ih;obtain⟨a,b,h1,h2,rfl⟩:=I.of e;have:=I.g1.J4 h1;have e1:=I.inj hx this.1 h2;subst e1;exact⟨b,this.2,rfl,.step rx h1⟩
theorem dU.dst(I:dU m es es2 ms)(cn:ff m es){p x:Nat}(hp:p<m)(hx:x<m):dst (cT es2) (ms.getD p 0) (ms.getD x 0)=dst (cT es) p x:=by obtain⟨d,hd⟩:=cn p hp x hx;have di:=Gs hd;refine tR ⟨di.1.map I.to,λe he r=>?_⟩;obtain⟨y,hy,e1,ry⟩:=I.back hp r;rw[<-I.inj hx hy e1]at ry;exact di.2 e he ry
end Gr
namespace PB
open PySem L2 Dv Gr
def cg (ms:A05):Th->Th
 |.inl x=>.inl (ms.getD x 0)
 |.inr e=>.inr (fR ms e)
section
variable{m:Nat}{es es2:Zt}{ms:A05}
def G9(I:dU m es es2 ms)(cn:ff m es){p:Nat}(hp:p<m)(ht:TV m t):PB.td es2 (ms.getD p 0) (cg ms t)=PB.td es p t:=by
 cases t with
 |inl x=>exact I.dst cn hp ht
 |inr e=>obtain⟨h1,h2⟩:e.1<m/\e.2<m:=ht;have a1:=I.dst cn hp h1;have a2:=I.dst cn hp h2;show min (aF es2 (ms.getD p 0) (min (ms.getD e.1 0) (ms.getD e.2 0))) (aF es2 (ms.getD p 0) (max (ms.getD e.1 0) (ms.getD e.2 0)))=min (aF es p e.1) (aF es p e.2);unfold aF;rw[<-a1,<-a2];rcases Xz (ms.getD e.1 0) (ms.getD e.2 0)with z|z;{rw[XY z,Nat.max_eq_right z]};rw[Y0 z,Nat.max_eq_left z,Nat.min_comm]
def qR(I:dU m es es2 ms)(W:bX m es):bX m es2:=⟨W.pos,W.le,Good.perm I.p2 (C6 I.pm I.g1),w6 I.p2 (uE I.pm W.cn)⟩
def pJ(I:dU m es es2 ms):((List.range m).map λa=>ms.getD a 0).Perm (List.range m):=by have h:=vm (f:=id) (d:=(0:Nat)) (l:=ms);rw[List.map_id,I.len]at h;rw[show(List.range m).map (λa=>ms.getD a 0)=ms from h.symm];exact I.pm
def f7(I:dU m es es2 ms) (k:Str):(aq k m es2).Perm ((aq k m es).map (cg ms)):=by unfold aq;rw[VJ];refine List.Perm.append ?_ ?_;{split;{exact .refl _};rw[V7];have h:=((pJ I).map (Sum.inl:Nat->Th)).symm;rw[V7]at h;exact h};split;{exact .refl _};rw[V7];have h:=I.p2.map (Sum.inr:Nat×Nat->Th);rw[V7]at h;exact h
def vh(I:dU m es es2 ms)(ht:t∈aq k m es)(hu:u∈aq k m es)(e:cg ms t=cg ms u)(W:bX m es):t=u:=by have nd:((aq k m es).map (cg ms)).Nodup:=(f7 I k).nodup_iff.mp (c9 (qR I W).gd);obtain⟨i,hi⟩:=W6 ht;obtain⟨j,hj⟩:=W6 hu;have li:=aZ hi;have:=(X0 (i:=i) (j:=j) (by rw[V2];exact li) nd).mp (by rw[VA,VA,hi,hj];exact congrArg some e);subst this;rw[hi]at hj;exact Option.some.inj hj
def uq{i j:Nat}(h:i<j)(hi:T[i]?=some t)(hj:T[j]?=some u):(t,u)∈cu T:=by unfold cu;have lj:=aZ hj;refine Vy.mpr ⟨i,VD.mpr (by lia),V5.mpr ⟨u,VV (i:=j-(i+1)) ?_,?_⟩⟩;{rw[YQ,show i+1+(j-(i+1))=j by lia,hj]};rw[VH,hi];rfl
def yd(nd:T.Nodup)(h:(t,u)∈cu T):∃i j:Nat,i<j/\T[i]?=some t/\T[j]?=some u:=by unfold cu at h;obtain⟨i,hi,h⟩:=Vy.mp h;obtain⟨v,hv,e⟩:=V5.mp h;obtain⟨n,hn⟩:=W6 hv;rw[YQ]at hn;have e1:T.getD i (.inl 0)=t:=congrArg Prod.fst e;have e2:v=u:=congrArg Prod.snd e;subst e2;exact⟨i,i+1+n,by lia,by rw[<-e1];exact oG (VD.mp hi),hn⟩
def DY(ht:t∈T)(hu:u∈T)(ne:t≠u):(t,u)∈cu T\/(u,t)∈cu T:=by obtain⟨i,hi⟩:=W6 ht;obtain⟨j,hj⟩:=W6 hu;rcases Xh i j with c|c|c;{exact .inl (uq c hi hj)};{subst c;rw[hi]at hj;exact absurd (Option.some.inj hj) ne};exact .inr (uq c hj hi)
def MP(nd:T.Nodup)(h:(t,u)∈cu T):(u,t)∉cu T:=λh'=>by obtain⟨i,j,h1,h2,h3⟩:=yd nd h;obtain⟨a,b,h4,h5,h6⟩:=yd nd h';have li:=aZ h2;have e1:=(X0 (i:=i) (j:=b) li nd).mp (h2.trans h6.symm);have e2:=(X0 (i:=j) (j:=a) (aZ h3) nd).mp (h3.trans h5.symm);lia
def BO:b9 m es t u=b9 m es u t:=by unfold b9;refine List.filter_congr λp _=>?_;rw[decide_eq_decide];exact⟨λh z=>h z.symm,λh z=>h z.symm⟩
def vM(I:dU m es es2 ms)(cn:ff m es){p:Nat}(hp:p<m)(ht:TV m t)(hu:TV m u):ms.getD p 0∈PB.b9 m es2 (cg ms t) (cg ms u)↔p∈PB.b9 m es t u:=by rw[Ct,Ct,G9 I cn hp ht,G9 I cn hp hu];exact⟨λh=>⟨hp,h.2⟩,λh=>⟨N5 (pJ I) hp,h.2⟩⟩
end
structure PV(m:Nat)(es:Zt) (k:Str) (d:Int)(ns:A06)(rows:List om):Prop where
 d1:1<=d
 len:ns.length=m
 nn:∀x∈ns,0<=x
 least:∀f∈cu (aq k m es),d<=jS m es ns f
 pk:S7 m es (cu (aq k m es)) d rows
 eq:ns.sum=(rows.map (·.2)).sum
def Di:bG:=λdd Q x=>∃(m:Nat)(es:Zt) (k:Str) (d:Int)(ns:A06)(rows:List om),dd=[wD m es,.str k,.int d,zD ns,.list (rows.map sX)]/\bX m es/\m<=7/\ns.length<=60/\rows.length<=90/\∀b:Bool,(b=true↔PV m es k d ns rows)->Q [] .sh (.bool b)
def qP{α:Type}{l:List α}{p:α->Prop} [DecidablePred p]:(l.map λa=>decide (p a)).any id=true↔∃a∈l,p a:=by rw[List.any_map,Yq];exact⟨λ⟨a,h1,h2⟩=>⟨a,h1,WA h2⟩,λ⟨a,h1,h2⟩=>⟨a,h1,Vu h2⟩⟩
def BD{α:Type}{l:List α}{f:α->Bool}{P:Kd->PyData->Prop}(q:P .sh (.bool ((l.map f).any id))):yg [.list (l.map λa=>.bool (f a))] P:=⟨l.map f,by rw[V7];rfl,q⟩
def T9{e0 e1 e2 e3 e4 e5 e6 o7 o8 o9 e10:Option (Kd×PyData)}(h7:bA o7=true)(h8:bA o8=true)(h9:bA o9=true):br [7,8,9] [e0,e1,e2,e3,e4,e5,e6,o7,o8,o9,e10]=some [e0,e1,e2,e3,e4,e5,e6,none,none,none,e10]:=by simp![h7,h8,h9]
def Qk:∀dd Q x,Di dd Q x->iJ vE uY D8 (bx [false,false,false,false,false] Q x) (ini [false,false,false,false,false] dd++List.replicate 6 none):=by
 rintro _ Q x⟨m,es,k,d,ns,rows,rfl,W,hm,hn,hr,q⟩;have gl:=ko W.gd;have m1:=W.pos;have m49:m*m<=49:=Xm hm hm;have few:es.length<=25:=by lia
 have lT:(aq k m es).length<=32:=by
  unfold aq;rw[VI];have a:(if k="ties" then []else(List.range m).map Sum.inl:List Th).length<=7:=by split<;>simp;lia
  have b:(if k="places" then []else es.map Sum.inr:List Th).length<=25:=by split<;>simp;lia
  lia
 have l2:=Xm lT lT;have l3:(cu (aq k m es)).length<=1024:=VX CH l2;unfold iJ;left;refine⟨m,es,rfl,hm,?_⟩;rfl';symm;refine⟨m,es,k,rfl,W,by lia,?_⟩;rfl';symm;by_cases c1:d<1;{rw[if_pos c1];exact q false ⟨(λz=>by cases z),λz=>by have:=z.d1;lia⟩};rw[if_neg c1];by_cases c2:¬ns.length=m;{rw[if_pos c2];exact q false ⟨(λz=>by cases z),λz=>absurd z.len c2⟩};rw[if_neg c2];have c2:=Decidable.not_not.mp c2;refine eX (λn=>PyData.bool (decide (n<0))) rfl (λn _ I hI=>?_) ?_ (by lia);{rfl';exact hI _ rfl};rfl';refine BD (f:=λn:Int=>decide (n<0)) ?_;rfl';by_cases c3:(∃x∈ns,x<0);{rw[if_pos (qP.mpr c3)];exact q false ⟨(λz=>by cases z),λz=>by obtain⟨x,h1,h2⟩:=c3;have:=z.nn x h1;lia⟩};rw[if_neg λz=>c3 (qP.mp z)];show B _;symm;refine eX (λe=>PyData.bool (decide (jS m es ns e<d))) rfl (λe he I hI=>?_) ?_ (by lia)
 .rfl';have lp:(b9 m es e.1 e.2).length<=m:=VX (Ze ..) (by rw[V9];exact V4 _);refine eX (λp=>PyData.int (ns.getD p 0)) rfl (λp hp I2 hI2=>?_) ?_ (by lia)
  .have hp:=VD.mp (Wr.mp hp).1;have gp:ns[p]?=some (ns.getD p 0):=by rw[VH,VG (by lia)];rfl
   rfl';exact aG gp (hI2 _ rfl)
  rfl';refine⟨(b9 m es e.1 e.2).map λp=>ns.getD p 0,by rw[V7];rfl,?_⟩;rfl';rw[QJ];exact hI _ rfl
 rfl';refine BD (f:=λe=>decide (jS m es ns e<d)) ?_;rfl';by_cases c4:(∃e∈cu (aq k m es),jS m es ns e<d);{rw[if_pos (qP.mpr c4)];exact q false ⟨(λz=>by cases z),λz=>by obtain⟨x,h1,h2⟩:=c4;have:=z.least x h1;lia⟩};rw[if_neg λz=>c4 (qP.mp z)];show B _;rw[hB];clear hB B;refine aV λB hB=>?_;have knd:(aq k m es).Nodup:=c9 W.gd;have pnd:=Nm knd;rfl';unfold Ed;rfl';refine⟨_,λn kvs E=>kvs=qw m es ((cu (aq k m es)).take n)/\∃(o7 o8 o9:Option (Kd×PyData)),E=[some (.sh,wD m es),some (.sh,.str k),some (.sh,.int d),some (.sh,zD ns),some (.sh,.list (rows.map sX)),some (.sh,.list ((cu (aq k m es)).map (zJ m es))),none,o7,o8,o9,none]/\bA o7=true/\bA o8=true/\bA o9=true,rfl,⟨rfl,none,none,none,rfl,rfl,rfl,rfl⟩,?_,?_⟩
 .rintro i dd kvs _ hi⟨rfl,o7,o8,o9,rfl,z7,z8,z9⟩;rw[VA]at hi;obtain⟨f,hf,rfl⟩:=X5.mp hi;simp![z7,z8,z9];have tk:(cu (aq k m es)).take (i+1)=(cu (aq k m es)).take i++[f]:=by rw[Xj,hf];rfl
  refine⟨by lia,iT f,?_,λz=>?_,⟨_,rfl⟩,by rw[WI];lia,?_,_,_,_,rfl,rfl,rfl,rfl⟩;{rw[<-uU f.1,<-uU f.2];rfl};{rw[V7]at z;obtain⟨g,hg,e⟩:=V5.mp z;have e:g=f:=uZ e;subst e;obtain⟨j,hj⟩:=W6 hg;have lj:=aZ hj;rw[WI]at lj;rw[Ye (by lia)]at hj;have:=(X0 (by lia) pnd).mp (hj.trans hf.symm);lia};rw[tk];unfold qw;rw[VJ];rfl
 rintro kvs _⟨rfl,o7,o8,o9,rfl,z7,z8,z9⟩;rw[Wd];refine aG (T9 z7 z8 z9) ⟨rfl,?_⟩;right;refine⟨m,es,cu (aq k m es),d,rows,rfl,m1,by lia,hr,λb hb=>?_⟩;rfl';have all:(b=true/\ns.sum=(rows.map (·.2)).sum)↔PV m es k d ns rows:=⟨λ⟨h1,h2⟩=>⟨by lia,c2,λx hx=>by
   refine Wx.mp λz=>c3 ⟨x,hx,z⟩,λf hf=>Wx.mp λz=>c4 ⟨f,hf,z⟩,hb.mp h1,h2⟩,λh=>⟨hb.mpr h.pk,h.eq⟩⟩
 cases b with
 |false=>rw[if_neg (by decide)];exact q false ⟨(λz=>by cases z),λz=>by cases (all.mpr z).1⟩
 |true=>
  rfl';refine⟨ns,rfl,?_⟩;rfl';refine eX (λr:om=>PyData.int r.2) rfl (λr _ I hI=>?_) ?_ (by lia)
  .rfl';first
   |exact hI _ rfl
   |exact aG rfl (hI _ rfl)
  rfl';refine⟨rows.map (·.2),by rw[V7];rfl,?_⟩;rfl';refine q (decide (ns.sum=(rows.map (·.2)).sum)) ?_;rw[Wy];exact⟨λh=>all.mp ⟨rfl,h⟩,λh=>(all.mpr h).2⟩
def vQ:bG:=λdd Q x=>∃(m:Nat)(ms:A05)(t:Th),dd=[nD ms,bU t]/\ms.length=m/\TV m t/\Q [] .sh (bU (cg ms t))
def Nb:∀dd Q x,vQ dd Q x->gY (bx [false,false] Q x) (ini [false,false] dd++List.replicate 2 none):=by
 rintro _ Q x⟨m,ms,t,rfl,hm,ht,q⟩;have gp:∀{p:Nat},p<m->ms[p]?=some (ms.getD p 0):=λ{p} hp=>by rw[VH,VG (by lia)];rfl
 unfold gY;cases t with
 |inl y=>have ht:y<m:=ht;rw[show bU (Sum.inl y)=iD y from rfl];rfl';refine aG (gp ht) ?_;exact q
 |inr e=>
  obtain⟨h1,h2⟩:e.1<m/\e.2<m:=ht;rw[show bU (Sum.inr e)=.tuple ([e.1,e.2].map iD)from rfl];rfl';refine eX (λp=>iD (ms.getD p 0)) rfl (λp hp I hI=>?_) ?_ (show 2<=16777216 by decide)
  .have hp:p<m:=by rcases VF.mp hp with rfl|hp;{exact h1};rw[V6.mp hp];exact h2
   rfl';exact aG (gp hp) (hI _ rfl)
  refine⟨rfl,?_⟩;rfl';refine⟨[((ms.getD e.1 0:Nat):Int),((ms.getD e.2 0:Nat):Int)],rfl,(λz=>by cases z),λM a1 a2=>?_⟩;have a3:=a2 _ V3;have a4:=a2 _ (V8 _ V3);have eM:M=((min (ms.getD e.1 0) (ms.getD e.2 0):Nat):Int):=by rcases VF.mp a1 with z|z;{lia};have:=V6.mp z;lia
  rfl';refine⟨[((ms.getD e.1 0:Nat):Int),((ms.getD e.2 0:Nat):Int)],rfl,(λz=>by cases z),λN b1 b2=>?_⟩;have b3:=b2 _ V3;have b4:=b2 _ (V8 _ V3);have eN:N=((max (ms.getD e.1 0) (ms.getD e.2 0):Nat):Int):=by rcases VF.mp b1 with z|z;{lia};have:=V6.mp z;lia
  rfl';rw[eM,eN];exact⟨by decide,q⟩
def jo (ms:A05) (m:Nat)(ns:A06) (n:Nat):A06:=(List.range n).foldl (λl p=>l.set (ms.getD p 0) (ns.getD p 0)) (List.replicate m 0)
def lD (T:List Th)(t:Th):Nat:=T.findIdx λu=>decide (u=t)
def cY (ms:A05)(T:List Th)(r:l6):l6:=if lD T (cg ms r.1.2)<lD T (cg ms r.1.1)then((cg ms r.1.2,cg ms r.1.1),r.2)else((cg ms r.1.1,cg ms r.1.2),r.2)
def xP:(cY ms T r).2=r.2:=by unfold cY;split<;>rfl
def sf{m:Nat}{n:Nat}:jo ms m ns (n+1)=(jo ms m ns n).set (ms.getD n 0) (ns.getD n 0):=by unfold jo;rw[Wc,List.foldl_append];rfl
theorem iz{m:Nat}:∀{n:Nat},(jo ms m ns n).length=m
 |0=>Wb
 |n+1=>by rw[sf,VY,iz]
theorem Fe{m:Nat}(pm:ms.Perm (List.range m)):∀{n:Nat},n<=m->∀p,p<n->(jo ms m ns n).getD (ms.getD p 0) 0=ns.getD p 0
 |0,_,p,hp=>by lia
 |n+1,hn,p,hp=>by
  have lm:ms.length=m:=by rw[pm.length_eq,V9]
  have gl:ms.getD p 0<m:=by
   have:ms.getD p 0∈ms:=by rw[VH,VG (by lia)];exact XU _
   exact VD.mp (pm.mem_iff.mp this)
  rw[sf,VH,Wf];by_cases c:ms.getD n 0=ms.getD p 0;{have e:=getD_inj (pm.nodup_iff.mpr Wi) (by lia) (by lia) c;subst e;rw[if_pos rfl,if_pos (by rw[iz];exact gl)];rfl};rw[if_neg c,<-VH];refine Fe pm (by lia) p ?_;refine Nat.lt_of_le_of_ne (by lia) λz=>c (by rw[z])
def O6(h:bU a=bU b):a=b:=by
 refine vL ?_;cases a with
 |inl x=>
  cases b with
  |inl y=>have h:(PyData.int x)=.int y:=h;injection h with h;rw[Int.ofNat.inj h]
  |inr e=>cases h
 |inr e=>
  cases b with
  |inl y=>cases h
  |inr f=>have h:(PyData.tuple [.int e.1,.int e.2])=.tuple [.int f.1,.int f.2]:=h;injection h with h;injection h with h1 h;injection h with h2 h;injection h1 with h1;injection h2 with h2;rw[show e=f from WD (Int.ofNat.inj h1) (Int.ofNat.inj h2)]
def DQ(t:Th):dl 8 (bU t)=true:=by cases t<;>rfl
def jw(ht:t∈T):T[lD T t]?=some t:=by have h:lD T t<T.length:=List.findIdx_lt_length_of_exists ⟨t,ht,Vu rfl⟩;have:=List.findIdx_getElem (w:=h);rw[VG h];exact congrArg some (WA this)
def HF(nd:T.Nodup)(ht:t∈T):(T.map bU)[lD T t]?=some (bU t)/\∀(m:Nat) e,m<lD T t->(T.map bU)[m]?=some e->e≠bU t:=by refine⟨by rw[VA,jw ht];rfl,λm e hm he z=>?_⟩;rw[VA]at he;obtain⟨u,hu,rfl⟩:=X5.mp he;have:=O6 z;subst this;have:=(X0 (aZ hu) nd).mp (hu.trans (jw ht).symm);lia
def CK:bG:=λdd Q x=>∃(m:Nat)(ms:A05)(T L:List Th) (d:Int)(ns:A06)(rl:List l6),dd=[nD ms,.list (T.map bU),.tuple [.int d,zD ns,.list (rl.map gS)]]/\ms.Perm (List.range m)/\1<=m/\m<=60/\ns.length=m/\T.Nodup/\(∀t∈L,TV m t/\cg ms t∈T)/\(∀r∈rl,r.1.1∈L/\r.1.2∈L)/\rl.length<=90/\Q [] .sh (.tuple [.int d,zD (jo ms m ns m),.list ((rl.map (cY ms T)).map gS)])
def Oz:∀dd Q x,CK dd Q x->gR vQ (bx [false,false,false] Q x) (ini [false,false,false] dd++List.replicate 10 none):=by
 rintro _ Q x⟨m,ms,T,L,d,ns,rl,rfl,pm,h1,h2,ln,ndT,hL,hr,lr,q⟩;have lm:ms.length=m:=by rw[pm.length_eq,V9]
 have gp:∀{p:Nat},p<m->ms[p]?=some (ms.getD p 0):=λ{p} hp=>by rw[VH,VG (by lia)];rfl
 unfold gR;left;symm;refine⟨by lia,⟨by lia,by lia,by lia⟩,?_⟩;rw[hB,ZE,ln];clear hB B;left;rw[if_pos (by lia)];refine aG rfl ?_;rw[ln];have e0:List.replicate m (PyData.int 0)=(jo ms m ns 0).map .int:=(List.map_replicate).symm;rw[e0];refine n9 (λn E=>∃(o7:Option (Kd×PyData)),E=[some (.sh,nD ms),some (.sh,.list (T.map bU)),some (.sh,.tuple [.int d,zD ns,.list (rl.map gS)]),some (.sh,.int d),some (.sh,zD ns),some (.sh,.list (rl.map gS)),some (.ow false,.list ((jo ms m ns n).map .int)),o7,none,none,none,none,none]/\bA o7=true) ⟨none,rfl,rfl⟩ ?_ ?_
 .rintro J n _ hn2 hJ⟨o7,rfl,z7⟩;have gz:ns[n]?=some (ns.getD n 0):=by rw[VH,VG (by lia)];rfl
  simp![z7];have yl:ms.getD n 0<m:=by have:ms.getD n 0∈ms:=VV (gp hn2);exact VD.mp (pm.mem_iff.mp this)
  refine aG gz (aG (gp hn2) (qI (by rw[iz];exact yl) (hJ _ ⟨some (.sh,iD n),?_,rfl⟩)));rw[sf,Z9]
 rintro _⟨o7,rfl,z7⟩;show B _;symm;refine⟨by decide,?_⟩;symm;refine oj (λn E=>Gn λ(o9 o10 o11 o12:Option (Kd×PyData))=>Nu (E=[some (.sh,nD ms),some (.sh,.list (T.map bU)),some (.sh,.tuple [.int d,zD ns,.list (rl.map gS)]),some (.sh,.int d),some (.sh,zD ns),some (.sh,.list (rl.map gS)),some (.ow false,.list ((jo ms m ns m).map .int)),o7,some (.ow false,.list (((rl.take n).map (cY ms T)).map gS)),o9,o10,o11,o12]) (bA o9=true) (bA o10=true) (bA o11=true) (bA o12=true)) ⟨none,none,none,none,rfl,rfl,rfl,rfl,rfl⟩ ?_ ?_
 .rintro J n r _ hn hJ⟨o9,o10,o11,o12,rfl,z9,z10,z11,z12⟩;have tk:rl.take (n+1)=rl.take n++[r]:=by rw[Xj,hn];rfl
  have mr:=VV hn;simp![z9,z10,z11,z12];obtain⟨⟨v1,k1⟩,v2,k2⟩:=WY (hL _ (hr r mr).1) (hL _ (hr r mr).2);refine⟨m,ms,_,rfl,lm,v1,?_⟩;rfl';refine⟨m,ms,_,rfl,lm,v2,?_⟩;simp![z12];refine⟨by decide,?_⟩;refine uS (λE=>E=[some (.sh,nD ms),some (.sh,.list (T.map bU)),some (.sh,.tuple [.int d,zD ns,.list (rl.map gS)]),some (.sh,.int d),some (.sh,zD ns),some (.sh,.list (rl.map gS)),some (.ow false,.list ((jo ms m ns m).map .int)),o7,some (.ow false,.list (((rl.take n).map (cY ms T)).map gS)),some (.sh,bU r.1.1),some (.sh,bU r.1.2),some (.sh,.int r.2),some (.ow false,.list [bU (cY ms T r).1.1,bU (cY ms T r).1.2])]) (λJ2 hJ2=>?_) λB2 hB2=>?_
  .obtain⟨i1,i2⟩:=HF ndT k1;obtain⟨i3,i4⟩:=HF ndT k2;have dls:(T.map bU).all (dl 8)=true:=VW.mpr λe he=>by obtain⟨t,_,rfl⟩:=V5.mp he;exact DQ t
   rfl';unfold xO;rfl';refine⟨rfl,?_⟩;rw[if_pos tX];refine⟨.sh,_,lD T (cg ms r.1.1),rfl,rfl,dls,DQ _,i1,i2,?_⟩;rfl';refine⟨rfl,?_⟩;rw[if_pos tX];refine⟨.sh,_,lD T (cg ms r.1.2),rfl,rfl,dls,DQ _,i3,i4,?_⟩;rfl';by_cases c:lD T (cg ms r.1.2)<lD T (cg ms r.1.1);{have e:cY ms T r=((cg ms r.1.2,cg ms r.1.1),r.2):=if_pos c;rw[e]at hJ2;rw[if_pos (by lia)];exact⟨rfl,hJ2 _ rfl⟩};have e:cY ms T r=((cg ms r.1.1,cg ms r.1.2),r.2):=if_neg c;rw[e]at hJ2;rw[if_neg (by lia)];exact hJ2 _ rfl
  rintro _ rfl;rw[hB2];clear hB2 B2;rfl';rw[if_pos (tX)];rfl';rw[if_pos (tX)];rfl';refine⟨by decide,by rw[WI];lia,hJ _ ⟨some (.sh,bU r.1.1),some (.sh,bU r.1.2),some (.sh,.int r.2),some (.ow false,.list [bU (cY ms T r).1.1,bU (cY ms T r).1.2]),?_,rfl,rfl,rfl,rfl⟩⟩;have e:((rl.take (n+1)).map (cY ms T)).map gS=((rl.take n).map (cY ms T)).map gS++[.tuple [bU (cY ms T r).1.1,bU (cY ms T r).1.2,.int r.2]]:=by rw[tk,VJ,VJ];have e2:(cY ms T r).2=r.2:=xP;rw[<-e2];rfl
  rw[e]
 rintro _⟨o9,o10,o11,o12,rfl,z9,z10,z11,z12⟩;rw[Wd];show B _;right;exact⟨by decide,q⟩
abbrev zz (r:l6):om:=(iT r.1,r.2)
def RT(r:l6):sX (zz r)=gS r:=by show PyData.tuple [jW (yJ r.1.1),jW (yJ r.1.2),.int r.2]=_;rw[uU,uU]
variable{m:Nat}{es es2:Zt}{ms:A05}
def Q8(I:dU m es es2 ms){p:Nat}(hp:p<m):ms.getD p 0<m:=N5 (pJ I) hp
def Gv(I:dU m es es2 ms){q:Nat}(hq:q<m):∃p,p<m/\q=ms.getD p 0:=by obtain⟨p,h1,h2⟩:=V5.mp ((pJ I).mem_iff.mpr (VD.mpr hq));exact⟨p,VD.mp h1,h2.symm⟩
def Ab(I:dU m es es2 ms){h:Nat->Int}:Lp.sm m h=Lp.sm m λp=>h (ms.getD p 0):=by rw[<-j9,<-j9];have:=TX ((pJ I).map h);rw[V7]at this;exact this.symm
def Cm(I:dU m es es2 ms)(cn:ff m es)(ht:TV m t)(hu:TV m u)(e:∀p,p<m->ns2.getD (ms.getD p 0) 0=ns.getD p 0):jS m es2 ns2 (cg ms t,cg ms u)=jS m es ns (t,u):=by unfold jS;rw[Ab I];refine Lp.bB λp hp=>?_;rw[e p hp];have:=vM I cn hp ht hu;by_cases c:p∈b9 m es t u;{rw[if_pos c,if_pos (this.mpr c)]};rw[if_neg c,if_neg λz=>c (this.mp z)]
def MQ:jS m es ns (t,u)=jS m es ns (u,t):=by
 unfold jS;show Lp.sm m (λp=>if p∈b9 m es t u then _ else _)=Lp.sm m λp=>if p∈b9 m es u t then _ else _
 rw[BO]
def vZ{d:Int}(h:∀f∈cu T,d<=jS m es ns f)(ht:t∈T)(hu:u∈T)(ne:t≠u):d<=jS m es ns (t,u):=by rcases DY ht hu ne with z|z;{exact h _ z};rw[MQ];exact h _ z
def jv(nd:T.Nodup)(h:(t,u)∈cu T):t∈T/\u∈T/\t≠u:=by obtain⟨i,j,h1,h2,h3⟩:=yd nd h;refine⟨VV h2,VV h3,λz=>?_⟩;subst z;have:=(X0 (aZ h2) nd).mp (h2.trans h3.symm);lia
variable{k:Str}{d S:Int}{ns:A06}{rl:List l6}
def yZ(I:dU m es es2 ms){p:Nat}(hp:p<m):(jo ms m ns m).getD (ms.getD p 0) 0=ns.getD p 0:=Fe I.pm (V4 m) p hp
def vY(I:dU m es es2 ms)(hl:ns.length=m):(jo ms m ns m).sum=ns.sum:=by rw[t6,iz,Ab I,t6 (ys:=ns),hl];exact Lp.bB λp hp=>yZ I hp
def pU(I:dU m es es2 ms)(W:bX m es)(h:r.1∈cu (aq k m es)):(cY ms (aq k m es2) r).1∈cu (aq k m es2)/\((cY ms (aq k m es2) r).1=(cg ms r.1.1,cg ms r.1.2)\/(cY ms (aq k m es2) r).1=(cg ms r.1.2,cg ms r.1.1)):=by have nd:=c9 (k:=k) W.gd;have nd2:=c9 (k:=k) (qR I W).gd;obtain⟨h1,h2,ne⟩:=jv nd (t:=r.1.1) (u:=r.1.2) h;have m1:cg ms r.1.1∈aq k m es2:=(f7 I k).mem_iff.mpr (Wz h1);have m2:cg ms r.1.2∈aq k m es2:=(f7 I k).mem_iff.mpr (Wz h2);have ne2:cg ms r.1.1≠cg ms r.1.2:=λz=>ne (vh I h1 h2 z W);unfold cY;by_cases c:lD (aq k m es2) (cg ms r.1.2)<lD (aq k m es2) (cg ms r.1.1);{rw[if_pos c];exact⟨uq c (jw m2) (jw m1),.inr rfl⟩};rw[if_neg c];refine⟨uq (Nat.lt_of_le_of_ne (X7.mp c) λz=>?_) (jw m1) (jw m2),.inl rfl⟩;have a1:=jw m1;rw[z,jw m2]at a1;exact ne2 (Option.some.inj a1).symm
def LM(I:dU m es es2 ms)(W:bX m es)(h:r.1∈cu (aq k m es)){p:Nat}(hp:p<m):ms.getD p 0∈b9 m es2 (cY ms (aq k m es2) r).1.1 (cY ms (aq k m es2) r).1.2↔p∈b9 m es r.1.1 r.1.2:=by obtain⟨h1,h2,ne⟩:=jv (c9 (k:=k) W.gd) (t:=r.1.1) (u:=r.1.2) h;have v1:=eS W.gd _ h1;have v2:=eS W.gd _ h2;rcases(pU I W h).2 with e|e;{rw[e];exact vM I W.cn hp v1 v2};rw[e];show _∈b9 m es2 (cg ms r.1.2) (cg ms r.1.1)↔_;rw[BO];exact vM I W.cn hp v1 v2
def Q0(hf:f∈L):HP m es L (iT f)=b9 m es f.1 f.2:=by obtain⟨g,_,e,_,h⟩:=N3 (m:=m) (es:=es) ⟨f,hf,rfl⟩;rw[h,uZ e]
def BA(I:dU m es es2 ms)(W:bX m es)(O:Ht m es (cu (aq k m es)) d S ns rl):PV m es2 k d (jo ms m ns m) ((rl.map (cY ms (aq k m es2))).map zz):=by
 have nd:=c9 (k:=k) W.gd;have nd2:=c9 (k:=k) (qR I W).gd;have mem:∀r'∈(rl.map (cY ms (aq k m es2))).map zz,∃r∈rl,r'=(iT (cY ms (aq k m es2) r).1,r.2):=λr' h=>by obtain⟨r1,h1,rfl⟩:=V5.mp h;obtain⟨r,h2,rfl⟩:=V5.mp h1;exact⟨r,h2,by rw[zz,xP]⟩
 refine⟨O.d1,iz,λx hx=>?_,λf hf=>?_,⟨λr' h=>?_,λr' h=>?_,?_,λq hq=>?_⟩,?_⟩;{obtain⟨q,hq⟩:=W6 hx;have lq:=aZ hq;rw[iz]at lq;obtain⟨p,hp,rfl⟩:=Gv I lq;have e:=yZ (ns:=ns) I hp;rw[VH,hq]at e;have e:x=ns.getD p 0:=e;rw[e];exact O.nn _ (uo (by rw[O.len];exact hp))};{obtain⟨h1,h2,ne⟩:=jv nd2 (t:=f.1) (u:=f.2) hf;obtain⟨t,ht,e1⟩:=V5.mp ((f7 I k).mem_iff.mp h1);obtain⟨u,hu,e2⟩:=V5.mp ((f7 I k).mem_iff.mp h2);have ne':t≠u:=λz=>ne (by rw[<-e1,<-e2,z]);have:=Cm (ns2:=jo ms m ns m) I W.cn (eS W.gd _ ht) (eS W.gd _ hu) λp hp=>yZ (ns:=ns) I hp;rw[e1,e2]at this;rw[show f=(f.1,f.2)from rfl,this];exact vZ O.least ht hu ne'};{obtain⟨r,hr,rfl⟩:=mem r' h;exact O.pos r hr};{obtain⟨r,hr,rfl⟩:=mem r' h;exact⟨_,(pU I W (O.sub r hr)).1,rfl⟩}
 .rw[V7,V7];have e:rl.map (((λx:om=>x.1)∘zz)∘cY ms (aq k m es2))=(rl.map (·.1)).map λf=>iT (cY ms (aq k m es2) (f,0)).1:=by rw[V7];refine Vx λr _=>?_;show iT (cY ms (aq k m es2) r).1=iT (cY ms (aq k m es2) (r.1,0)).1;unfold cY;by_cases c:lD (aq k m es2) (cg ms r.1.2)<lD (aq k m es2) (cg ms r.1.1);{rw[if_pos c,if_pos c]};rw[if_neg c,if_neg c]
  rw[e];refine CS O.nd λf hf g hg z=>?_;obtain⟨r1,a1,rfl⟩:=V5.mp hf;obtain⟨r2,a2,rfl⟩:=V5.mp hg;have b1:=O.sub r1 a1;have b2:=O.sub r2 a2;obtain⟨f1,f2,_⟩:=jv nd (t:=r1.1.1) (u:=r1.1.2) b1;obtain⟨g1,g2,_⟩:=jv nd (t:=r2.1.1) (u:=r2.1.2) b2;have z:=uZ z;have same:∀{t u:Th},t∈aq k m es->u∈aq k m es->cg ms t=cg ms u->t=u:=λht hu e=>vh I ht hu e W;have cross:¬(r1.1=(r2.1.2,r2.1.1)):=λy=>by rw[y]at b1;exact MP nd b1 b2
  rcases(pU I W (r:=(r1.1,0)) b1).2 with e1|e1<;>rcases(pU I W (r:=(r2.1,0)) b2).2 with e2|e2<;>rw[e1,e2]at z;{exact WD (same f1 g1 (congrArg Prod.fst z)) (same f2 g2 (congrArg Prod.snd z))};{exact absurd (WD (same f1 g2 (congrArg Prod.fst z)) (same f2 g1 (congrArg Prod.snd z))) cross};{exact absurd (WD (same f1 g2 (congrArg Prod.snd z)) (same f2 g1 (congrArg Prod.fst z))) cross};exact WD (same f1 g1 (congrArg Prod.snd z)) (same f2 g2 (congrArg Prod.fst z))
 .obtain⟨p,hp,rfl⟩:=Gv I hq;refine XE (XZ ?_) (O.load p hp);unfold ldK;rw[V7,V7];refine congrArg List.sum (Vx λr hr=>?_);have z:=O.sub r hr;show(if ms.getD p 0∈HP m es2 (cu (aq k m es2)) (iT (cY ms (aq k m es2) r).1)then(cY ms (aq k m es2) r).2 else 0)=_;rw[Q0 (pU I W z).1,xP];have:=LM I W z hp;by_cases c:p∈b9 m es r.1.1 r.1.2;{rw[if_pos c,if_pos (this.mpr c)]};rw[if_neg c,if_neg λy=>c (this.mp y)]
 rw[vY I O.len,O.sn,<-O.sr,V7,V7];refine congrArg List.sum (Vx λr _=>?_);exact xP.symm
def QE(I:dU m es es2 ms)(W:bX m es){d2 S2:Int}(O:Ht m es (cu (aq k m es)) d S ns rl)(O2:Ht m es2 (cu (aq k m es2)) d2 S2 ns2 rl2):S*d2=S2*d:=by
 have J:=BA I W O;have a1:=O2.yI (jo ms m ns m) iz J.nn d J.least;rw[vY I O.len,O.sn]at a1;have lb:((List.range m).map λp=>ns2.getD (ms.getD p 0) 0).length=m:=by rw[V2,V9]
 have gb:∀p,p<m->ns2.getD (ms.getD p 0) 0=((List.range m).map λp=>ns2.getD (ms.getD p 0) 0).getD p 0:=λp hp=>by rw[VH (l:=(List.range m).map _),VA,VN hp];rfl
 have a2:=O.yI ((List.range m).map λp=>ns2.getD (ms.getD p 0) 0) lb (λy hy=>by
  obtain⟨p,hp,rfl⟩:=V5.mp hy;exact O2.nn _ (uo (by rw[O2.len];exact Q8 I (VD.mp hp)))) d2 λf hf=>by
   obtain⟨h1,h2,ne⟩:=jv (c9 (k:=k) W.gd) (t:=f.1) (u:=f.2) hf;have m1:cg ms f.1∈aq k m es2:=(f7 I k).mem_iff.mpr (Wz h1);have m2:cg ms f.2∈aq k m es2:=(f7 I k).mem_iff.mpr (Wz h2);have z:=Cm I W.cn (eS W.gd _ h1) (eS W.gd _ h2) gb;rw[show f=(f.1,f.2)from rfl,<-z]
   exact vZ O2.least m1 m2 λy=>ne (vh I h1 h2 y W)
 have e:((List.range m).map λp=>ns2.getD (ms.getD p 0) 0).sum=S2:=by rw[j9,<-O2.sn,t6 (ys:=ns2),O2.len];exact(Ab I (h:=λq=>ns2.getD q 0)).symm
 rw[e]at a2;rw[WN d S2]at a1;rw[WN d2 S]at a2;lia
abbrev Kg (m:Nat)(es:Zt) (k:Str):=Ht m es (cu (aq k m es))
def BJ{m:Nat}(W:bX m es)(hm:m<=7)(R:oK m es k l)(O:nA l m b):∃d S ns rl,JW l m b=.tuple [.int d,zD ns,.list (rl.map gS)]/\Kg m es k d S ns rl:=by refine⟨_,_,_,_,?_,Oc W hm R O⟩;unfold JW;rw[show PyData.list ((List.range m).map λk=>PyData.int (Lp.T m (mA l m) b m (l.length+k)))=zD ((List.range m).map (shr l m b))by show _=PyData.list (((List.range m).map (shr l m b)).map .int);rw[V7];rfl];unfold rls;rw[V7];rfl
def D6:bG:=λdd Q x=>∃(m:Nat)(es es2:Zt)(ms:A05) (k:Str),dd=[wD m es,wD m es2,nD ms,.str k]/\bX m es/\m<=7/\UG k/\dU m es es2 ms/\∀d S ns rl,Kg m es k d S ns rl->Q [] .sh (.tuple [.int S,.int d])
def Pa:∀dd Q x,D6 dd Q x->ia DV CK v7 Di (bx [false,false,false,false] Q x) (ini [false,false,false,false] dd++List.replicate 5 none):=by
 rintro _ Q x⟨m,es,es2,ms,k,rfl,W,hm,hk,I,q⟩;have W2:=qR I W;unfold ia;left;refine⟨m,es,k,rfl,W,hm,λl b R O=>?_⟩;obtain⟨d,S,ns,rl,e,A⟩:=BJ W hm R O;rw[e];clear e R O l b;rfl';symm;refine⟨m,es2,k,rfl,W2,hm,λl b R O=>?_⟩;obtain⟨d2,S2,ns2,rl2,e,A2⟩:=BJ W2 hm R O;rw[e];clear e R O l b;rfl';rw[hB];clear hB B;have eq:=QE I W A A2;have b1:=A.s0;have b2:=A.s1;have b3:=A.d1;have b4:=A.du;have c1:=A2.s0;have c2:=A2.s1;have c3:=A2.d1;have c4:=A2.du;left;refine⟨ns,rfl,?_⟩;rw[A.sn];rfl';refine⟨.inr ⟨by lia,by lia⟩,ns2,rfl,?_⟩;rw[A2.sn];rfl';refine⟨.inr ⟨by lia,by lia⟩,?_⟩;rfl';rw[if_neg λz=>z eq];symm;refine⟨m,es2,k,rfl,W2,?_⟩;rfl';have m1:=W.pos;have nd:=c9 (k:=k) W.gd;refine⟨m,ms,aq k m es2,aq k m es,d,ns,rl,rfl,I.pm,m1,by lia,A.len,c9 W2.gd,λt ht=>⟨eS W.gd t ht,(f7 I k).mem_iff.mpr (Wz ht)⟩,λr hr=>?_,by have:=A.few;lia,?_⟩;{obtain⟨h1,h2,_⟩:=jv nd (t:=r.1.1) (u:=r.1.2) (A.sub r hr);exact⟨h1,h2⟩};rfl';rw[hB];clear hB B;have J:=BA I W A;have e2:(rl.map (cY ms (aq k m es2))).map gS=((rl.map (cY ms (aq k m es2))).map zz).map sX:=by rw[V7 (f:=zz)];exact Vx λr _=>(RT r).symm
 left;refine⟨m,es2,k,d,jo ms m ns m,_,by rw[e2],W2,hm,by rw[iz];lia,by rw[V2,V2];have:=A.few;lia,λb hb=>?_⟩;rw[hb.mpr J];rfl';right;refine⟨jo ms m ns m,rfl,?_⟩;rw[vY I A.len,A.sn];rfl';exact⟨by decide,q d S ns rl A⟩
def kind_all{m:Nat}(h:t∈aq k m es):t∈aq (Str.ofString "all") m es:=by
 have e:aq (Str.ofString "all") m es=(List.range m).map Sum.inl++es.map Sum.inr:=by unfold aq;rw[if_neg (by decide),if_neg (by decide)]
 rw[e];unfold aq at h;rcases VU.mp h with z|z;{refine YX _ ?_;split at z;{cases z};exact z};refine W5 _ ?_;split at z;{cases z};exact z
def yj{m:Nat}{d S d2 S2:Int}(W:bX m es)(A:Kg m es k d S ns rl)(A2:Kg m es (Str.ofString "all") d2 S2 ns2 rl2):¬S2*d<S*d2:=by
 have a:=A.yI ns2 A2.len A2.nn d2 λf hf=>by obtain⟨h1,h2,ne⟩:=jv (c9 (k:=k) W.gd) (t:=f.1) (u:=f.2) hf;exact vZ A2.least (kind_all h1) (kind_all h2) ne
 rw[A2.sn,WN d2 S]at a;lia
def Io:∀ds Q x,vC ds Q x->mC DH Dd qZ BE vQ D6 (bx [false] Q x) (ini [false] ds++List.replicate 11 none):=by
 rintro _ Q x⟨ns,rfl,hn,q⟩;unfold mC;left;refine⟨ns,0,rfl,by lia,λn=>?_⟩;rfl';symm;refine⟨ns,1,rfl,by lia,λn1=>?_⟩;rfl';refine⟨n,8,rfl,by decide,by decide,λr n' hr=>?_⟩;rfl';obtain⟨b,eb,b7,b6⟩:∃b:Nat,(6+if(r:Int)=1 then 1 else 0:Int)=(b:Int)/\b<=7/\1<=b:=by by_cases c:(r:Int)=1;{exact⟨7,by rw[if_pos c];rfl,by decide,by decide⟩};exact⟨6,by rw[if_neg c];rfl,by decide,by decide⟩
 rw[eb];refine⟨n1,1,b,rfl,by lia,b6,by lia,λm es n2 m1 m2 W=>?_⟩;have hm:m<=7:=VX m2 b7;clear m2 b6 b7 eb hr b;rfl';symm;refine⟨ns,2,rfl,by lia,λn3=>?_⟩;rfl';refine⟨n3,m,rfl,by lia,λms n4 pm=>?_⟩;rfl';symm;have gl:=ko W.gd;have m49:m*m<=49:=Xm hm hm;have lm:ms.length=m:=by rw[pm.length_eq,V9]
 refine eX (λe=>dG (fR ms e)) rfl (λe he I hI=>?_) ?_ (by lia);{rfl';refine⟨m,ms,.inr e,rfl,lm,?_,?_⟩;{exact W.gd.J4 (.inl he)};rfl';exact hI _ rfl};rfl';rw[show es.map (λe=>dG (fR ms e))=(es.map (fR ms)).map dG by rw[V7];rfl];refine Cq (by rw[V2];lia) λes2 pq=>?_;have I:dU m es es2 ms:=⟨pm,W.gd,pq⟩;rfl';symm;refine⟨by lia,?_⟩;symm;refine⟨m,es,es2,ms,Str.ofString "places",rfl,W,hm,.inl rfl,I,λd1 S1 s1 r1 A1=>?_⟩;rfl';symm;refine⟨m,es,es2,ms,Str.ofString "ties",rfl,W,hm,.inr (.inl rfl),I,λd2 S2 s2 r2 A2=>?_⟩;rfl';symm;symm;refine⟨m,es,es2,ms,Str.ofString "all",rfl,W,hm,.inr (.inr rfl),I,λd3 S3 s3 r3 A3=>?_⟩;rfl';symm;symm;refine⟨by lia,?_⟩;have c1:=yj W A1 A3;have c2:=yj W A2 A3;obtain⟨a1,a2,a3,a4⟩:=WY A1.d1 (WY A1.du (WY A1.s0 A1.s1));obtain⟨b1,b2,b3,b4⟩:=WY A2.d1 (WY A2.du (WY A2.s0 A2.s1));obtain⟨g1,g2,g3,g4⟩:=WY A3.d1 (WY A3.du (WY A3.s0 A3.s1));clear A1 A2 A3;have all:∀a∈[(S1,d1),(S2,d2)],0<a.2/\a.2<=100000/\-100000<=a.1/\a.1<=100000/\¬S3*a.2<a.1*d3:=λa ha=>by rcases VF.mp ha with rfl|ha;{exact⟨a1,a2,a3,a4,c1⟩};rw[V6.mp ha];exact⟨b1,b2,b3,b4,c2⟩
 refine oj (l:=[(S1,d1),(S2,d2)]) (enc:=λa=>.tuple [.int a.1,.int a.2]) (λ_ E=>∃(o9 o10:Option (Kd×PyData)),E=[some (.sh,.list (ns.map .int)),some (.ow false,nD [n']),some (.sh,wD m es),some (.ow false,nD ms),some (.ow false,.list (es2.map dG)),some (.sh,.tuple [iD m,.tuple (es2.map dG)]),some (.sh,.tuple [.int S1,.int d1]),some (.sh,.tuple [.int S2,.int d2]),some (.sh,.tuple [.int S3,.int d3]),o9,o10,none]/\bA o9=true/\bA o10=true) ⟨none,none,rfl,rfl,rfl⟩ ?_ ?_;{rintro J i a _ hi hJ⟨o9,o10,rfl,z9,z10⟩;obtain⟨e1,e2,e3,e4,e5⟩:=all a (VV hi);simp![z9,z10];refine⟨.inr ⟨by lia,by lia⟩,.inr ⟨by lia,by lia⟩,?_⟩;rw[if_neg e5];exact hJ _ ⟨_,_,rfl,rfl,rfl⟩};rintro _⟨o9,o10,rfl,z9,z10⟩;show B _;right;exact q
end PB
namespace PC
open PySem L2 PySem.W Dv PB
def top (i:Nat):Stmt:=PySem.Challenge.pw_farhail_k51_whole_shares_numbered_otherw.main.body.getD i (.Pass ⟨0,0,0,0⟩)
structure Txt(K:Frag)(mg:Zp):Prop where
 any:mg "any"=none
 enumerate:mg "enumerate"=none
 int:mg "int"=none
 isinstance:mg "isinstance"=none
 len:mg "len"=none
 list:mg "list"=none
 max:mg "max"=none
 min:mg "min"=none
 range:mg "range"=none
 set:mg "set"=none
 sorted:mg "sorted"=none
 sum:mg "sum"=none
 tuple:mg "tuple"=none
 zip:mg "zip"=none
 Az:∃t,mg "MOST_SHARED"=some (.int 7 t)
 M4:∃C,mg "NoPlace"=some (.ref C)/\kL K C EM "ValueError.__new__" none=true
 kit:yi K ["int"]=true
 ns:∃h:Heap,K.In h/\h.Ns mainGlobals mg
def uc{us:A00}{n:Nat}(h:us.length=n+1):∃a t,t.length=n/\us=a::t:=by
 cases us with
 |nil=>cases h
 |cons a t=>exact⟨a,t,Nat.succ.inj h,rfl⟩
def Vm{us:A00}(h0:us.length=1):∃a0,us=[a0]:=by obtain⟨a0,t0,h1,rfl⟩:=uc h0;cases YT h1;exact⟨a0,rfl⟩
def UR{us:A00}(h0:us.length=2):∃a0 a1,us=[a0,a1]:=by obtain⟨a0,t0,h1,rfl⟩:=uc h0;obtain⟨a1,t1,h2,rfl⟩:=uc h1;cases YT h2;exact⟨a0,a1,rfl⟩
def Vf{us:A00}(h0:us.length=3):∃a0 a1 a2,us=[a0,a1,a2]:=by obtain⟨a0,t0,h1,rfl⟩:=uc h0;obtain⟨a1,t1,h2,rfl⟩:=uc h1;obtain⟨a2,t2,h3,rfl⟩:=uc h2;cases YT h3;exact⟨a0,a1,a2,rfl⟩
def U4{us:A00}(h0:us.length=4):∃a0 a1 a2 a3,us=[a0,a1,a2,a3]:=by obtain⟨a0,t0,h1,rfl⟩:=uc h0;obtain⟨a1,t1,h2,rfl⟩:=uc h1;obtain⟨a2,t2,h3,rfl⟩:=uc h2;obtain⟨a3,t3,h4,rfl⟩:=uc h3;cases YT h4;exact⟨a0,a1,a2,a3,rfl⟩
def UM{us:A00}(h0:us.length=5):∃a0 a1 a2 a3 a4,us=[a0,a1,a2,a3,a4]:=by obtain⟨a0,t0,h1,rfl⟩:=uc h0;obtain⟨a1,t1,h2,rfl⟩:=uc h1;obtain⟨a2,t2,h3,rfl⟩:=uc h2;obtain⟨a3,t3,h4,rfl⟩:=uc h3;obtain⟨a4,t4,h5,rfl⟩:=uc h4;cases YT h5;exact⟨a0,a1,a2,a3,a4,rfl⟩
local macro_rules | `(tactic| ac_nf) => `(tactic| (intro _ _ _ _ _ _ us hl; first | (obtain⟨_, e⟩ := Vm hl; subst e; rfl) | (obtain⟨_, _, e⟩ := UR hl; subst e; rfl) | (obtain⟨_, _, _, e⟩ := Vf hl; subst e; rfl) | (obtain⟨_, _, _, _, e⟩ := U4 hl; subst e; rfl) | (obtain⟨_, _, _, _, _, e⟩ := UM hl; subst e; rfl)))
variable(P:Program)(w:World)(K:Frag)(mg:Zp)(base:Heap)
abbrev pC:Prop:=bZ P w K mg base 1 "_law_purse" ["_law_script","_law_k"] (cF mg K [false,false] DH)
abbrev gM:Prop:=bZ P w K mg base 1 "_law_take" ["_law_purse_here","_law_many"] (cF mg K [true,false] qZ)
abbrev ql:Prop:=bZ P w K mg base 2 "_law_pairs" ["_law_purse_here","_law_many","_law_way"] (cF mg K [true,false,false] C0)
abbrev kO:Prop:=bZ P w K mg base 2 "_law_order" ["_law_purse_here","_law_many"] (cF mg K [true,false] BE)
abbrev uC:Prop:=bZ P w K mg base 3 "_law_web" ["_law_purse_here","_law_least","_law_most"] (cF mg K [true,false,false] Dd)
abbrev gc:Prop:=bZ P w K mg base 1 "refuse_too_many" ["web"] (cF mg K [false] vE)
abbrev lG:Prop:=bZ P w K mg base 1 "unlike_pairs" ["pairs"] (cF mg K [false] CV)
abbrev oW:Prop:=bZ P w K mg base 1 "first_rows" ["pairs","many"] (cF mg K [false,false] Em)
abbrev oM:Prop:=bZ P w K mg base 1 "is_tighter" ["rows","base","column","place","best"] (cF mg K [false,false,false,false,false] C1)
abbrev q9:Prop:=bZ P w K mg base 2 "tightest" ["rows","base","column"] (cF mg K [false,false,false] Dh)
abbrev xu:Prop:=bZ P w K mg base 1 "turned" ["rows","bottom","place","column"] (cF mg K [false,false,false,false] Dk)
abbrev ni:Prop:=bZ P w K mg base 3 "best_prices" ["pairs","many"] (cF mg K [false,false] CN)
abbrev jz:Prop:=bZ P w K mg base 1 "refuse_no_place" ["web","place"] (cF mg K [false,false] Ds)
abbrev jt:Prop:=bZ P w K mg base 1 "neighbour_lists" ["web"] (cF mg K [false] CP)
abbrev lE:Prop:=bZ P w K mg base 2 "fars_or_none" ["web","place"] (cF mg K [false,false] C4)
abbrev pI:Prop:=bZ P w K mg base 3 "fars_from" ["web","place"] (cF mg K [false,false] Dp)
abbrev rj:Prop:=bZ P w K mg base 4 "far_rows" ["web"] (cF mg K [false] CO)
abbrev kF:Prop:=bZ P w K mg base 1 "things_of" ["web","kind"] (cF mg K [false,false] v7)
abbrev oV:Prop:=bZ P w K mg base 1 "nearer_end" ["fars","tie"] (cF mg K [false,false] Ea)
abbrev pB:Prop:=bZ P w K mg base 2 "thing_far" ["fars","thing"] (cF mg K [false,false] D5)
abbrev pA:Prop:=bZ P w K mg base 3 "parters_by" ["rows","one","other"] (cF mg K [false,false,false] DU)
abbrev l5:Prop:=bZ P w K mg base 5 "pairs_of" ["web","kind"] (cF mg K [false,false] uY)
abbrev pX:Prop:=bZ P w K mg base 6 "shares_of" ["web","kind"] (cF mg K [false,false] DV)
abbrev ly:Prop:=bZ P w K mg base 1 "_law_thing" ["_law_places","_law_one"] (cF mg K [false,false] vQ)
abbrev qm:Prop:=bZ P w K mg base 2 "_law_moved" ["_law_places","_law_things_there","_law_told"] (cF mg K [false,false,false] CK)
abbrev lI:Prop:=bZ P w K mg base 1 "prices_right" ["parters_of_two","many","bottom","prices"] (cF mg K [false,false,false,false] D8)
abbrev kR:Prop:=bZ P w K mg base 6 "shares_judged" ["web","kind","bottom","shares","prices"] (cF mg K [false,false,false,false,false] Di)
abbrev qt:Prop:=bZ P w K mg base 7 "_law_right" ["_law_web_here","_law_other","_law_places","_law_kind"] (cF mg K [false,false,false,false] D6)
variable{P:Program}{w:World}{K:Frag}{mg:Zp}{base:Heap}
abbrev k8:Stmt:=top 30
def fU:aM ["_law_script","_law_k","_law_cell","_law_number"] ["_law_script","_law_k"] (au k8):=by ac_rfl
def zp(T:Txt K mg)(r:Rec K "_law_purse" k8):pC P w K mg base:=
 bD T.ns r (by ac_nf) λF=>bT (m:=2) F fU rfl (by decide) (d:=gW) (λcdv A outer s H Ex hr=>have hu:=hr.units;af (aL 2 fU.nd (xI)) (uG (fT (bJ.st (zf (aP 1 (aE (lW T.len (aP 0 a0)) a0)))) (aj (aL 2 fU.nd (aU hu (aP 0 (aP 1 a0))))) (aj (fT (bJ.st (K2 hu (aP 0 (aE (cW a0) a0)))) (aj (aL 2 fU.nd (eT (aE (vW (aE (aU hu (aP 0 (aE (vW (aP 1 (aE (lW T.len (aP 0 a0)) a0))) a0))) (aE (xI) a0))) (aE (f9 (aE (xI) (aP 1 a0))) a0))))) (cj)))) (af (fT (bJ.st (Vk (aP 2 (aE (DO (aE (xI) (aE (xI) a0))) a0)))) (aj (cC (cW (aP 2 a0)))) (cj)) (af (aL 3 fU.nd (vW (aE (RJ (aE (eT (aE (eT (aE (vW (aP 2 (aE (eT (aE (DO (aE (xI) (aE (xI) a0))) (aE (xI) a0))) a0))) (aE (f9 (aE (xI) (aP 1 a0))) a0))) (aE (xI) a0))) (aE (xI) a0))) (aE (eT (aE (DO (aE (xI) (aE (xI) a0))) (aE (xI) a0))) a0)))) (aj (cC (cW (aE (vW (aE (Rk (aE (eT (aE (eT (aP 3 (aE (f9 (aE (xI) (aP 1 a0))) a0))) (aE (xI) a0))) (aE (xI) a0))) (aE (eT (aE (DO (aE (xI) (aE (xI) a0))) (aE (xI) a0))) a0))) a0)))))))) PB.PF
abbrev lV:Stmt:=top 31
def rF:aM ["_law_purse_here","_law_many","_law_found"] ["_law_purse_here","_law_many"] (au lV):=by ac_rfl
def Aw(T:Txt K mg)(r:Rec K "_law_take" lV):gM P w K mg base:=
 bD T.ns r (by ac_nf) λF=>bT (m:=1) F rF rfl (by decide) (d:=iS) (λcdv A outer s H Ex hr=>have hu:=hr.units;af (aL 2 rF.nd (vW (aE (aU hu (aP 0 (aE (xI) a0))) (aP 1 a0)))) (af (yX 0 hu (O1 (aE (aU hu (aP 0 (aE (xI) a0))) (aP 1 a0))) (xI)) (aj (lN 2)))) PB.RS
abbrev kU:Stmt:=top 33
def dJ:aM ["_law_purse_here","_law_many","_law_way","_law_found","_law_k","_law_near","_law_one","_law_other"] ["_law_purse_here","_law_many","_law_way"] (au kU):=by ac_rfl
def y9(T:Txt K mg)(h0:gM P w K mg base)(r:Rec K "_law_pairs" kU):ql P w K mg base:=
 bD T.ns r (by ac_nf) λF=>bT (m:=6) F dJ rfl (by decide) (d:=g9 qZ) (λcdv A outer s H Ex hr=>have hu:=hr.units;af (aL 3 dJ.nd (cW a0)) (af (fP W7 dJ.nd (Vh T.range (aE (xI) (aP 1 a0))) (gN 4) (af (aL 5 dJ.nd (aQ h0 aT hr (aP 0 (aP 4 a0)))) (af (dB (xM 3 dF cV X3 X4 (eC (dN (aE (aU hu (aE (cW (aE (zu (aP 4 (aE (xI) a0))) (aE (zu (aP 4 (aE (xI) a0))) (aE (xI) (aP 5 a0))))) (aE (Pe T.min (aP 2 (aE (xI) a0))) a0))) (aP 4 a0))) e0))) (aj (fT (bJ.st (B8 hu (aP 2 (aE (xI) a0)))) (aj (dB (xM 3 uO tU PySem.F.slot_list_extend PySem.F.type_list_extend (eC (lz (vs:=["_law_one"]) (NB:=["_law_one","_law_k"]) (ix:=[4]) (by rfl) (qW T.range (aP 4 a0)) (λ_ _ _ _=>gN 0) (λ_ _ _ _=>.nil) (λ_ _ _ _ _=>dY (dN (aP 0 (aP 1 a0))))) e0)))) (cj)))))) (uG (fT (bJ.st (m9.wU (BS (B8 hu (aP 2 (aE (xI) a0))) (j7 (BN (aP 1 (aE (xI) a0))))))) (aj (dB (xM 3 dF cV X3 X4 (eC (dN (aE (xI) (aE (zu (aP 1 (aE (xI) a0))) a0))) e0)))) (cj)) (uG (fT (bJ.st (BN (aP 2 (aE (xI) a0)))) (aj (fP W7 dJ.nd (qW T.range (aE (aQ h0 aT hr (aP 0 (aE (xI) a0))) a0)) (gN 4) (af (aL 6 dJ.nd (aQ h0 aT hr (aP 0 (aP 1 a0)))) (af (aL 7 dJ.nd (aQ h0 aT hr (aP 0 (aP 1 a0)))) (aj (dB (xM 3 uO tU PySem.F.slot_list_extend PySem.F.type_list_extend (eC (f9 (aE (cW (aE (dN (aP 6 (aP 7 a0))) a0)) (aE (QY T.int (aE (UZ hu (aP 6 (aP 7 a0))) a0)) a0))) e0)))))))) (cj)) (aj (lN 3)))))) PB.OI
abbrev kY:Stmt:=top 32
def k7:aM ["_law_purse_here","_law_many","_law_found","_law_k"] ["_law_purse_here","_law_many"] (au kY):=by ac_rfl
def yS(T:Txt K mg)(h0:gM P w K mg base)(r:Rec K "_law_order" kY):kO P w K mg base:=
 bD T.ns r (by ac_nf) λF=>bT (m:=2) F k7 rfl (by decide) (d:=ic qZ) (λcdv A outer s H Ex hr=>af (aL 2 k7.nd (cW a0)) (af (fP W7 k7.nd (qW T.range (aP 1 a0)) (gN 3) (aj (dB (xM 2 Fv Ei PySem.F.slot_list_insert PySem.F.type_list_insert (eC (aQ h0 aT hr (aP 0 (aE (eT (aP 3 (aE (xI) a0))) a0))) (eC (xV 3) e0)))))) (aj (lN 2)))) PB.Rw
abbrev nI:Stmt:=top 34
def d9:aM ["_law_purse_here","_law_least","_law_most","_law_many","_law_found","_law_some","_law_places","_law_one","_law_other","_law_ends","_law_tie"] ["_law_purse_here","_law_least","_law_most"] (au nI):=by ac_rfl
def Ec(T:Txt K mg)(h0:gM P w K mg base)(h1:ql P w K mg base)(h2:kO P w K mg base)(r:Rec K "_law_web" nI):uC P w K mg base:=
 bD T.ns r (by ac_nf) λF=>bT (m:=8) F d9 rfl (by decide) (d:=iL qZ C0 BE) (λcdv A outer s H Ex hr=>have hu:=hr.units;af (aL 3 d9.nd (eT (aP 1 (aE (aQ h0 aT hr (aP 0 (aE (zu (aE (eT (aP 2 (aE (xI) a0))) (aP 1 a0))) a0))) a0)))) (af (aL 4 d9.nd (cW a0)) (af (aL 5 d9.nd (aQ h1 aT hr (aP 0 (aP 3 (aE (aQ h0 aT hr (aP 0 (aE (xI) a0))) a0))))) (af (aL 6 d9.nd (aQ h2 aT hr (aP 0 (aP 3 a0)))) (af (fP W7 d9.nd (fj (xV 5)) (gT (gC 7 (gC 8 g0))) (af (aL 9 d9.nd (dN (aE (aU hu (aP 6 (aP 7 a0))) (aE (aU hu (aP 6 (aP 8 a0))) a0)))) (af (aL 10 d9.nd (dN (aE (Rt T.min (aP 9 a0)) (aE (Ri T.max (aP 9 a0)) a0)))) (aj (fT (bJ.st (Tz hu (aP 10 (aP 4 a0)))) (aj (dB (xM 4 dF cV X3 X4 (eC (xV 10) e0)))) (cj)))))) (aj (cC (dN (aP 3 (aE (HU T.tuple (aE (Fz T.sorted (aP 4 a0)) a0)) a0)))))))))) PB.Qg
abbrev fY:Stmt:=top 20
def pO:aM ["web"] ["web"] (au fY):=by ac_rfl
def qf(T:Txt K mg)(r:Rec K "refuse_too_many" fY):gc P w K mg base:=
 bD T.ns r (by ac_nf) λF=>bT (m:=0) F pO rfl (by decide) (d:=gE) (λcdv A outer s H Ex hr=>have hu:=hr.units;aj (fT (bJ.st (BN (aE (aU hu (aP 0 (aE (xI) a0))) (aE (xG T.Az) a0)))) (aj (Si)) (cj))) PB.OH
abbrev iF:Stmt:=top 17
def iO:aM ["pairs","firsts","one","other","parters"] ["pairs"] (au iF):=by ac_rfl
def uv(T:Txt K mg)(r:Rec K "unlike_pairs" iF):lG P w K mg base:=
 bD T.ns r (by ac_nf) λF=>bT (m:=4) F iO rfl (by decide) (d:=je) (λcdv A outer s H Ex hr=>have hu:=hr.units;af (aL 1 iO.nd (TU)) (af (fP W7 iO.nd (fj (xV 0)) (gT (gC 2 (gC 3 (gC 4 g0)))) (aj (dB (Uj 1 4 hu T.tuple (dN (aP 2 (aP 3 (aP 4 a0)))))))) (aj (cC (UT 1 T.list))))) PB.N8
abbrev jN:Stmt:=top 22
def fG:aM ["pairs","many","rows","place","parted","left"] ["pairs","many"] (au jN):=by ac_rfl
def xE(T:Txt K mg)(r:Rec K "first_rows" jN):oW P w K mg base:=
 bD T.ns r (by ac_nf) λF=>bT (m:=7) F fG rfl (by decide) (d:=kQ) (λcdv A outer s H Ex hr=>have hu:=hr.units;af (aL 2 fG.nd (cW a0)) (af (fP W7 fG.nd (qW T.range (aP 1 a0)) (gN 3) (af (we (j:=4) fG.nd (vs:=["one","other","parters"]) (NB:=["one","other","parters","place"]) (ix:=[3]) (by rfl) (fj (xV 0)) (λ_ _ _ _=>gT (gC 0 (gC 1 (gC 2 g0)))) (λ_ _ _ _=>.nil) (λ_ _ _ _ _=>dY (xU (bJ.st (U1 hu (aP 3 (aP 2 a0)))) (xI) (xI)))) (af (we (j:=5) fG.nd (vs:=["another"]) (NB:=["another","place"]) (ix:=[3]) (by rfl) (qW T.range (aP 1 a0)) (λ_ _ _ _=>gN 0) (λ_ _ _ _=>.nil) (λ_ _ _ _ _=>dY (xU (bJ.st (B8 hu (aP 1 (aP 0 a0)))) (xI) (xI)))) (aj (dB (xM 2 dF cV X3 X4 (eC (eT (aE (eT (aP 4 (aP 5 a0))) (aE (cW (aE (xI) a0)) a0))) e0))))))) (aj (cC (eT (aP 2 (aE (cW (aE (eT (aE (f9 (aE (cW (aE (l9 (aE (xI) a0)) a0)) (aE (lW T.len (aP 0 a0)) a0))) (aE (f9 (aE (cW (aE (xI) a0)) (aE (eT (aP 1 (aE (xI) a0))) a0))) a0))) a0)) a0))))))) PB.Qs
abbrev jP:Stmt:=top 25
def jJ:aM ["rows","base","column","place","best","mine","other"] ["rows","base","column","place","best"] (au jP):=by ac_rfl
def xJ(T:Txt K mg)(r:Rec K "is_tighter" jP):oM P w K mg base:=
 bD T.ns r (by ac_nf) λF=>bT (m:=2) F jJ rfl (by decide) (d:=kr) (λcdv A outer s H Ex hr=>have hu:=hr.units;af (aL 5 jJ.nd (f9 (aE (aU hu (aE (aU hu (aP 0 (aP 3 a0))) (aE (l9 (aE (xI) a0)) a0))) (aE (aU hu (aE (aU hu (aP 0 (aP 4 a0))) (aP 2 a0))) a0)))) (af (aL 6 jJ.nd (f9 (aE (aU hu (aE (aU hu (aP 0 (aP 4 a0))) (aE (l9 (aE (xI) a0)) a0))) (aE (aU hu (aE (aU hu (aP 0 (aP 3 a0))) (aP 2 a0))) a0)))) (aj (cC (Ru (JZ (aP 5 (aP 6 a0))) (yh (Hi (Pk hu (aP 5 (aP 6 a0))) (yh (JZ (aE (aU hu (aP 1 (aP 3 a0))) (aE (aU hu (aP 1 (aP 4 a0))) a0))))))))))) PB.PU
abbrev lX:Stmt:=top 24
def jl:aM ["rows","base","column","best","place"] ["rows","base","column"] (au lX):=by ac_rfl
def Ay(T:Txt K mg)(h0:oM P w K mg base)(r:Rec K "tightest" lX):q9 P w K mg base:=
 bD T.ns r (by ac_nf) λF=>bT (m:=2) F jl rfl (by decide) (d:=oi C1) (λcdv A outer s H Ex hr=>have hu:=hr.units;af (aL 3 jl.nd (xN)) (af (fP W7 jl.nd (qW T.range (aE (lW T.len (aP 1 a0)) a0)) (gN 4) (aj (fT (bJ.st (m9.wU (BS (BN (aE (aU hu (aE (aU hu (aP 0 (aP 4 a0))) (aP 2 a0))) (aE (xI) a0))) (j7 (m9.wU (mK (Hh (aP 3 (aE (xN) a0))) (j7 (AU (aQ h0 aT hr (aP 0 (aP 1 (aP 2 (aP 4 (aP 3 a0)))))))))))))) (aj (aL 3 jl.nd (xV 4))) (cj)))) (aj (lN 3)))) PB.OT
abbrev qq:Stmt:=top 26
def lK:aM ["rows","bottom","place","column","pivot","after","at","line"] ["rows","bottom","place","column"] (au qq):=by ac_rfl
def ED(T:Txt K mg)(r:Rec K "turned" qq):xu P w K mg base:=
 bD T.ns r (by ac_nf) λF=>bT (m:=6) F lK rfl (by decide) (d:=sJ) (λcdv A outer s H Ex hr=>have hu:=hr.units;af (aL 4 lK.nd (aU hu (aP 0 (aP 2 a0)))) (af (aL 5 lK.nd (cW a0)) (af (fP W7 lK.nd (DP T.enumerate (xV 0)) (gT (gC 6 (gC 7 g0))) (aj (fT (bJ.st (B8 hu (aP 6 (aP 2 a0)))) (aj (dB (xM 5 dF cV X3 X4 (eC (xV 4) e0)))) (aj (dB (xM 5 dF cV X3 X4 (eC (lz (vs:=["entry","mine"]) (NB:=["entry","mine","pivot","column","line","bottom"]) (ix:=[4,3,7,1]) (by rfl) (Dl T.zip (xV 7) (xV 4)) (λ_ _ _ _=>gT (gC 0 (gC 1 g0))) (λ_ _ _ _=>.nil) (λ_ _ _ _ _=>dY (O1 (aE (zu (aE (f9 (aP 0 (aE (aU hu (aP 2 (aP 3 a0))) a0))) (aE (f9 (aE (aU hu (aP 4 (aP 3 a0))) (aP 1 a0))) a0))) (aP 5 a0))))) e0))))))) (aj (lN 5))))) PB.Q2
abbrev i6:Stmt:=top 23
def cy:aM ["pairs","many","rows","base","bottom","column","place"] ["pairs","many"] (au i6):=by ac_rfl
def vU(T:Txt K mg)(h0:oW P w K mg base)(h1:q9 P w K mg base)(h2:xu P w K mg base)(r:Rec K "best_prices" i6):ni P w K mg base:=
 bD T.ns r (by ac_nf) λF=>bT (m:=7) F cy rfl (by decide) (d:=jF Em Dh Dk) (λcdv A outer s H Ex hr=>have hu:=hr.units;af (aL 2 cy.nd (aQ h0 aT hr (aP 0 (aP 1 a0)))) (af (we (j:=3) cy.nd (vs:=["place"]) (NB:=["place","pairs"]) (ix:=[0]) (by rfl) (qW T.range (aP 1 a0)) (λ_ _ _ _=>gN 0) (λ_ _ _ _=>.nil) (λ_ _ _ _ _=>dY (eT (aE (lW T.len (aP 1 a0)) (aP 0 a0))))) (af (aL 4 cy.nd (xI)) (af (GW W7 (bJ.st (zf (aE (KN T.min (aE (Ic (aE (aU hu (aP 2 (aE (l9 (aE (xI) a0)) a0))) (aE (l9 (aE (xI) a0)) a0))) a0)) (aE (xI) a0)))) (af (aL 5 cy.nd (aU hu (aE (lz (vs:=["at","gain"]) (NB:=["at","gain"]) (ix:=[]) (by rfl) (DP T.enumerate (Ic (aE (aU hu (aP 2 (aE (l9 (aE (xI) a0)) a0))) (aE (l9 (aE (xI) a0)) a0)))) (λ_ _ _ _=>gT (gC 0 (gC 1 g0))) (λ_ _ _ _=>.one (bJ.st (zf (aP 1 (aE (xI) a0))))) (λ_ _ _ _ _=>dY (xV 0))) (aE (xI) a0)))) (af (aL 6 cy.nd (aQ h1 aT hr (aP 2 (aP 3 (aP 5 a0))))) (af (aL 2 cy.nd (aQ h2 aT hr (aP 2 (aP 4 (aP 6 (aP 5 a0)))))) (af (aL 4 cy.nd (aU hu (aE (aU hu (aP 2 (aP 6 a0))) (aP 5 a0)))) (aj (yX 3 hu (xV 5) (xV 6)))))))) (aj (cC (dN (aP 4 (aP 3 (aP 2 a0)))))))))) PB.NR
abbrev gg:Stmt:=top 7
def qe:aM ["web","place"] ["web","place"] (au gg):=by ac_rfl
def pP(T:Txt K mg)(r:Rec K "refuse_no_place" gg):jz P w K mg base:=
 bD T.ns r (by ac_nf) λF=>bT (m:=0) F qe rfl (by decide) (d:=gB) (λcdv A outer s H Ex hr=>have hu:=hr.units;aj (fT (QG (bJ.st (Hw Ln Er rfl (xI) (xV 1) (aU hu (aP 0 (aE (xI) a0)))))) (aj (ML T.M4)) (cj))) PB.Nc
abbrev fZ:Stmt:=top 5
def eE:aM ["web","many","ties","lists","one","other"] ["web"] (au fZ):=by ac_rfl
def pY(T:Txt K mg)(r:Rec K "neighbour_lists" fZ):jt P w K mg base:=
 bD T.ns r (by ac_nf) λF=>bT (m:=6) F eE rfl (by decide) (d:=gD) (λcdv A outer s H Ex hr=>af (x9 eE.nd (gC 1 (gC 2 g0)) (xV 0)) (af (UA (j:=3) eE.nd (vs:=["place"]) (NB:=["place"]) (ix:=[]) (by rfl) (qW T.range (aP 1 a0)) (λ_ _ _ _=>gN 0) (λ_ _ _ _=>.nil) (λ_ _ _ _=>cW a0)) (af (fP W7 eE.nd (fj (xV 2)) (gT (gC 4 (gC 5 g0))) (af (dB (Tr 3 5 dF cV X3 X4 (xV 4))) (aj (dB (Tr 3 4 dF cV X3 X4 (xV 5)))))) (aj (lN 3))))) PB.NH
abbrev iR:Stmt:=top 6
def b5:aM ["web","place","lists","fars","edge","reached","here","there"] ["web","place"] (au iR):=by ac_rfl
def uh(T:Txt K mg)(h0:jt P w K mg base)(r:Rec K "fars_or_none" iR):lE P w K mg base:=
 bD T.ns r (by ac_nf) λF=>bT (m:=6) F b5 rfl (by decide) (d:=iX CP) (λcdv A outer s H Ex hr=>have hu:=hr.units;af (aL 2 b5.nd (aQ h0 aT hr (aP 0 a0))) (af (aL 3 b5.nd (f9 (aE (cW (aE (xN) a0)) (aE (aU hu (aP 0 (aE (xI) a0))) a0)))) (af (yX 3 hu (xI) (xV 1)) (af (aL 4 b5.nd (cW (aP 1 a0))) (af (GW W7 (tV 4) (af (aL 5 b5.nd (cW a0)) (af (fP W7 b5.nd (fj (xV 4)) (gN 6) (aj (fP W7 b5.nd (fj (aU hu (aP 2 (aP 6 a0)))) (gN 7) (aj (fT (bJ.st (Hh (aE (aU hu (aP 3 (aP 7 a0))) (aE (xN) a0)))) (af (yX 3 hu (eT (aE (aU hu (aP 3 (aP 6 a0))) (aE (xI) a0))) (xV 7)) (aj (dB (xM 5 dF cV X3 X4 (eC (xV 7) e0))))) (cj)))))) (aj (aL 4 b5.nd (xV 5)))))) (aj (lN 3))))))) PB.Oq
abbrev kq:Stmt:=top 8
def zT:aM ["web","place"] ["web","place"] (au kq):=by ac_rfl
def zl(T:Txt K mg)(h0:jz P w K mg base)(h1:lE P w K mg base)(r:Rec K "fars_from" kq):pI P w K mg base:=
 bD T.ns r (by ac_nf) λF=>bT (m:=0) F zT rfl (by decide) (d:=mj Ds C4) (λcdv A outer s H Ex hr=>af (dB (aQ h0 aT hr (aP 0 (aP 1 a0)))) (aj (cC (aQ h1 aT hr (aP 0 (aP 1 a0)))))) PB.P9
abbrev lU:Stmt:=top 13
def AJ:aM ["web"] ["web"] (au lU):=by ac_rfl
def Ax(T:Txt K mg)(h0:pI P w K mg base)(r:Rec K "far_rows" lU):rj P w K mg base:=
 bD T.ns r (by ac_nf) λF=>bT (m:=1) F AJ rfl (by decide) (d:=oq Dp) (λcdv A outer s H Ex hr=>have hu:=hr.units;aj (cC (lz (vs:=["place"]) (NB:=["place","web"]) (ix:=[0]) (by rfl) (qW T.range (aE (aU hu (aP 0 (aE (xI) a0))) a0)) (λ_ _ _ _=>gN 0) (λ_ _ _ _=>.nil) (λ_ _ _ _ _=>dY (aQ h0 uy hr (aP 1 (aP 0 a0))))))) PB.Oi
abbrev ku:Stmt:=top 11
def iC:aM ["web","kind","many","ties","places","joins"] ["web","kind"] (au ku):=by ac_rfl
def Al(T:Txt K mg)(r:Rec K "things_of" ku):kF P w K mg base:=
 bD T.ns r (by ac_nf) λF=>bT (m:=4) F iC rfl (by decide) (d:=lY) (λcdv A outer s H Ex hr=>have hu:=hr.units;af (x9 iC.nd (gC 2 (gC 3 g0)) (xV 0)) (af (aL 4 iC.nd (xU (bJ.st (B8 hu (aP 1 (aE (xS) a0)))) (cW a0) (NZ T.list T.range (aP 2 a0)))) (af (aL 5 iC.nd (xU (bJ.st (B8 hu (aP 1 (aE (xS) a0)))) (cW a0) (Rr T.list (aP 3 a0)))) (aj (cC (eT (aP 4 (aP 5 a0)))))))) PB.Og
abbrev jE:Stmt:=top 9
def xH:aM ["fars","tie"] ["fars","tie"] (au jE):=by ac_rfl
def xD(T:Txt K mg)(r:Rec K "nearer_end" jE):oV P w K mg base:=
 bD T.ns r (by ac_nf) λF=>bT (m:=0) F xH rfl (by decide) (d:=kN) (λcdv A outer s H Ex hr=>have hu:=hr.units;aj (cC (Pe T.min (aE (aU hu (aP 0 (aE (aU hu (aP 1 (aE (xI) a0))) a0))) (aE (aU hu (aP 0 (aE (aU hu (aP 1 (aE (xI) a0))) a0))) a0))))) PB.OS
abbrev kW:Stmt:=top 12
def Aj:aM ["fars","thing"] ["fars","thing"] (au kW):=by ac_rfl
def yb(T:Txt K mg)(h0:oV P w K mg base)(r:Rec K "thing_far" kW):pB P w K mg base:=
 bD T.ns r (by ac_nf) λF=>bT (m:=0) F Aj rfl (by decide) (d:=l7 Ea) (λcdv A outer s H Ex hr=>have hu:=hr.units;af (fT (bJ.st (AU (N4 T.kit T.isinstance T.int ZZ (aP 1 a0)))) (aj (cC (aU hu (aP 0 (aP 1 a0))))) (cj)) (aj (cC (aQ h0 aT hr (aP 0 (aP 1 a0)))))) PB.QS
abbrev jO:Stmt:=top 14
def xK:aM ["rows","one","other"] ["rows","one","other"] (au jO):=by ac_rfl
def xA(T:Txt K mg)(h0:pB P w K mg base)(r:Rec K "parters_by" jO):pA P w K mg base:=
 bD T.ns r (by ac_nf) λF=>bT (m:=2) F xK rfl (by decide) (d:=kC D5) (λcdv A outer s H Ex hr=>have hu:=hr.units;aj (cC (lz (vs:=["place","fars"]) (NB:=["place","fars","one","other"]) (ix:=[1,2]) (by rfl) (DP T.enumerate (xV 0)) (λ_ _ _ _=>gT (gC 0 (gC 1 g0))) (λ_ _ _ _=>.one (bJ.st (K2 hu (aE (aQ h0 uy hr (aP 1 (aP 2 a0))) (aE (aQ h0 uy hr (aP 1 (aP 3 a0))) a0))))) (λ_ _ _ _ _=>dY (xV 0))))) PB.Pu
abbrev mw:Stmt:=top 16
def fK:aM ["web","kind","rows","things","pairs","at","one"] ["web","kind"] (au mw):=by ac_rfl
def AH(T:Txt K mg)(h0:rj P w K mg base)(h1:kF P w K mg base)(h2:pA P w K mg base)(r:Rec K "pairs_of" mw):l5 P w K mg base:=
 bD T.ns r (by ac_nf) λF=>bT (m:=6) F fK rfl (by decide) (d:=nS CO v7 DU) (λcdv A outer s H Ex hr=>af (aL 2 fK.nd (aQ h0 aT hr (aP 0 a0))) (af (aL 3 fK.nd (aQ h1 aT hr (aP 0 (aP 1 a0)))) (af (aL 4 fK.nd (cW a0)) (af (fP W7 fK.nd (DP T.enumerate (xV 3)) (gT (gC 5 (gC 6 g0))) (aj (Um 4 fK.nd (lz (vs:=["other"]) (NB:=["other","one","rows"]) (ix:=[6,2]) (by rfl) (fj (NP (aP 3 (aE (eT (aP 5 (aE (xI) a0))) a0)))) (λ_ _ _ _=>gN 0) (λ_ _ _ _=>.nil) (λ_ _ _ _ _=>dY (dN (aP 1 (aP 0 (aE (aQ h2 uy hr (aP 2 (aP 1 (aP 0 a0)))) a0))))))))) (aj (lN 4)))))) PB.OL
abbrev kX:Stmt:=top 21
def dI:aM ["web","kind","pairs","bottom","base","rows","goal","shares","priced","prices"] ["web","kind"] (au kX):=by ac_rfl
def zY(T:Txt K mg)(h0:gc P w K mg base)(h1:lG P w K mg base)(h2:l5 P w K mg base)(h3:ni P w K mg base)(r:Rec K "shares_of" kX):pX P w K mg base:=
 bD T.ns r (by ac_nf) λF=>bT (m:=10) F dI rfl (by decide) (d:=lZ vE CV uY CN) (λcdv A outer s H Ex hr=>have hu:=hr.units;af (dB (aQ h0 aT hr (aP 0 a0))) (af (aL 2 dI.nd (aQ h1 aT hr (aE (aQ h2 aT hr (aP 0 (aP 1 a0))) a0))) (af (x9 dI.nd (gC 3 (gC 4 (gC 5 g0))) (aQ h3 aT hr (aP 2 (aE (aU hu (aP 0 (aE (xI) a0))) a0)))) (af (aL 6 dI.nd (aU hu (aP 5 (aE (l9 (aE (xI) a0)) a0)))) (af (aL 7 dI.nd (Nn (aP 6 (aE (lW T.len (aP 2 a0)) (aE (l9 (aE (xI) a0)) a0))))) (af (we (j:=8) dI.nd (vs:=["at","line"]) (NB:=["at","line","pairs"]) (ix:=[2]) (by rfl) (Dl T.zip (xV 4) (xV 5)) (λ_ _ _ _=>gT (gC 0 (gC 1 g0))) (λ_ _ _ _=>.one (bJ.st (zf (aP 0 (aE (lW T.len (aP 2 a0)) a0))))) (λ_ _ _ _ _=>dY (dN (aP 0 (aE (aU hu (aP 1 (aE (l9 (aE (xI) a0)) a0))) a0))))) (af (we (j:=9) dI.nd (vs:=["at","price"]) (NB:=["at","price","pairs"]) (ix:=[2]) (by rfl) (fj (xV 8)) (λ_ _ _ _=>gT (gC 0 (gC 1 g0))) (λ_ _ _ _=>.one (bJ.st (BN (aP 1 (aE (xI) a0))))) (λ_ _ _ _ _=>dY (dN (aE (aU hu (aE (aU hu (aP 2 (aP 0 a0))) (aE (xI) a0))) (aE (aU hu (aE (aU hu (aP 2 (aP 0 a0))) (aE (xI) a0))) (aP 1 a0)))))) (aj (cC (dN (aP 3 (aP 7 (aP 9 a0))))))))))))) PB.Qw
abbrev kE:Stmt:=top 35
def qk:aM ["_law_places","_law_one","_law_ends"] ["_law_places","_law_one"] (au kE):=by ac_rfl
def ye(T:Txt K mg)(r:Rec K "_law_thing" kE):ly P w K mg base:=
 bD T.ns r (by ac_nf) λF=>bT (m:=2) F qk rfl (by decide) (d:=gY) (λcdv A outer s H Ex hr=>have hu:=hr.units;af (fT (bJ.st (AU (N4 T.kit T.isinstance T.int ZZ (aP 1 a0)))) (aj (cC (aU hu (aP 0 (aP 1 a0))))) (cj)) (af (we (j:=2) qk.nd (vs:=["_law_end"]) (NB:=["_law_end","_law_places"]) (ix:=[0]) (by rfl) (fj (xV 1)) (λ_ _ _ _=>gN 0) (λ_ _ _ _=>.nil) (λ_ _ _ _ _=>dY (aU hu (aP 1 (aP 0 a0))))) (aj (cC (dN (aE (KN T.min (aP 2 a0)) (aE (K0 T.max (aP 2 a0)) a0))))))) PB.Nb
abbrev kG:Stmt:=top 36
def dQ:aM ["_law_places","_law_things_there","_law_told","_law_bottom","_law_shares","_law_prices","_law_found","_law_k","_law_rows","_law_one","_law_other","_law_price","_law_two"] ["_law_places","_law_things_there","_law_told"] (au kG):=by ac_rfl
def yV(T:Txt K mg)(h0:ly P w K mg base)(r:Rec K "_law_moved" kG):qm P w K mg base:=
 bD T.ns r (by ac_nf) λF=>bT (m:=10) F dQ rfl (by decide) (d:=gR vQ) (λcdv A outer s H Ex hr=>have hu:=hr.units;af (x9 dQ.nd (gC 3 (gC 4 (gC 5 g0))) (xV 2)) (af (aL 6 dQ.nd (f9 (aE (cW (aE (xI) a0)) (aE (lW T.len (aP 4 a0)) a0)))) (af (fP W7 dQ.nd (qW T.range (aE (lW T.len (aP 4 a0)) a0)) (gN 7) (aj (yX 6 hu (aU hu (aP 4 (aP 7 a0))) (aU hu (aP 0 (aP 7 a0)))))) (af (aL 8 dQ.nd (cW a0)) (af (fP W7 dQ.nd (fj (xV 5)) (gT (gC 9 (gC 10 (gC 11 g0)))) (af (aL 12 dQ.nd (cW (aE (aQ h0 aT hr (aP 0 (aP 9 a0))) (aE (aQ h0 aT hr (aP 0 (aP 10 a0))) a0)))) (uG (fT (bJ.st (BN (aE (KA 1 hu (aU hu (aP 12 (aE (xI) a0)))) (aE (KA 1 hu (aU hu (aP 12 (aE (xI) a0)))) a0)))) (aj (dB (xM 12 DX AK PySem.F.slot_list_reverse PySem.F.type_list_reverse (e0)))) (cj)) (aj (dB (xM 8 dF cV X3 X4 (eC (dN (aE (aU hu (aP 12 (aE (xI) a0))) (aE (aU hu (aP 12 (aE (xI) a0))) (aP 11 a0)))) e0))))))) (aj (cC (dN (aP 3 (aP 6 (aP 8 a0))))))))))) PB.Oz
abbrev iN:Stmt:=top 28
def dZ:aM ["parters_of_two","many","bottom","prices","priced","paid","one","other","price","place"] ["parters_of_two","many","bottom","prices"] (au iN):=by ac_rfl
def tw(T:Txt K mg)(r:Rec K "prices_right" iN):lI P w K mg base:=
 bD T.ns r (by ac_nf) λF=>bT (m:=6) F dZ rfl (by decide) (d:=jd) (λcdv A outer s H Ex hr=>have hu:=hr.units;af (aL 4 dZ.nd (RH T.set)) (af (aL 5 dZ.nd (f9 (aE (cW (aE (xI) a0)) (aP 1 a0)))) (af (fP W7 dZ.nd (fj (xV 3)) (gT (gC 6 (gC 7 (gC 8 g0)))) (af (fT (bJ.st (m9.wU (mK (zf (aP 8 (aE (xI) a0))) (mK (R9 0 hu (dN (aP 6 (aP 7 a0)))) (j7 (Ul 4 hu (dN (aP 6 (aP 7 a0))))))))) (aj (cC (xB))) (cj)) (af (dB (So 4 hu (dN (aP 6 (aP 7 a0))))) (aj (fP W7 dZ.nd (fj (Rj 0 hu (dN (aP 6 (aP 7 a0))))) (gN 9) (aj (Ud 5 9 8 hu))))))) (aj (cC (UX (aE (K0 T.max (aP 5 a0)) (aP 2 a0)))))))) PB.Px
abbrev gZ:Stmt:=top 27
def g8:aM ["web","kind","bottom","shares","prices","pairs","parters_of_two"] ["web","kind","bottom","shares","prices"] (au gZ):=by ac_rfl
def sQ(T:Txt K mg)(h0:gc P w K mg base)(h1:l5 P w K mg base)(h2:lI P w K mg base)(r:Rec K "shares_judged" gZ):kR P w K mg base:=
 bD T.ns r (by ac_nf) λF=>bT (m:=6) F g8 rfl (by decide) (d:=iJ vE uY D8) (λcdv A outer s H Ex hr=>have hu:=hr.units;af (dB (aQ h0 aT hr (aP 0 a0))) (af (aL 5 g8.nd (aQ h1 aT hr (aP 0 (aP 1 a0)))) (af (fT (bJ.st (m9.wU (mK (zf (aP 2 (aE (xI) a0))) (mK (K2 hu (aE (lW T.len (aP 3 a0)) (aE (aU hu (aP 0 (aE (xI) a0))) a0))) (j7 (AU (QU T.any (aE (lz (vs:=["share"]) (NB:=["share"]) (ix:=[]) (by rfl) (fj (xV 3)) (λ_ _ _ _=>gN 0) (λ_ _ _ _=>.nil) (λ_ _ _ _ _=>dY (JZ (aP 0 (aE (xI) a0))))) a0)))))))) (aj (cC (xB))) (cj)) (af (fT (bJ.st (AU (QU T.any (aE (lz (vs:=["one","other","parters"]) (NB:=["one","other","parters","shares","bottom"]) (ix:=[3,2]) (by rfl) (fj (xV 5)) (λ_ _ _ _=>gT (gC 0 (gC 1 (gC 2 g0)))) (λ_ _ _ _=>.nil) (λ_ _ _ _ _=>dY (JZ (aE (vB T.sum (aE (lz (vs:=["place"]) (NB:=["place","shares"]) (ix:=[3]) (by rfl) (fj (xV 2)) (λ_ _ _ _=>gN 0) (λ_ _ _ _=>.nil) (λ_ _ _ _ _=>dY (aU hu (aP 1 (aP 0 a0))))) a0)) (aP 4 a0))))) a0)))) (aj (cC (xB))) (cj)) (af (UE (j:=6) (vs:=["one","other","parters"]) (NB:=["one","other","parters"]) (ix:=[]) hu g8.nd (by rfl) (fj (xV 5)) (λ_ _ _ _=>gT (gC 0 (gC 1 (gC 2 g0)))) (λ_ _ _ _=>dN (aP 0 (aP 1 a0))) (λ_ _ _ _=>xV 2)) (aj (cC (Hi (aQ h2 aT hr (aP 6 (aE (aU hu (aP 0 (aE (xI) a0))) (aP 2 (aP 4 a0))))) (yh (Pk hu (aE (vB T.sum (aP 3 a0)) (aE (vB T.sum (aE (lz (vs:=["row"]) (NB:=["row"]) (ix:=[]) (by rfl) (fj (xV 4)) (λ_ _ _ _=>gN 0) (λ_ _ _ _=>.nil) (λ_ _ _ _ _=>dY (aU hu (aP 0 (aE (xI) a0))))) a0)) a0)))))))))))) PB.Qk
abbrev kK:Stmt:=top 37
def iK:aM ["_law_web_here","_law_other","_law_places","_law_kind","_law_told","_law_there","_law_bottom","_law_shares","_law_prices"] ["_law_web_here","_law_other","_law_places","_law_kind"] (au kK):=by ac_rfl
def Ak(T:Txt K mg)(h0:pX P w K mg base)(h1:qm P w K mg base)(h2:kF P w K mg base)(h3:kR P w K mg base)(r:Rec K "_law_right" kK):qt P w K mg base:=
 bD T.ns r (by ac_nf) λF=>bT (m:=5) F iK rfl (by decide) (d:=ia DV CK v7 Di) (λcdv A outer s H Ex hr=>have hu:=hr.units;af (aL 4 iK.nd (aQ h0 aT hr (aP 0 (aP 3 a0)))) (af (aL 5 iK.nd (aQ h0 aT hr (aP 1 (aP 3 a0)))) (af (fT (bJ.st (K2 hu (aE (f9 (aE (vB T.sum (aE (aU hu (aP 4 (aE (xI) a0))) a0)) (aE (aU hu (aP 5 (aE (xI) a0))) a0))) (aE (f9 (aE (vB T.sum (aE (aU hu (aP 5 (aE (xI) a0))) a0)) (aE (aU hu (aP 4 (aE (xI) a0))) a0))) a0)))) (aj (cC (xN))) (cj)) (af (x9 iK.nd (gC 6 (gC 7 (gC 8 g0))) (aQ h1 aT hr (aP 2 (aE (aQ h2 aT hr (aP 1 (aP 3 a0))) (aP 4 a0))))) (af (fT (QG (bJ.st (AU (aQ h3 aT hr (aP 1 (aP 3 (aP 6 (aP 7 (aP 8 a0))))))))) (aj (cC (xN))) (cj)) (aj (cC (dN (aE (vB T.sum (aP 7 a0)) (aP 6 a0)))))))))) PB.Pa
abbrev yD:Stmt:=top 38
def gI:aM ["_law_script","_law_purse_here","_law_web_here","_law_places","_law_ties","_law_other","_law_places_come","_law_ties_come","_law_all_come","_law_above","_law_below"] ["_law_script"] (au yD):=by ac_rfl
def Nz(T:Txt K mg)(h0:pC P w K mg base)(h1:uC P w K mg base)(h2:gM P w K mg base)(h3:kO P w K mg base)(h4:ly P w K mg base)(h5:qt P w K mg base){f:Addr}{fd:FuncData}(F:uF K "law" "law" yD f fd):gA P w K mg base (fh P w) 8 f fd ["_law_script"] (cF mg K [false] vC):=
 bT (m:=11) F gI rfl (by decide) (d:=mC DH Dd qZ BE vQ D6) (λcdv A outer s H Ex hr=>have hu:=hr.units;af (aL 1 gI.nd (aQ h0 aT hr (aP 0 (aE (xI) a0)))) (af (aL 2 gI.nd (FA h1 aT hr (a0) (aQ h0 aT hr (aP 0 (aE (xI) a0))) (aE (xI) (aE (eT (aE (xI) (aE (QY T.int (aE (Pk hu (aE (aQ h2 aT hr (aP 1 (aE (xI) a0))) (aE (xI) a0))) a0)) a0))) a0)))) (af (aL 3 gI.nd (FA h3 aT hr (a0) (aQ h0 aT hr (aP 0 (aE (xI) a0))) (aE (aU hu (aP 2 (aE (xI) a0))) a0))) (af (aL 4 gI.nd (Fz T.sorted (aE (lz (vs:=["_law_tie"]) (NB:=["_law_tie","_law_places"]) (ix:=[3]) (by rfl) (fj (aU hu (aP 2 (aE (xI) a0)))) (λ_ _ _ _=>gN 0) (λ_ _ _ _=>.nil) (λ_ _ _ _ _=>dY (aQ h4 uy hr (aP 1 (aP 0 a0))))) a0))) (af (aL 5 gI.nd (dN (aE (aU hu (aP 2 (aE (xI) a0))) (aE (HU T.tuple (aP 4 a0)) a0)))) (af (aL 6 gI.nd (aQ h5 aT hr (aP 2 (aP 5 (aP 3 (aE (xS) a0)))))) (af (aL 7 gI.nd (aQ h5 aT hr (aP 2 (aP 5 (aP 3 (aE (xS) a0)))))) (af (fT (bJ.st (m9.wU (mK (Hh (aP 6 (aE (xN) a0))) (j7 (Hh (aP 7 (aE (xN) a0))))))) (aj (cC (xB))) (cj)) (af (aL 8 gI.nd (aQ h5 aT hr (aP 2 (aP 5 (aP 3 (aE (xS) a0)))))) (af (fT (bJ.st (Hh (aP 8 (aE (xN) a0)))) (aj (cC (xB))) (cj)) (af (fP W7 gI.nd (fj (cW (aP 6 (aP 7 a0)))) (gT (gC 9 (gC 10 g0))) (aj (fT (bJ.st (zf (aE (f9 (aE (aU hu (aP 8 (aE (xI) a0))) (aP 10 a0))) (aE (f9 (aP 9 (aE (aU hu (aP 8 (aE (xI) a0))) a0))) a0)))) (aj (cC (xB))) (cj)))) (aj (cC (xB)))))))))))))) PB.Io
def all_mk{l:OpenLaw}{w:World}{K:Frag}{h:Heap}{mg:Zp}{fa:Addr}(X:K.In h)(G:h.Ns mainGlobals mg)(hfa:mg "law"=some (.ref fa))(qd00:Rec K "_law_purse" k8)(qd01:Rec K "_law_take" lV)(qd02:Rec K "_law_pairs" kU)(qd03:Rec K "_law_order" kY)(qd04:Rec K "_law_web" nI)(qd05:Rec K "refuse_too_many" fY)(qd06:Rec K "unlike_pairs" iF)(qd07:Rec K "first_rows" jN)(qd08:Rec K "is_tighter" jP)(qd09:Rec K "tightest" lX)(qd10:Rec K "turned" qq)(qd11:Rec K "best_prices" i6)(qd12:Rec K "refuse_no_place" gg)(qd13:Rec K "neighbour_lists" fZ)(qd14:Rec K "fars_or_none" iR)(qd15:Rec K "fars_from" kq)(qd16:Rec K "far_rows" lU)(qd17:Rec K "things_of" ku)(qd18:Rec K "nearer_end" jE)(qd19:Rec K "thing_far" kW)(qd20:Rec K "parters_by" jO)(qd21:Rec K "pairs_of" mw)(qd22:Rec K "shares_of" kX)(qd23:Rec K "_law_thing" kE)(qd24:Rec K "_law_moved" kG)(qd25:Rec K "prices_right" iN)(qd26:Rec K "shares_judged" gZ)(qd27:Rec K "_law_right" kK)(qd28:Rec K "law" yD)(zany:nsIn K mainGlobals "any"=some none)(zenumerate:nsIn K mainGlobals "enumerate"=some none)(zint:nsIn K mainGlobals "int"=some none)(zisinstance:nsIn K mainGlobals "isinstance"=some none)(zlen:nsIn K mainGlobals "len"=some none)(zlist:nsIn K mainGlobals "list"=some none)(zmax:nsIn K mainGlobals "max"=some none)(zmin:nsIn K mainGlobals "min"=some none)(zrange:nsIn K mainGlobals "range"=some none)(zset:nsIn K mainGlobals "set"=some none)(zsorted:nsIn K mainGlobals "sorted"=some none)(zsum:nsIn K mainGlobals "sum"=some none)(ztuple:nsIn K mainGlobals "tuple"=some none)(zzip:nsIn K mainGlobals "zip"=some none)(gMOST_SHARED:∃t,nsIn K mainGlobals "MOST_SHARED"=some (some (.int 7 t)))(xNoPlace:Nh K "NoPlace")(kit:yi K ["int"]=true) : ∃fd:FuncData,(∀(s:Shared)(v:Value),BindsTo s fd ⟨[v],[]⟩ [("_law_script",v)])/\∀base:Heap,K.In base->base.Ns mainGlobals mg->gA l.prog w K mg base (fh l.prog w) 8 fa fd ["_law_script"] (cF mg K [false] vC):=by have T:Txt K mg:=⟨WZ X G zany,WZ X G zenumerate,WZ X G zint,WZ X G zisinstance,WZ X G zlen,WZ X G zlist,WZ X G zmax,WZ X G zmin,WZ X G zrange,WZ X G zset,WZ X G zsorted,WZ X G zsum,WZ X G ztuple,WZ X G zzip,(let⟨t,ht⟩:=gMOST_SHARED;⟨t,mg_of X G ht⟩),(let⟨C,h1,h2⟩:=xNoPlace;⟨C,mg_of X G h1,h2⟩),kit,⟨h,X,G⟩⟩;obtain⟨fl,fdl,nl,Fl⟩:=qd28;have e:=hfa.symm.trans (mg_of X G nl);cases e;refine⟨fdl,?_,λbase _ _=>?_⟩;{obtain⟨_,_,_,_,_,_,_,_,_,rfl,_,_⟩:=Fl.ex;exact λs v=>.of_eq rfl};have Hd00:=zp (P:=l.prog) (w:=w) (base:=base) T qd00;have Hd01:=Aw (P:=l.prog) (w:=w) (base:=base) T qd01;have Hd02:=y9 T Hd01 qd02;have Hd03:=yS T Hd01 qd03;have Hd04:=Ec T Hd01 Hd02 Hd03 qd04;have Hd05:=qf (P:=l.prog) (w:=w) (base:=base) T qd05;have Hd06:=uv (P:=l.prog) (w:=w) (base:=base) T qd06;have Hd07:=xE (P:=l.prog) (w:=w) (base:=base) T qd07;have Hd08:=xJ (P:=l.prog) (w:=w) (base:=base) T qd08;have Hd09:=Ay T Hd08 qd09;have Hd10:=ED (P:=l.prog) (w:=w) (base:=base) T qd10;have Hd11:=vU T Hd07 Hd09 Hd10 qd11;have Hd12:=pP (P:=l.prog) (w:=w) (base:=base) T qd12;have Hd13:=pY (P:=l.prog) (w:=w) (base:=base) T qd13;have Hd14:=uh T Hd13 qd14;have Hd15:=zl T Hd12 Hd14 qd15;have Hd16:=Ax T Hd15 qd16;have Hd17:=Al (P:=l.prog) (w:=w) (base:=base) T qd17;have Hd18:=xD (P:=l.prog) (w:=w) (base:=base) T qd18;have Hd19:=yb T Hd18 qd19;have Hd20:=xA T Hd19 qd20;have Hd21:=AH T Hd16 Hd17 Hd20 qd21;have Hd22:=zY T Hd05 Hd06 Hd21 Hd11 qd22;have Hd23:=ye (P:=l.prog) (w:=w) (base:=base) T qd23;have Hd24:=yV T Hd23 qd24;have Hd25:=tw (P:=l.prog) (w:=w) (base:=base) T qd25;have Hd26:=sQ T Hd05 Hd21 Hd25 qd26;have Hd27:=Ak T Hd22 Hd24 Hd17 Hd26 qd27;exact Nz T Hd00 Hd04 Hd01 Hd03 Hd23 Hd27 Fl
def walk{l:OpenLaw}{q:Program}{loose:A07}{XP:(Zp)->Heap->Prop}{YP:World->Heap->Prop}{d:DefRec}{K:Params->Frag}(hn:l.most=some 63)(hdf:d.params.defaults=[])(hY:∀(w:World)(h:Heap),YP w h->(K w.params).In h)(F:∀(w:World)(mg:Zp)(fa:Addr)(h:Heap),(K w.params).In h->h.Ns mainGlobals mg->mg d.name=some (.ref fa)-> ∃fd:FuncData,(∀(s:Shared)(u:Value),BindsTo s fd ⟨[u],[]⟩ [("_law_script",u)])/\∀base:Heap,(K w.params).In base->base.Ns mainGlobals mg->gA l.prog w (K w.params) mg base (fh l.prog w) 8 fa fd ["_law_script"] (cF mg (K w.params) [false] vC)) : WalkO q loose XP YP l.row.toRowW d [] (λf vs=>PySem.call f vs):=GQ hn hdf ⟨rfl,by decide,by decide⟩ hY F
end PC
open PySem PySem.W PyProof.Rows Dv
set_option maxRecDepth 100000 in
set_option maxHeartbeats 0 in
theorem PySem.Challenge.cw_farhail_k51_whole_shares_numbered_otherw_holds : PySem.Challenge.rw_farhail_k51_whole_shares_numbered_otherw.Holds := by
 w_on;o_law;k_head;(case hw=>w_witness2)
 k_fill
 refine PC.walk (l:=PySem.Challenge.rw_farhail_k51_whole_shares_numbered_otherw) rfl rfl (λw h AAB=>PySem.W.kIn_of AAB) ?F
 case F=>
  intro w mg fa h KX G hmg
  refine' PC.all_mk KX G hmg ?_ ?_ ?_ ?_ ?_ ?_ ?_ ?_ ?_ ?_ ?_ ?_ ?_ ?_ ?_ ?_ ?_ ?_ ?_ ?_ ?_ ?_ ?_ ?_ ?_ ?_ ?_ ?_ ?_ ?_ ?_ ?_ ?_ ?_ ?_ ?_ ?_ ?_ ?_ ?_ ?_ ?_ ?_ ?_ ?_ ?_
  iterate 29
   apply Qi
   iterate 4 (first|k_is|kernel_rfl)
  iterate 15
   first|k_is|kernel_rfl|(apply Exists.intro;first|k_is|kernel_rfl)
  iterate 1
   apply LU
   iterate 2 (first|k_is|kernel_rfl)
  all_goals first|kernel_rfl|k_is
